import Derived.Test.YtfoahfgehmghcaaGreatDoorGCyc
/- Contract of cycle. -/
namespace Go.Proofs.YtfoahfgehmghcaaGreatDoor
namespace Gr
open Go.RowKit

theorem lit64_eq : (#[.bool false, .bool false, .bool false, .bool false, .bool false, .bool false, .bool false, .bool false, .bool false, .bool false, .bool false, .bool false, .bool false, .bool false, .bool false, .bool false, .bool false, .bool false, .bool false, .bool false, .bool false, .bool false, .bool false, .bool false, .bool false, .bool false, .bool false, .bool false, .bool false, .bool false, .bool false, .bool false, .bool false, .bool false, .bool false, .bool false, .bool false, .bool false, .bool false, .bool false, .bool false, .bool false, .bool false, .bool false, .bool false, .bool false, .bool false, .bool false, .bool false, .bool false, .bool false, .bool false, .bool false, .bool false, .bool false, .bool false, .bool false, .bool false, .bool false, .bool false, .bool false, .bool false, .bool false, .bool false] : Array Value) = none64 := by rw [← none64_eq]; rfl
theorem eg_out {xs : List No} {a : Nat} (h : xs.length ≤ a) : eg xs a = [] := by
  unfold eg; rw [List.getElem?_eq_none h]
set_option maxRecDepth 100000 in
set_option maxHeartbeats 4000000 in
theorem cycle_any (s : Option Addr × Nat × Nat) (xs : List No) (B : Nat) (w : World) (hP : RdP B w s xs) (hB : B ≤ w.heap.size) (hv : Val xs) :
    Calls Tryz.prog 29 #[.slice s.1 s.2.1 s.2.2] w fun e w' => (∃ c : Nat, e = .returned (.int .i64 (c : Int)) ∧ c ≤ xs.length ∧ IsCyc (eg xs) c) ∧ Keep (fun _ => False) w w' := by
  obtain ⟨a, n, c⟩ := s
  have HP := hide hP
  have HN : Hid (n = xs.length) := hP.1
  have hl : n ≤ 64 := by have := hP.1; have := hv.1; simp at *; omega
  clear hP
  go_enter Tryz.func29, Tryz.ntmps29
  go_wp2_with fail
  have K0 := hide (Keep.alloc (fun _ => False) w (.cells #[.slice a n c] 22))
  have hcn0 : (w.alloc (.cells #[.slice a n c] 22)).cell? ⟨w.heap.size, 0, none⟩ = some (.slice a n c) := by rw [World.cell?_alloc_mark]; rfl
  have CN := hide hcn0
  have HSZ := hide (show (w.alloc (.cells #[.slice a n c] 22)).heap.size = w.heap.size + 1 by simp)
  clear hcn0
  generalize w.alloc (.cells #[.slice a n c] 22) = w0 at *
  go_loopw [8] (fun iv wr => ∃ (i : Nat), iv = .int .i64 (i : Nat) ∧ i ≤ n ∧ Hid (Keep (fun _ => False) w0 wr ∧ ∀ m, m < i → ¬ Back (eg xs) m m)) (fun iv _ => n - (intOf iv).toNat)
  case atStart => exact ⟨0, rfl, Nat.zero_le _, Keep.refl _ _, fun m h => by omega⟩
  case round =>
    obtain ⟨i, rfl, hi, HD⟩ := hrel
    by_cases hlt : i < n
    · have hlit := lit64_eq
      obtain ⟨fv, hfv⟩ : ∃ fv, fv = Value.func (.func 54) #[] #[.pointer (some ⟨wr.heap.size, 0, none⟩), .pointer (some ⟨wr.heap.size + 1, 0, none⟩), .pointer (some ⟨wr.heap.size + 1 + 1, 0, none⟩), .pointer (some ⟨w.heap.size, 0, none⟩)] := ⟨_, rfl⟩
      obtain ⟨V, hV⟩ : ∃ V, V = ((wr.alloc (.cells #[.int .i64 (i : Int)] 3)).alloc (.cells #[.bool false, .bool false, .bool false, .bool false, .bool false, .bool false, .bool false, .bool false, .bool false, .bool false, .bool false, .bool false, .bool false, .bool false, .bool false, .bool false, .bool false, .bool false, .bool false, .bool false, .bool false, .bool false, .bool false, .bool false, .bool false, .bool false, .bool false, .bool false, .bool false, .bool false, .bool false, .bool false, .bool false, .bool false, .bool false, .bool false, .bool false, .bool false, .bool false, .bool false, .bool false, .bool false, .bool false, .bool false, .bool false, .bool false, .bool false, .bool false, .bool false, .bool false, .bool false, .bool false, .bool false, .bool false, .bool false, .bool false, .bool false, .bool false, .bool false, .bool false, .bool false, .bool false, .bool false, .bool false] 111)).alloc (.cells #[fv] 112) := ⟨_, rfl⟩
      have kV : Keep (fun _ => False) wr V := by rw [hV]; exact ((Keep.alloc _ _ _).more (Keep.alloc _ _ _)).more (Keep.alloc _ _ _)
      have b1 : V.heap[wr.heap.size]? = some (.cells #[.int .i64 (i : Int)] 3 (0, 0)) := by
        rw [hV]
        exact (Keep.alloc (fun _ => False) _ _).blk ((Keep.alloc (fun _ => False) _ _).blk (heap_alloc_new wr _) (fun f => f)) (fun f => f)
      have b2 : V.heap[wr.heap.size + 1]? = some (.cells none64 111 (0, 0)) := by
        rw [hV, hlit]
        refine (Keep.alloc (fun _ => False) _ _).blk ?_ (fun f => f)
        have := heap_alloc_new (wr.alloc (.cells #[.int .i64 (i : Int)] 3)) (.cells none64 111)
        rwa [World.size_alloc] at this
      have b3 : V.heap[wr.heap.size + 1 + 1]? = some (.cells #[fv] 112 (0, 0)) := by
        rw [hV]
        have := heap_alloc_new ((wr.alloc (.cells #[.int .i64 (i : Int)] 3)).alloc (.cells #[.bool false, .bool false, .bool false, .bool false, .bool false, .bool false, .bool false, .bool false, .bool false, .bool false, .bool false, .bool false, .bool false, .bool false, .bool false, .bool false, .bool false, .bool false, .bool false, .bool false, .bool false, .bool false, .bool false, .bool false, .bool false, .bool false, .bool false, .bool false, .bool false, .bool false, .bool false, .bool false, .bool false, .bool false, .bool false, .bool false, .bool false, .bool false, .bool false, .bool false, .bool false, .bool false, .bool false, .bool false, .bool false, .bool false, .bool false, .bool false, .bool false, .bool false, .bool false, .bool false, .bool false, .bool false, .bool false, .bool false, .bool false, .bool false, .bool false, .bool false, .bool false, .bool false, .bool false, .bool false] 111)) (.cells #[fv] 112)
        rwa [World.size_alloc, World.size_alloc] at this
      clear hlit
      have hle : w.heap.size + 1 ≤ wr.heap.size := by have := HSZ.out; have := HD.out.1.size; omega
      have kF : Keep (fun _ => False) w0 V := HD.out.1.more kV
      have E0 : CEnv B (a, n, c) xs wr.heap.size (wr.heap.size + 1) (wr.heap.size + 1 + 1) w.heap.size i V (fun _ => false) :=
        ⟨cell_blk b1 0 rfl, b2, by rw [← hfv]; exact cell_blk b3 0 rfl, kF.cell CN.out (fun f => f), (HP.out.new K0.out).new kF, by omega, by omega, by omega, by omega⟩
      have KR := hide kF
      have hsf := fun (w : World) (a : Addr) (m : Mode) (f : Fn) (x y : Array Value) => run_store Tryz.prog w a (.func f x y) m rfl
      have L := hide (leadsBack_any (B := B) (s := (a, n, c)) (Pf := wr.heap.size) (Ps := wr.heap.size + 1) (Pl := wr.heap.size + 1 + 1) (Pn := w.heap.size) (f := i) hv (cnt fun _ => false) i (fun _ => false) V (by have := HN.out; omega) rfl E0)
      have HS0 := hide (show w0.heap.size ≤ wr.heap.size from HD.out.1.size)
      have HV := hide hV
      have HF := hide hfv
      have hin : i < xs.length := by have := HN.out; omega
      clear E0 b1 b2 b3 kV kF hV hfv
      go_wp2_with fail
      go_at_call 54
      rw [← HF.out, ← HV.out]
      refine L.out.mono ?_
      rintro e w2 ⟨r, τ, rfl, hE, hS, k2⟩
      have HB := hide (hS.whole (fun x h => by cases h))
      have c1 := hE.cf
      have K2 : Hid (Keep (fun _ => False) w0 w2) := KR.out.trans k2 fun k e => .inr (by have := HS0.out; omega)
      clear hE hS k2 L HV
      cases r
      · have hnb := fun h => Bool.false_ne_true (HB.out.2 h)
        have HNB := hide hnb
        clear hnb
        go_wp2_with fail
        go_roundw
        · refine ⟨i + 1, rfl, by omega, K2.out, fun m hm => ?_⟩
          by_cases e : m = i
          · subst e; exact HNB.out
          · exact HD.out.2 m (by omega)
        · show n - ((i : Int) + 1).toNat < n - (i : Int).toNat
          omega
      · have HBB := hide (HB.out.1 rfl)
        go_wp2_with fail
        go_ret
        exact ⟨⟨i + 1, rfl, by omega, isCyc_some HD.out.2 HBB.out⟩, K0.out.more K2.out⟩
    · obtain rfl : i = n := by omega
      go_wp2_with fail
      go_ret
      exact ⟨⟨0, rfl, Nat.zero_le _, isCyc_none (n := i) (fun a ha => eg_out (by have := HN.out; omega)) HD.out.2⟩, K0.out.more HD.out.1⟩
end Gr
end Go.Proofs.YtfoahfgehmghcaaGreatDoor

/- Contract of Check. -/
namespace Go.Proofs.YtfoahfgehmghcaaGreatDoor
namespace Gr
open Go.RowKit

theorem lOk_in {ah own cnt : Int} {z : List Int} (h : lOk ah z own cnt = true) : ∀ e ∈ z, ah < e ∧ e < cnt ∧ e ≠ own := by
  induction z generalizing ah with
  | nil => intro e he; cases he
  | cons x z ih =>
    unfold lOk at h
    simp only [Bool.and_eq_true, Bool.not_eq_true', Bool.or_eq_false_iff, decide_eq_false_iff_not] at h
    obtain ⟨⟨⟨h1, h2⟩, h3⟩, h4⟩ := h
    intro e he
    rcases List.mem_cons.1 he with rfl | he
    · exact ⟨by omega, by omega, h3⟩
    · have := ih h4 e he; exact ⟨by omega, this.2⟩
/-- what holds of nodes with which nothing is wrong -/
theorem cN_ok {n : Nat} : ∀ {xs : List No} {i : Nat} {seen : List ByteArray}, (cN n i seen xs).2 = 0 → ∀ k x, xs[k]? = some x → isNm x.q.nm = true ∧ fOk x.q = true ∧ eOk x ((i + k : Nat) : Int) n = true := by
  intro xs
  induction xs with
  | nil => intro i seen _ k x hx; simp at hx
  | cons y xs ih =>
    intro i seen h k x hx
    unfold cN at h
    split at h
    · cases h
    · rename_i c1
      split at h
      · cases h
      · rename_i c2
        split at h
        · cases h
        · rename_i c3
          cases k with
          | zero =>
            obtain rfl : y = x := by simpa using hx
            simp only [Bool.or_eq_true, Bool.not_eq_true', not_or, Bool.not_eq_false] at c1
            exact ⟨c1.1, by simpa using c2, by simpa using c3⟩
          | succ k =>
            have := ih h k x (by simpa using hx)
            rw [show i + (k + 1) = i + 1 + k by omega]
            exact this
theorem cN_val {xs : List No} (hl : xs.length ≤ 64) (h : (cN xs.length 0 [] xs).2 = 0) : Val xs := by
  refine ⟨hl, fun x hx e he => ?_⟩
  obtain ⟨k, hk⟩ := List.getElem?_of_mem hx
  obtain ⟨_, _, h3⟩ := cN_ok h k x hk
  unfold eOk at h3
  simp only [Bool.and_eq_true] at h3
  rcases List.mem_append.1 he with he | he
  · have := lOk_in h3.1.1 e he; omega
  · have := lOk_in h3.1.2 e he; omega
theorem cN_zero {n : Nat} : ∀ {xs : List No} {i : Nat} {seen : List ByteArray}, (cN n i seen xs).2 = 0 → cN n i seen xs = (0, 0) := by
  intro xs
  induction xs with
  | nil => intro i seen _; rfl
  | cons y xs ih =>
    intro i seen h
    unfold cN at h ⊢
    split at h
    · cases h
    · rename_i c1
      rw [if_neg c1]
      split at h
      · cases h
      · rename_i c2
        rw [if_neg c2]
        split at h
        · cases h
        · rename_i c3
          rw [if_neg c3]
          exact ih h
theorem cN_le {n : Nat} : ∀ {xs : List No} {i : Nat} {seen : List ByteArray}, (cN n i seen xs).1 ≤ i + xs.length := by
  intro xs
  induction xs with
  | nil => intro i seen; simp [cN]
  | cons y xs ih =>
    intro i seen
    unfold cN
    split
    · simp
    · split
      · simp
      · split
        · simp
        · have := ih (i := i + 1) (seen := y.q.nm :: seen); simp; omega

/-- the node that waits for itself -/
noncomputable def cyc (xs : List No) : Nat := Classical.epsilon (IsCyc (eg xs))
theorem cyc_eq {xs : List No} {c : Nat} (h : IsCyc (eg xs) c) : cyc xs = c := (Classical.epsilon_spec (p := IsCyc (eg xs)) ⟨c, h⟩).uniq h
noncomputable def chk (nm : ByteArray) (dl : Int) (xs : List No) : Nat × Nat :=
  if cW nm dl xs ≠ 0 then (0, cW nm dl xs) else if (cN xs.length 0 [] xs).2 ≠ 0 then cN xs.length 0 [] xs else if cyc xs ≠ 0 then (cyc xs, 106) else (0, 0)
theorem cW_len {nm : ByteArray} {dl : Int} {xs : List No} (h : cW nm dl xs = 0) : 1 ≤ xs.length ∧ xs.length ≤ 64 := by
  unfold cW at h
  split at h
  · cases h
  · split at h
    · cases h
    · split at h
      · cases h
      · rename_i c
        unfold wI at c
        simp at c
        omega
/-- plans that may be -/
theorem chk_ok {nm : ByteArray} {dl : Int} {xs : List No} (h : (chk nm dl xs).2 = 0) : cW nm dl xs = 0 ∧ (cN xs.length 0 [] xs).2 = 0 ∧ 1 ≤ xs.length ∧ Val xs ∧ cyc xs = 0 := by
  unfold chk at h
  split at h
  · rename_i c; exact absurd h c
  · rename_i c
    have c : cW nm dl xs = 0 := by simpa using c
    split at h
    · rename_i c2; exact absurd h c2
    · rename_i c2
      have c2 : (cN xs.length 0 [] xs).2 = 0 := by simpa using c2
      split at h
      · cases h
      · rename_i c3
        exact ⟨c, c2, (cW_len c).1, cN_val (cW_len c).2 c2, by simpa using c3⟩

/-- sizes that a memory can have -/
def Sz (nm : ByteArray) (xs : List No) : Prop := nm.size ≤ 9223372036854775807 ∧ ∀ x ∈ xs, x.q.nm.size ≤ 9223372036854775807

set_option maxHeartbeats 4000000 in
theorem check_any (nm : ByteArray) (dl : Int) (s : Option Addr × Nat × Nat) (xs : List No) (B : Nat) (w : World) (hP : RdP B w s xs) (hB : B ≤ w.heap.size) (hs : Sz nm xs) :
    Calls Tryz.prog 14 #[.agg #[.string nm, .int .i64 dl, .slice s.1 s.2.1 s.2.2]] w fun e w' => e = .returned (.tuple #[.int .i64 ((chk nm dl xs).1 : Nat), .int .i64 ((chk nm dl xs).2 : Nat)]) ∧ Keep (fun _ => False) w w' := by
  have HR : Hid (chk nm dl xs = if cW nm dl xs ≠ 0 then (0, cW nm dl xs) else if (cN xs.length 0 [] xs).2 ≠ 0 then cN xs.length 0 [] xs else if cyc xs ≠ 0 then (cyc xs, 106) else (0, 0)) := rfl
  obtain ⟨a, n, c⟩ := s
  have hnx : n = xs.length := hP.1
  have KW := hide (Keep.alloc (fun _ => False) w (.cells #[.string nm, .int .i64 dl, .slice a n c] 24))
  have cell2 : (w.alloc (.cells #[.string nm, .int .i64 dl, .slice a n c] 24)).cell? ⟨w.heap.size, 2, none⟩ = some (.slice a n c) := by rw [World.cell?_alloc_mark]; rfl
  have C2 := hide cell2
  have CW := hide (checkWhole_any nm dl _ _ _ _ (hP.new KW.out) hs.1)
  have CN := hide (fun w' hk hl => checkNodes_any _ _ _ w' ((hP.new KW.out).new hk) hl hs.2)
  have CC := hide (fun w' (hk : Keep (fun _ => False) (w.alloc (.cells #[.string nm, .int .i64 dl, .slice a n c] 24)) w') hv => cycle_any _ _ _ w' ((hP.new KW.out).new hk) (by have := hk.size; have := KW.out.size; omega) hv)
  have HL := hide (cW_len (nm := nm) (dl := dl) (xs := xs))
  have HV := hide (cN_val (xs := xs))
  have HZ := hide (cN_zero (n := xs.length) (xs := xs) (i := 0) (seen := []))
  generalize chk nm dl xs = R at *
  generalize cW nm dl xs = r1 at *
  generalize cN xs.length 0 [] xs = r2 at *
  obtain ⟨R1, R2⟩ := R
  obtain ⟨r2a, r2b⟩ := r2
  have HNX := hide hnx
  clear hP hs cell2 hnx
  go_enter Tryz.func14, Tryz.ntmps14
  go_wp2_with fail
  go_at_call 27
  refine CW.out.mono ?_
  rintro e w1 ⟨rfl, k1⟩
  have K1 := hide k1
  have c2 := k1.cell C2.out fun f => f
  clear k1
  by_cases h1 : r1 = 0
  · subst h1
    have hr := HR.out
    rw [if_neg (by simp)] at hr
    have HR2 := hide hr
    clear hr HR
    have hlen := HL.out rfl
    have CN1 := hide (CN.out w1 K1.out (show n ≤ 64 by have := HNX.out; omega))
    go_wp2_with fail
    go_at_call 28
    refine CN1.out.mono ?_
    rintro e w2 ⟨rfl, k2⟩
    have K2 := hide (K1.out.more k2)
    have c2 := k2.cell c2 fun f => f
    clear k2 CN1 CN CW
    by_cases h2 : r2b = 0
    · subst h2
      obtain ⟨rfl, _⟩ := Prod.mk.inj (HZ.out rfl)
      have hr := HR2.out
      rw [if_neg (by simp)] at hr
      have HR3 := hide hr
      clear hr HR2
      have CC1 := hide (CC.out w2 K2.out (HV.out hlen.2 rfl))
      go_wp2_with fail
      go_at_call 29
      refine CC1.out.mono ?_
      rintro e w3 ⟨⟨cc, rfl, hcl, hcy⟩, k3⟩
      have K3 := hide (KW.out.more (K2.out.more k3))
      have hr := HR3.out
      rw [cyc_eq hcy] at hr
      clear k3 CC CC1 hcy HR3
      by_cases h3 : cc = 0
      · subst h3
        rw [if_neg (by simp)] at hr
        obtain ⟨rfl, rfl⟩ := Prod.mk.inj hr
        clear hr
        go_wp2_with fail
        go_ret2
        exact ⟨rfl, K3.out⟩
      · rw [if_pos h3] at hr
        obtain ⟨rfl, rfl⟩ := Prod.mk.inj hr
        clear hr
        go_wp2_with fail
        go_ret2
        exact ⟨rfl, K3.out⟩
    · have hr := HR2.out
      rw [if_pos h2] at hr
      obtain ⟨rfl, rfl⟩ := Prod.mk.inj hr
      clear hr
      go_wp2_with fail
      go_ret2
      exact ⟨rfl, KW.out.more K2.out⟩
  · have hr := HR.out
    rw [if_pos h1] at hr
    obtain ⟨rfl, rfl⟩ := Prod.mk.inj hr
    clear hr
    go_wp2_with fail
    go_ret2
    exact ⟨rfl, KW.out.more K1.out⟩
end Gr
end Go.Proofs.YtfoahfgehmghcaaGreatDoor

/- Chapter 11: texts, lines, words, and what a text says: the mathematics. -/
namespace Go.Proofs.YtfoahfgehmghcaaGreatDoor
namespace U

/-- bytes as a string -/
def ba (l : List UInt8) : ByteArray := ⟨l.toArray⟩
theorem ba_data (l : List UInt8) : (ba l).data.toList = l := by simp [ba]
theorem ba_of (s : ByteArray) : ba s.data.toList = s := by cases s; simp [ba]
theorem ba_inj {a b : List UInt8} (h : ba a = ba b) : a = b := by have := congrArg (fun s : ByteArray => s.data.toList) h; simpa [ba] using this
theorem ba_size (l : List UInt8) : (ba l).size = l.length := by simp [ba, ByteArray.size]
theorem ba_eq (a b : List UInt8) : (ba a = ba b) = (a = b) := propext ⟨ba_inj, fun h => by rw [h]⟩

def isBl (b : UInt8) : Bool := b == 32 || b == 9
/-- The words of a text behind what is gathered of one. -/
def wordsA : List UInt8 → List UInt8 → List (List UInt8)
  | cur, [] => if cur.isEmpty then [] else [cur]
  | cur, b :: r => if isBl b then (if cur.isEmpty then wordsA [] r else cur :: wordsA [] r) else wordsA (cur ++ [b]) r
def words (s : List UInt8) : List (List UInt8) := wordsA [] s
/-- A text ahead of the first of a sign. -/
def ahead (c : UInt8) : List UInt8 → List UInt8
  | [] => []
  | b :: r => if b = c then [] else b :: ahead c r
/-- A text cut at all of a sign. -/
def splitOn (c : UInt8) : List UInt8 → List (List UInt8)
  | [] => [[]]
  | b :: r => if b = c then [] :: splitOn c r else match splitOn c r with
    | h :: t => (b :: h) :: t
    | [] => [[b]]
/-- a line's words -/
def wordsOf (l : List UInt8) : List (List UInt8) := words (ahead 35 l)

/-- is a word a name? -/
def nmL (l : List UInt8) : Bool := decide (1 ≤ l.length) && decide (l.length ≤ 40) && l.all Gr.inNm
def digB (b : UInt8) : Bool := decide (48 ≤ b.toNat) && decide (b.toNat ≤ 57)
/-- The number that digits make, none if it is too great or opens with a 0 that it may not. -/
def numL : Bool → Nat → List UInt8 → Option Nat
  | _, n, [] => some n
  | f, n, b :: r => if digB b = true ∧ (f = true ∨ n ≠ 0) ∧ n * 10 + (b.toNat - 48) ≤ 4611686018427387903 then numL false (n * 10 + (b.toNat - 48)) r else none
def num (l : List UInt8) : Option Nat := if l = [] then none else numL true 0 l

/-- a node as a text says it: its numbers, its lists -/
structure Pn where
  nm : List UInt8
  la : Int
  bu : Int
  cl : Int
  be : Int
  bs : Int
  ca : Int
  ji : Int
  nl : List Int
  al : List Int
/-- a line of needs (kind 0) or after (kind 1) -/
structure Mn where
  place : Nat
  node : Nat
  kind : Nat
  names : List (List UInt8)
/-- a plan that is being read -/
structure Dr where
  nm : List UInt8
  dl : Int
  nds : List Pn
  place : Nat
  places : List Nat
  hn : Bool
  ha : Bool
  ms : List Mn
def Dr.new : Dr := ⟨[], 0, [], 0, [], false, false, []⟩

/-- a line whose words are taken: those that are left, and whether one did not fit -/
abbrev Ln : Type := List (List UInt8) × Bool
def hd (ws : List (List UInt8)) : List UInt8 := ws.headD []
def tkName (s : List (List UInt8) × Bool) : List UInt8 × Ln := (hd s.1, (s.1.tail, s.2 || !nmL (hd s.1)))
def tkNum (kw : List UInt8) (s : List (List UInt8) × Bool) : Int × Ln := (((num (hd s.1.tail)).getD 0 : Nat), (s.1.tail.tail, s.2 || !decide (hd s.1 = kw) || (num (hd s.1.tail)).isNone))
def fits (s : List (List UInt8) × Bool) : Bool := !s.2 && s.1.isEmpty
/-- what may be left out -/
def tkOpt (kw : List UInt8) (z : Int) (s : List (List UInt8) × Bool) : Int × Ln := if hd s.1 = kw then tkNum kw s else (z, s)

def kwPlan : List UInt8 := [112, 108, 97, 110]
def kwNode : List UInt8 := [110, 111, 100, 101]
def kwNeeds : List UInt8 := [110, 101, 101, 100, 115]
def kwAfter : List UInt8 := [97, 102, 116, 101, 114]
def kwDead : List UInt8 := [100, 101, 97, 100, 108, 105, 110, 101]
def kwLane : List UInt8 := [108, 97, 110, 101]
def kwBudget : List UInt8 := [98, 117, 100, 103, 101, 116]
def kwClose : List UInt8 := [99, 108, 111, 115, 101]
def kwBeat : List UInt8 := [98, 101, 97, 116]
def kwBack : List UInt8 := [98, 97, 99, 107, 111, 102, 102]
def kwTo : List UInt8 := [116, 111]
def kwJit : List UInt8 := [106, 105, 116, 116, 101, 114]

def begin_ (d : Dr) (place : Nat) (ws : List (List UInt8)) : Option Dr :=
  let a := tkName (ws, false)
  let b := tkNum kwDead a.2
  if fits b.2 = true ∧ d.place = 0 then some { d with nm := a.1, dl := b.1, place := place } else none
/-- a node's line: what is read of it, and what is left -/
def rdNode (ws : List (List UInt8)) : Pn × Ln :=
  let a := tkName (ws, false)
  let b := tkNum kwLane a.2
  let c := tkNum kwBudget b.2
  let e := tkNum kwClose c.2
  let f := tkOpt kwBeat 0 e.2
  let g := tkOpt kwBack 1 f.2
  let h := if hd f.2.1 = kwBack then tkNum kwTo g.2 else (1, g.2)
  let i := tkOpt kwJit 0 h.2
  (⟨a.1, b.1, c.1, e.1, f.1, g.1, h.1, i.1, [], []⟩, i.2)
def addNode (d : Dr) (place : Nat) (ws : List (List UInt8)) : Option Dr :=
  if fits (rdNode ws).2 = true ∧ d.place ≠ 0 then some { d with nds := d.nds ++ [(rdNode ws).1], places := d.places ++ [place], hn := false, ha := false } else none
def addMen (kind : Nat) (d : Dr) (place : Nat) (ws : List (List UInt8)) : Option Dr :=
  if d.nds ≠ [] ∧ (if kind = 0 then d.hn else d.ha) = false ∧ ws ≠ [] ∧ ws.all nmL = true then
    some { d with hn := if kind = 0 then true else d.hn, ha := if kind = 0 then d.ha else true, ms := d.ms ++ [⟨place, d.nds.length - 1, kind, ws⟩] } else none
/-- a line that says something -/
def doLine (d : Dr) (place : Nat) (f : List UInt8) (ws : List (List UInt8)) : Option Dr :=
  if f = kwPlan then begin_ d place ws else if f = kwNode then addNode d place ws else if f = kwNeeds then addMen 0 d place ws else if f = kwAfter then addMen 1 d place ws else none
def step (d : Dr) (place : Nat) (ws : List (List UInt8)) : Option Dr := match ws with
  | [] => some d
  | f :: r => doLine d place f r
/-- the first line that is none, or all that was read -/
def readL : Nat → List (List UInt8) → Dr → Nat ⊕ Dr
  | _, [], d => .inr d
  | p, l :: r, d => match step d p (wordsOf l) with
    | none => .inl p
    | some d' => readL (p + 1) r d'

/-- which node a name means -/
def idx (nds : List Pn) (n : List UInt8) : Option Nat := nds.findIdx? fun x => x.nm == n
/-- the nodes that names mean, rising, each once -/
def edg (nds : List Pn) (names : List (List UInt8)) : Option (List Int) :=
  if names.all (fun n => (idx nds n).isSome) then some (((List.range nds.length).filter fun i => names.any fun n => idx nds n == some i).map fun (i : Nat) => (i : Int)) else none
def setEdge (nds : List Pn) (m : Mn) (l : List Int) : List Pn :=
  nds.modify m.node fun x => if m.kind = 0 then { x with nl := l } else { x with al := l }
def layE : List Mn → List Pn → Nat ⊕ List Pn
  | [], nds => .inr nds
  | m :: r, nds => match edg nds m.names with
    | none => .inl m.place
    | some l => layE r (setEdge nds m l)
/-- a node without places in memory -/
def no (x : Pn) : Gr.No := ⟨⟨ba x.nm, x.la, x.bu, x.cl, x.be, x.bs, x.ca, x.ji, (none, 0, 0), (none, 0, 0)⟩, x.nl, x.al⟩
/-- a plan as a text says it -/
structure Pl where
  nm : List UInt8
  dl : Int
  nds : List Pn
/-- what Check says of what was read -/
noncomputable def judge (d : Dr) (nds : List Pn) (c : Nat × Nat) : (Nat × Nat) ⊕ Pl :=
  if c.2 = 0 then .inr ⟨d.nm, d.dl, nds⟩ else if c.1 = 0 then .inl (d.place, c.2) else .inl (d.places.getD (c.1 - 1) 0, c.2)
/-- what Parse answers: the line and the error, or a plan -/
noncomputable def parse (s : List UInt8) : (Nat × Nat) ⊕ Pl :=
  if 65536 < s.length then .inl (0, 110) else
  match readL 1 (splitOn 10 s) Dr.new with
  | .inl p => .inl (p, 111)
  | .inr d => if d.place = 0 then .inl (0, 111) else
    match layE d.ms d.nds with
    | .inl p => .inl (p, 112)
    | .inr nds => judge d nds (Gr.chk (ba d.nm) d.dl (nds.map no))
end U
end Go.Proofs.YtfoahfgehmghcaaGreatDoor
