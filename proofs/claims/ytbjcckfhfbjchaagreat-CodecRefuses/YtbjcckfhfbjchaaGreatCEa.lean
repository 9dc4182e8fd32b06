import Derived.Test.YtbjcckfhfbjchaaGreatGCyc
import Derived.Test.YtbjcckfhfbjchaaGreatCDz
/- Contract of cycle. -/
namespace Go.Proofs.YtbjcckfhfbjchaaGreat
namespace Gr
open Go.RowKit

theorem lit64_eq : (#[.bool false, .bool false, .bool false, .bool false, .bool false, .bool false, .bool false, .bool false, .bool false, .bool false, .bool false, .bool false, .bool false, .bool false, .bool false, .bool false, .bool false, .bool false, .bool false, .bool false, .bool false, .bool false, .bool false, .bool false, .bool false, .bool false, .bool false, .bool false, .bool false, .bool false, .bool false, .bool false, .bool false, .bool false, .bool false, .bool false, .bool false, .bool false, .bool false, .bool false, .bool false, .bool false, .bool false, .bool false, .bool false, .bool false, .bool false, .bool false, .bool false, .bool false, .bool false, .bool false, .bool false, .bool false, .bool false, .bool false, .bool false, .bool false, .bool false, .bool false, .bool false, .bool false, .bool false, .bool false] : Array Value) = none64 := by rw [← none64_eq]; rfl
theorem eg_out {xs : List No} {a : Nat} (h : xs.length ≤ a) : eg xs a = [] := by
  unfold eg; rw [List.getElem?_eq_none h]
set_option maxRecDepth 100000 in
set_option maxHeartbeats 4000000 in
theorem cycle_any (s : Option Addr × Nat × Nat) (xs : List No) (B : Nat) (w : World) (hP : RdP B w s xs) (hB : B ≤ w.heap.size) (hv : Val xs) :
    Calls Tryz.prog 52 #[.slice s.1 s.2.1 s.2.2] w fun e w' => (∃ c : Nat, e = .returned (.int .i64 (c : Int)) ∧ c ≤ xs.length ∧ IsCyc (eg xs) c) ∧ Keep (fun _ => False) w w' := by
  obtain ⟨a, n, c⟩ := s
  have HP := hide hP
  have HN : Hid (n = xs.length) := hP.1
  have hl : n ≤ 64 := by have := hP.1; have := hv.1; simp at *; omega
  clear hP
  go_enter Tryz.func52, Tryz.ntmps52
  go_wp2_with fail
  have K0 := hide (Keep.alloc (fun _ => False) w (.cells #[.slice a n c] 28))
  have hcn0 : (w.alloc (.cells #[.slice a n c] 28)).cell? ⟨w.heap.size, 0, none⟩ = some (.slice a n c) := by rw [World.cell?_alloc_mark]; rfl
  have CN := hide hcn0
  have HSZ := hide (show (w.alloc (.cells #[.slice a n c] 28)).heap.size = w.heap.size + 1 by simp)
  clear hcn0
  generalize w.alloc (.cells #[.slice a n c] 28) = w0 at *
  go_loopw [8] (fun iv wr => ∃ (i : Nat), iv = .int .i64 (i : Nat) ∧ i ≤ n ∧ Hid (Keep (fun _ => False) w0 wr ∧ ∀ m, m < i → ¬ Back (eg xs) m m)) (fun iv _ => n - (intOf iv).toNat)
  case atStart => exact ⟨0, rfl, Nat.zero_le _, Keep.refl _ _, fun m h => by omega⟩
  case round =>
    obtain ⟨i, rfl, hi, HD⟩ := hrel
    by_cases hlt : i < n
    · have hlit := lit64_eq
      obtain ⟨fv, hfv⟩ : ∃ fv, fv = Value.func (.func 109) #[] #[.pointer (some ⟨wr.heap.size, 0, none⟩), .pointer (some ⟨wr.heap.size + 1, 0, none⟩), .pointer (some ⟨wr.heap.size + 1 + 1, 0, none⟩), .pointer (some ⟨w.heap.size, 0, none⟩)] := ⟨_, rfl⟩
      obtain ⟨V, hV⟩ : ∃ V, V = ((wr.alloc (.cells #[.int .i64 (i : Int)] 3)).alloc (.cells #[.bool false, .bool false, .bool false, .bool false, .bool false, .bool false, .bool false, .bool false, .bool false, .bool false, .bool false, .bool false, .bool false, .bool false, .bool false, .bool false, .bool false, .bool false, .bool false, .bool false, .bool false, .bool false, .bool false, .bool false, .bool false, .bool false, .bool false, .bool false, .bool false, .bool false, .bool false, .bool false, .bool false, .bool false, .bool false, .bool false, .bool false, .bool false, .bool false, .bool false, .bool false, .bool false, .bool false, .bool false, .bool false, .bool false, .bool false, .bool false, .bool false, .bool false, .bool false, .bool false, .bool false, .bool false, .bool false, .bool false, .bool false, .bool false, .bool false, .bool false, .bool false, .bool false, .bool false, .bool false] 145)).alloc (.cells #[fv] 146) := ⟨_, rfl⟩
      have kV : Keep (fun _ => False) wr V := by rw [hV]; exact ((Keep.alloc _ _ _).more (Keep.alloc _ _ _)).more (Keep.alloc _ _ _)
      have b1 : V.heap[wr.heap.size]? = some (.cells #[.int .i64 (i : Int)] 3 (0, 0)) := by
        rw [hV]
        exact (Keep.alloc (fun _ => False) _ _).blk ((Keep.alloc (fun _ => False) _ _).blk (heap_alloc_new wr _) (fun f => f)) (fun f => f)
      have b2 : V.heap[wr.heap.size + 1]? = some (.cells none64 145 (0, 0)) := by
        rw [hV, hlit]
        refine (Keep.alloc (fun _ => False) _ _).blk ?_ (fun f => f)
        have := heap_alloc_new (wr.alloc (.cells #[.int .i64 (i : Int)] 3)) (.cells none64 145)
        rwa [World.size_alloc] at this
      have b3 : V.heap[wr.heap.size + 1 + 1]? = some (.cells #[fv] 146 (0, 0)) := by
        rw [hV]
        have := heap_alloc_new ((wr.alloc (.cells #[.int .i64 (i : Int)] 3)).alloc (.cells #[.bool false, .bool false, .bool false, .bool false, .bool false, .bool false, .bool false, .bool false, .bool false, .bool false, .bool false, .bool false, .bool false, .bool false, .bool false, .bool false, .bool false, .bool false, .bool false, .bool false, .bool false, .bool false, .bool false, .bool false, .bool false, .bool false, .bool false, .bool false, .bool false, .bool false, .bool false, .bool false, .bool false, .bool false, .bool false, .bool false, .bool false, .bool false, .bool false, .bool false, .bool false, .bool false, .bool false, .bool false, .bool false, .bool false, .bool false, .bool false, .bool false, .bool false, .bool false, .bool false, .bool false, .bool false, .bool false, .bool false, .bool false, .bool false, .bool false, .bool false, .bool false, .bool false, .bool false, .bool false] 145)) (.cells #[fv] 146)
        rwa [World.size_alloc, World.size_alloc] at this
      clear hlit
      have hle : w.heap.size + 1 ≤ wr.heap.size := by have := HSZ.out; have := HD.out.1.size; omega
      have kF : Keep (fun _ => False) w0 V := HD.out.1.more kV
      have E0 : CEnv B (a, n, c) xs wr.heap.size (wr.heap.size + 1) (wr.heap.size + 1 + 1) w.heap.size i V (fun _ => false) :=
        ⟨cell_blk b1 0 rfl, b2, by rw [← hfv]; exact cell_blk b3 0 rfl, kF.cell CN.out (fun f => f), (HP.out.new K0.out).new kF, by omega, by omega, by omega, by omega⟩
      have KR := hide kF
      have hsf := fun (w : World) (a : Addr) (m : Mode) (f : Fn) (x y : Array Value) => run_store Tryz.prog w a (.func f x y) m rfl
      have L := hide (leadsBack_any (B := B) (s := (a, n, c)) (Pf := wr.heap.size) (Ps := wr.heap.size + 1) (Pl := wr.heap.size + 1 + 1) (Pn := w.heap.size) (f := i) hv (cnt fun _ => false) i (fun _ => false) V (by have := HN.out; omega) rfl E0)
      have HS0 := hide (show w0.heap.size ≤ wr.heap.size from HD.out.1.size)
      have HV := hide hV
      have HF := hide hfv
      have hin : i < xs.length := by have := HN.out; omega
      clear E0 b1 b2 b3 kV kF hV hfv
      go_wp2_with fail
      go_at_call 109
      rw [← HF.out, ← HV.out]
      refine L.out.mono ?_
      rintro e w2 ⟨r, τ, rfl, hE, hS, k2⟩
      have HB := hide (hS.whole (fun x h => by cases h))
      have c1 := hE.cf
      have K2 : Hid (Keep (fun _ => False) w0 w2) := KR.out.trans k2 fun k e => .inr (by have := HS0.out; omega)
      clear hE hS k2 L HV
      cases r
      · have hnb := fun h => Bool.false_ne_true (HB.out.2 h)
        have HNB := hide hnb
        clear hnb
        go_wp2_with fail
        go_roundw
        · refine ⟨i + 1, rfl, by omega, K2.out, fun m hm => ?_⟩
          by_cases e : m = i
          · subst e; exact HNB.out
          · exact HD.out.2 m (by omega)
        · show n - ((i : Int) + 1).toNat < n - (i : Int).toNat
          omega
      · have HBB := hide (HB.out.1 rfl)
        go_wp2_with fail
        go_ret
        exact ⟨⟨i + 1, rfl, by omega, isCyc_some HD.out.2 HBB.out⟩, K0.out.more K2.out⟩
    · obtain rfl : i = n := by omega
      go_wp2_with fail
      go_ret
      exact ⟨⟨0, rfl, Nat.zero_le _, isCyc_none (n := i) (fun a ha => eg_out (by have := HN.out; omega)) HD.out.2⟩, K0.out.more HD.out.1⟩
end Gr
end Go.Proofs.YtbjcckfhfbjchaaGreat

/- Contract of Check. -/
namespace Go.Proofs.YtbjcckfhfbjchaaGreat
namespace Gr
open Go.RowKit

theorem lOk_in {ah own cnt : Int} {z : List Int} (h : lOk ah z own cnt = true) : ∀ e ∈ z, ah < e ∧ e < cnt ∧ e ≠ own := by
  induction z generalizing ah with
  | nil => intro e he; cases he
  | cons x z ih =>
    unfold lOk at h
    simp only [Bool.and_eq_true, Bool.not_eq_true', Bool.or_eq_false_iff, decide_eq_false_iff_not] at h
    obtain ⟨⟨⟨h1, h2⟩, h3⟩, h4⟩ := h
    intro e he
    rcases List.mem_cons.1 he with rfl | he
    · exact ⟨by omega, by omega, h3⟩
    · have := ih h4 e he; exact ⟨by omega, this.2⟩
/-- what holds of nodes with which nothing is wrong -/
theorem cN_ok {n : Nat} : ∀ {xs : List No} {i : Nat} {seen : List ByteArray}, (cN n i seen xs).2 = 0 → ∀ k x, xs[k]? = some x → isNm x.q.nm = true ∧ fOk x.q = true ∧ eOk x ((i + k : Nat) : Int) n = true := by
  intro xs
  induction xs with
  | nil => intro i seen _ k x hx; simp at hx
  | cons y xs ih =>
    intro i seen h k x hx
    unfold cN at h
    split at h
    · cases h
    · rename_i c1
      split at h
      · cases h
      · rename_i c2
        split at h
        · cases h
        · rename_i c3
          cases k with
          | zero =>
            obtain rfl : y = x := by simpa using hx
            simp only [Bool.or_eq_true, Bool.not_eq_true', not_or, Bool.not_eq_false] at c1
            exact ⟨c1.1, by simpa using c2, by simpa using c3⟩
          | succ k =>
            have := ih h k x (by simpa using hx)
            rw [show i + (k + 1) = i + 1 + k by omega]
            exact this
theorem cN_val {xs : List No} (hl : xs.length ≤ 64) (h : (cN xs.length 0 [] xs).2 = 0) : Val xs := by
  refine ⟨hl, fun x hx e he => ?_⟩
  obtain ⟨k, hk⟩ := List.getElem?_of_mem hx
  obtain ⟨_, _, h3⟩ := cN_ok h k x hk
  unfold eOk at h3
  simp only [Bool.and_eq_true] at h3
  rcases List.mem_append.1 he with he | he
  · have := lOk_in h3.1.1 e he; omega
  · have := lOk_in h3.1.2 e he; omega
theorem cN_zero {n : Nat} : ∀ {xs : List No} {i : Nat} {seen : List ByteArray}, (cN n i seen xs).2 = 0 → cN n i seen xs = (0, 0) := by
  intro xs
  induction xs with
  | nil => intro i seen _; rfl
  | cons y xs ih =>
    intro i seen h
    unfold cN at h ⊢
    split at h
    · cases h
    · rename_i c1
      rw [if_neg c1]
      split at h
      · cases h
      · rename_i c2
        rw [if_neg c2]
        split at h
        · cases h
        · rename_i c3
          rw [if_neg c3]
          exact ih h
theorem cN_le {n : Nat} : ∀ {xs : List No} {i : Nat} {seen : List ByteArray}, (cN n i seen xs).1 ≤ i + xs.length := by
  intro xs
  induction xs with
  | nil => intro i seen; simp [cN]
  | cons y xs ih =>
    intro i seen
    unfold cN
    split
    · simp
    · split
      · simp
      · split
        · simp
        · have := ih (i := i + 1) (seen := y.q.nm :: seen); simp; omega

/-- the node that waits for itself -/
noncomputable def cyc (xs : List No) : Nat := Classical.epsilon (IsCyc (eg xs))
theorem cyc_eq {xs : List No} {c : Nat} (h : IsCyc (eg xs) c) : cyc xs = c := (Classical.epsilon_spec (p := IsCyc (eg xs)) ⟨c, h⟩).uniq h
noncomputable def chk (nm : ByteArray) (dl : Int) (xs : List No) : Nat × Nat :=
  if cW nm dl xs ≠ 0 then (0, cW nm dl xs) else if (cN xs.length 0 [] xs).2 ≠ 0 then cN xs.length 0 [] xs else if cyc xs ≠ 0 then (cyc xs, 106) else (0, 0)
theorem cW_len {nm : ByteArray} {dl : Int} {xs : List No} (h : cW nm dl xs = 0) : 1 ≤ xs.length ∧ xs.length ≤ 64 := by
  unfold cW at h
  split at h
  · cases h
  · split at h
    · cases h
    · split at h
      · cases h
      · rename_i c
        unfold wI at c
        simp at c
        omega
/-- plans that may be -/
theorem chk_ok {nm : ByteArray} {dl : Int} {xs : List No} (h : (chk nm dl xs).2 = 0) : cW nm dl xs = 0 ∧ (cN xs.length 0 [] xs).2 = 0 ∧ 1 ≤ xs.length ∧ Val xs ∧ cyc xs = 0 := by
  unfold chk at h
  split at h
  · rename_i c; exact absurd h c
  · rename_i c
    have c : cW nm dl xs = 0 := by simpa using c
    split at h
    · rename_i c2; exact absurd h c2
    · rename_i c2
      have c2 : (cN xs.length 0 [] xs).2 = 0 := by simpa using c2
      split at h
      · cases h
      · rename_i c3
        exact ⟨c, c2, (cW_len c).1, cN_val (cW_len c).2 c2, by simpa using c3⟩

/-- sizes that a memory can have -/
def Sz (nm : ByteArray) (xs : List No) : Prop := nm.size ≤ 9223372036854775807 ∧ ∀ x ∈ xs, x.q.nm.size ≤ 9223372036854775807

set_option maxHeartbeats 4000000 in
theorem check_any (nm : ByteArray) (dl : Int) (s : Option Addr × Nat × Nat) (xs : List No) (B : Nat) (w : World) (hP : RdP B w s xs) (hB : B ≤ w.heap.size) (hs : Sz nm xs) :
    Calls Tryz.prog 27 #[.agg #[.string nm, .int .i64 dl, .slice s.1 s.2.1 s.2.2]] w fun e w' => e = .returned (.tuple #[.int .i64 ((chk nm dl xs).1 : Nat), .int .i64 ((chk nm dl xs).2 : Nat)]) ∧ Keep (fun _ => False) w w' := by
  have HR : Hid (chk nm dl xs = if cW nm dl xs ≠ 0 then (0, cW nm dl xs) else if (cN xs.length 0 [] xs).2 ≠ 0 then cN xs.length 0 [] xs else if cyc xs ≠ 0 then (cyc xs, 106) else (0, 0)) := rfl
  obtain ⟨a, n, c⟩ := s
  have hnx : n = xs.length := hP.1
  have KW := hide (Keep.alloc (fun _ => False) w (.cells #[.string nm, .int .i64 dl, .slice a n c] 30))
  have cell2 : (w.alloc (.cells #[.string nm, .int .i64 dl, .slice a n c] 30)).cell? ⟨w.heap.size, 2, none⟩ = some (.slice a n c) := by rw [World.cell?_alloc_mark]; rfl
  have C2 := hide cell2
  have CW := hide (checkWhole_any nm dl _ _ _ _ (hP.new KW.out) hs.1)
  have CN := hide (fun w' hk hl => checkNodes_any _ _ _ w' ((hP.new KW.out).new hk) hl hs.2)
  have CC := hide (fun w' (hk : Keep (fun _ => False) (w.alloc (.cells #[.string nm, .int .i64 dl, .slice a n c] 30)) w') hv => cycle_any _ _ _ w' ((hP.new KW.out).new hk) (by have := hk.size; have := KW.out.size; omega) hv)
  have HL := hide (cW_len (nm := nm) (dl := dl) (xs := xs))
  have HV := hide (cN_val (xs := xs))
  have HZ := hide (cN_zero (n := xs.length) (xs := xs) (i := 0) (seen := []))
  generalize chk nm dl xs = R at *
  generalize cW nm dl xs = r1 at *
  generalize cN xs.length 0 [] xs = r2 at *
  obtain ⟨R1, R2⟩ := R
  obtain ⟨r2a, r2b⟩ := r2
  have HNX := hide hnx
  clear hP hs cell2 hnx
  go_enter Tryz.func27, Tryz.ntmps27
  go_wp2_with fail
  go_at_call 50
  refine CW.out.mono ?_
  rintro e w1 ⟨rfl, k1⟩
  have K1 := hide k1
  have c2 := k1.cell C2.out fun f => f
  clear k1
  by_cases h1 : r1 = 0
  · subst h1
    have hr := HR.out
    rw [if_neg (by simp)] at hr
    have HR2 := hide hr
    clear hr HR
    have hlen := HL.out rfl
    have CN1 := hide (CN.out w1 K1.out (show n ≤ 64 by have := HNX.out; omega))
    go_wp2_with fail
    go_at_call 51
    refine CN1.out.mono ?_
    rintro e w2 ⟨rfl, k2⟩
    have K2 := hide (K1.out.more k2)
    have c2 := k2.cell c2 fun f => f
    clear k2 CN1 CN CW
    by_cases h2 : r2b = 0
    · subst h2
      obtain ⟨rfl, _⟩ := Prod.mk.inj (HZ.out rfl)
      have hr := HR2.out
      rw [if_neg (by simp)] at hr
      have HR3 := hide hr
      clear hr HR2
      have CC1 := hide (CC.out w2 K2.out (HV.out hlen.2 rfl))
      go_wp2_with fail
      go_at_call 52
      refine CC1.out.mono ?_
      rintro e w3 ⟨⟨cc, rfl, hcl, hcy⟩, k3⟩
      have K3 := hide (KW.out.more (K2.out.more k3))
      have hr := HR3.out
      rw [cyc_eq hcy] at hr
      clear k3 CC CC1 hcy HR3
      by_cases h3 : cc = 0
      · subst h3
        rw [if_neg (by simp)] at hr
        obtain ⟨rfl, rfl⟩ := Prod.mk.inj hr
        clear hr
        go_wp2_with fail
        go_ret2
        exact ⟨rfl, K3.out⟩
      · rw [if_pos h3] at hr
        obtain ⟨rfl, rfl⟩ := Prod.mk.inj hr
        clear hr
        go_wp2_with fail
        go_ret2
        exact ⟨rfl, K3.out⟩
    · have hr := HR2.out
      rw [if_pos h2] at hr
      obtain ⟨rfl, rfl⟩ := Prod.mk.inj hr
      clear hr
      go_wp2_with fail
      go_ret2
      exact ⟨rfl, KW.out.more K2.out⟩
  · have hr := HR.out
    rw [if_pos h1] at hr
    obtain ⟨rfl, rfl⟩ := Prod.mk.inj hr
    clear hr
    go_wp2_with fail
    go_ret2
    exact ⟨rfl, KW.out.more K1.out⟩
end Gr
end Go.Proofs.YtbjcckfhfbjchaaGreat

/- Codec: what values are: bounds; a plan that was taken can be read; whether it may be. -/
namespace Go.Proofs.YtbjcckfhfbjchaaGreat
namespace Cd
open Go.RowKit Go.Deep

/-- a take leaves the bytes -/
def Dk (g : K.RS → K.RS) : Prop := ∀ s, (g s).data = s.data
theorem fail_data (s : K.RS) (e : Nat) : (s.fail e).data = s.data := by unfold K.RS.fail; split <;> rfl
theorem dk_num (l m : Int) : Dk (numR l m) := fun s => by
  unfold numR
  split
  · split
    · exact fail_data _ _
    · rfl
  · exact fail_data _ _
theorem dk_row (m : Int) : Dk (rowR m) := fun s => by
  unfold rowR
  split
  · rfl
  · exact fail_data _ _
theorem dk_take {g : K.RS → K.RS} (h : Dk g) : Dk (takeR g) := fun s => by
  unfold takeR
  split
  · exact h s
  · rfl
theorem dk_seq {g h : K.RS → K.RS} (h1 : Dk g) (h2 : Dk h) : Dk (seqR g h) := fun s => (dk_take h2 (g s)).trans (h1 s)
theorem dk_thing {g : K.RS → K.RS} (h : Dk g) : Dk (thingR g) := fun s => by
  unfold thingR
  split
  · split
    · exact (fail_data _ _).trans (h s)
    · exact h s
  · rfl
theorem dk_all {g : K.RS → K.RS} (h : Dk g) : ∀ n, Dk (allR g n)
  | 0 => fun _ => rfl
  | n + 1 => fun s => (dk_thing h (allR g n s)).trans (dk_all h n s)
theorem dk_list {g : K.RS → K.RS} (h : Dk g) (m : Int) : Dk (listR m g) := fun s => by
  unfold listR
  split
  · exact dk_all h _ _
  · exact fail_data _ _
theorem byt_of {g : K.RS → K.RS} (h : Dk g) {s : K.RS} (hb : Byt s) : Byt (g s) := by
  unfold Byt
  rw [h s]
  exact hb
theorem numV_le {s : K.RS} (hb : Byt s) : numV s ≤ 9223372036854775807 := by
  unfold numV
  split
  · rename_i n z hp
    exact (K.pk_ok hb.rest hp).2.2.2.2
  · omega
theorem iV_le {s : K.RS} (hb : Byt s) : iV s ≤ 9223372036854775807 := by
  have := numV_le hb
  unfold iV
  omega
theorem rowV_len (m : Nat) (s : K.RS) : (rowV m s).length ≤ m := by
  unfold rowV
  split
  · rename_i n z hc
    have h := (cnt_ok hc).2.1
    rw [List.length_drop, List.length_take]
    omega
  · simp
theorem rowV_byt {m : Int} {s : K.RS} (hb : Byt s) : ∀ d ∈ rowV m s, d < 256 := fun d hd => by
  unfold rowV at hd
  split at hd
  · exact hb.rest d (List.mem_of_mem_take (List.mem_of_mem_drop hd))
  · cases hd
theorem lV_k {s : K.RS} (hb : Byt s) : (lV s).length ≤ 64 ∧ ∀ x ∈ lV s, x ≤ 9223372036854775807 := by
  unfold lV listVal
  split
  · rename_i n z hc
    have h := (cnt_ok hc).2.1
    refine ⟨by simp [valsOf]; omega, fun x hx => ?_⟩
    unfold valsOf at hx
    obtain ⟨i, _, rfl⟩ := List.mem_map.1 hx
    exact iV_le (byt_of (dk_all (dk_num 0 63) i) (show Byt (s.go z) from hb))
  · simp
/-- bounds of a node's value -/
structure NvK (d : Nv) : Prop where
  nm : d.1.1.1.1.1.1.1.1.1.length ≤ 40
  by_ : ∀ x ∈ d.1.1.1.1.1.1.1.1.1, x < 256
  i1 : d.1.1.1.1.1.1.1.1.2 ≤ 9223372036854775807
  i2 : d.1.1.1.1.1.1.1.2 ≤ 9223372036854775807
  i3 : d.1.1.1.1.1.1.2 ≤ 9223372036854775807
  i4 : d.1.1.1.1.1.2 ≤ 9223372036854775807
  i5 : d.1.1.1.1.2 ≤ 9223372036854775807
  i6 : d.1.1.1.2 ≤ 9223372036854775807
  i7 : d.1.1.2 ≤ 9223372036854775807
  l1 : d.1.2.length ≤ 64 ∧ ∀ x ∈ d.1.2, x ≤ 9223372036854775807
  l2 : d.2.length ≤ 64 ∧ ∀ x ∈ d.2, x ≤ 9223372036854775807
theorem dk1 : Dk Rn1 := dk_row 40
theorem dk2 : Dk Rn2 := dk_seq dk1 (dk_num _ _)
theorem dk3 : Dk Rn3 := dk_seq dk2 (dk_num _ _)
theorem dk4 : Dk Rn4 := dk_seq dk3 (dk_num _ _)
theorem dk5 : Dk Rn5 := dk_seq dk4 (dk_num _ _)
theorem dk6 : Dk Rn6 := dk_seq dk5 (dk_num _ _)
theorem dk7 : Dk Rn7 := dk_seq dk6 (dk_num _ _)
theorem dk8 : Dk Rn8 := dk_seq dk7 (dk_num _ _)
theorem dk9 : Dk Rn9 := dk_seq dk8 (dk_list (dk_num _ _) _)
theorem dk_node : Dk nodeR := dk_seq dk9 (dk_list (dk_num _ _) _)
theorem dkp2 : Dk Pn2 := dk_seq (dk_row 40) (dk_num _ _)
theorem dk_plan : Dk planR := dk_seq dkp2 (dk_list dk_node _)
theorem nodeVal_k {s : K.RS} (hb : Byt s) : NvK (nodeVal s) := by
  refine ⟨?_, ?_, ?_, ?_, ?_, ?_, ?_, ?_, ?_, ?_, ?_⟩ <;> simp only [nodeVal]
  · exact rowV_len 40 s
  · exact rowV_byt hb
  · exact iV_le (byt_of dk1 hb)
  · exact iV_le (byt_of dk2 hb)
  · exact iV_le (byt_of dk3 hb)
  · exact iV_le (byt_of dk4 hb)
  · exact iV_le (byt_of dk5 hb)
  · exact iV_le (byt_of dk6 hb)
  · exact iV_le (byt_of dk7 hb)
  · exact lV_k (byt_of dk8 hb)
  · exact lV_k (byt_of dk9 hb)
structure PvK (d : Pv) : Prop where
  nm : d.1.1.length ≤ 40
  by_ : ∀ x ∈ d.1.1, x < 256
  dl : d.1.2 ≤ 9223372036854775807
  len : d.2.length ≤ 64
  nds : ∀ e ∈ d.2, NvK e
theorem planVal_k {s : K.RS} (hb : Byt s) : PvK (planVal s) := by
  have hn : (nVs (Pn2 s)).length ≤ 64 ∧ ∀ e ∈ nVs (Pn2 s), NvK e := by
    have hb2 : Byt (Pn2 s) := byt_of dkp2 hb
    generalize Pn2 s = t at *
    unfold nVs listVal
    split
    · rename_i n z hc
      have h := (cnt_ok hc).2.1
      refine ⟨by simp [valsOf]; omega, fun x hx => ?_⟩
      unfold valsOf at hx
      obtain ⟨i, _, rfl⟩ := List.mem_map.1 hx
      exact nodeVal_k (byt_of (dk_all dk_node i) (show Byt (t.go z) from hb2))
    · simp
  refine ⟨?_, ?_, ?_, ?_, ?_⟩ <;> simp only [planVal]
  · exact rowV_len 40 s
  · exact rowV_byt hb
  · exact iV_le (byt_of (dk_row 40) hb)
  · exact hn.1
  · exact hn.2
/-- a node without its places in memory -/
def er (x : Gr.No) : Gr.No := ⟨{ x.q with ne := (none, 0, 0), af := (none, 0, 0) }, x.nl, x.al⟩
theorem cN_er (n : Nat) : ∀ (xs : List Gr.No) (i : Nat) (seen : List ByteArray), Gr.cN n i seen (xs.map er) = Gr.cN n i seen xs
  | [], _, _ => rfl
  | x :: xs, i, seen => by
    rw [List.map_cons]
    unfold Gr.cN
    rw [cN_er n xs]
    rfl
theorem eg_er (xs : List Gr.No) : Gr.eg (xs.map er) = Gr.eg xs := by
  funext i
  unfold Gr.eg
  rw [List.getElem?_map]
  cases xs[i]? <;> rfl
theorem edges_er (xs : List Gr.No) : Gr.edges (xs.map er) = Gr.edges xs := by
  unfold Gr.edges
  rw [List.map_map]
  rfl
theorem chk_er (nm : ByteArray) (dl : Int) (xs : List Gr.No) : Gr.chk nm dl (xs.map er) = Gr.chk nm dl xs := by
  have h1 : Gr.cW nm dl (xs.map er) = Gr.cW nm dl xs := by
    unfold Gr.cW
    rw [edges_er, List.length_map]
  have h2 : Gr.cyc (xs.map er) = Gr.cyc xs := by
    unfold Gr.cyc
    rw [eg_er]
  unfold Gr.chk
  rw [h1, h2, List.length_map, cN_er]
/-- a node's value as a node -/
def toNo (d : Nv) : Gr.No := ⟨⟨str d.1.1.1.1.1.1.1.1.1, d.1.1.1.1.1.1.1.1.2, d.1.1.1.1.1.1.1.2, d.1.1.1.1.1.1.2, d.1.1.1.1.1.2, d.1.1.1.1.2, d.1.1.1.2, d.1.1.2, (none, 0, 0), (none, 0, 0)⟩, d.1.2, d.2⟩
/-- may a plan be? -/
noncomputable def may (d : Pv) : Bool := decide ((Gr.chk (str d.1.1) d.1.2 (d.2.map toNo)).2 = 0)
theorem nv_er (x : Gr.No) : toNo (nv x.q x.nl x.al) = er x := by
  simp only [toNo, nv, er, str_sb]
theorem may_pv (nm : ByteArray) (dl : Int) (xs : List Gr.No) : may (pv nm dl xs) = decide ((Gr.chk nm dl xs).2 = 0) := by
  unfold may pv nvs
  have e : (xs.map fun x => nv x.q x.nl x.al).map toNo = xs.map er := by
    rw [List.map_map]
    exact List.map_congr_left fun x _ => nv_er x
  simp only [str_sb]
  rw [e, chk_er]
theorem zRow_rd {w : World} {a : Option Addr} {n c : Nat} {z : List Int} (h : zRow w a n c z) (hz : z.length ≤ 64) : Gr.RdZ w.heap.size w (a, n, c) z := by
  obtain ⟨h1, h2⟩ := h
  refine ⟨h1, by show n ≤ _; omega, ?_⟩
  rcases h2.2 with ⟨e, e0⟩ | ⟨g, cap, cur, e, _, hg, _⟩
  · injection e with e1 e2 e3
    exact .inl e2
  · injection e with e1 e2 e3
    subst e1
    refine .inr ⟨g, 0, rfl, (Array.getElem?_eq_some_iff.1 hg).1, fun j x hx => ?_⟩
    have := h2.cells (g := g) rfl j (.int .i64 x) (by rw [List.getElem?_map, hx]; rfl)
    rw [Addr.add_lit] at this
    exact this
theorem flat_at : ∀ (qs : List Gr.Nd) (i : Nat) (q : Gr.Nd), qs[i]? = some q → ∀ j u, q.row[j]? = some u → (flat qs)[i * 10 + j]? = some u
  | [], _, _, h => by simp at h
  | p :: qs, 0, q, h => fun j u hu => by
    simp only [List.getElem?_cons_zero, Option.some.injEq] at h
    subst h
    have hj := (List.getElem?_eq_some_iff.1 hu).1
    show (p.row ++ flat qs)[0 * 10 + j]? = _
    rw [Nat.zero_mul, Nat.zero_add, List.getElem?_append_left hj]
    exact hu
  | p :: qs, i + 1, q, h => fun j u hu => by
    have hp : p.row.length = 10 := rfl
    show (p.row ++ flat qs)[(i + 1) * 10 + j]? = _
    rw [List.getElem?_append_right (by omega), hp, show (i + 1) * 10 + j - 10 = i * 10 + j by omega]
    exact flat_at qs i q (by simpa using h) j u hu
theorem row_c0 {w : World} {a : Option Addr} {n c : Nat} {z : List Int} (h : zRow w a n c z) : a = none → c = 0 := fun e => by
  rcases h.2.2 with ⟨e1, _⟩ | ⟨g, cap, cur, e1, _⟩
  · injection e1
  · injection e1 with e1
    rw [e] at e1
    cases e1
theorem nd_one {w : World} {q : Gr.Nd} {d : Nv} (h : NdV d w (.agg q.row.toArray)) (hk : NvK d) :
    toNo d = er ⟨q, d.1.2, d.2⟩ ∧ nv q d.1.2 d.2 = d ∧ Gr.RdZ w.heap.size w q.ne d.1.2 ∧ Gr.RdZ w.heap.size w q.af d.2 ∧ (q.ne.1 = none → q.ne.2.2 = 0) ∧ (q.af.1 = none → q.af.2.2 = 0) := by
  obtain ⟨a1, n1, c1, a2, n2, c2, e, h1, h2⟩ := h
  obtain ⟨nm, la, bu, cl, be, ba, ca, ji, ⟨x1, x2, x3⟩, ⟨y1, y2, y3⟩⟩ := q
  obtain ⟨⟨⟨⟨⟨⟨⟨⟨⟨dn, d1⟩, d2⟩, d3⟩, d4⟩, d5⟩, d6⟩, d7⟩, l1⟩, l2⟩ := d
  simp only [Gr.Nd.row, Value.agg.injEq, List.toArray_eq_iff, List.cons.injEq, Value.string.injEq, Value.int.injEq, Value.slice.injEq, true_and, and_true] at e
  obtain ⟨e0, e1, e2, e3, e4, e5, e6, e7, ⟨f1, f2, f3⟩, f4, f5, f6⟩ := e
  subst e0 e1 e2 e3 e4 e5 e6 e7 f1 f2 f3 f4 f5 f6
  refine ⟨rfl, ?_, zRow_rd h1 hk.l1.1, zRow_rd h2 hk.l2.1, row_c0 h1, row_c0 h2⟩
  simp only [nv]
  rw [sb_str dn hk.by_]
theorem zip_rd (w : World) : ∀ (qs : List Gr.Nd) (ds : List Nv), qs.length = ds.length → (∀ (i : Nat) q d, qs[i]? = some q → ds[i]? = some d → NdV d w (.agg q.row.toArray)) → (∀ e ∈ ds, NvK e) →
    ∃ xs : List Gr.No, xs.map (·.q) = qs ∧ xs.map er = ds.map toNo ∧ nvs xs = ds ∧ ∀ x ∈ xs, Gr.RdZ w.heap.size w x.q.ne x.nl ∧ Gr.RdZ w.heap.size w x.q.af x.al ∧ (x.q.ne.1 = none → x.q.ne.2.2 = 0) ∧ (x.q.af.1 = none → x.q.af.2.2 = 0)
  | [], [], _, _, _ => ⟨[], rfl, rfl, rfl, fun x hx => by cases hx⟩
  | [], _ :: _, h, _, _ => by simp at h
  | _ :: _, [], h, _, _ => by simp at h
  | q :: qs, d :: ds, hl, hv, hk => by
    obtain ⟨xs, h1, h2, h3, h4⟩ := zip_rd w qs ds (by simpa using hl) (fun i q d hq hd => hv (i + 1) q d (by simpa using hq) (by simpa using hd)) (fun e he => hk e (List.mem_cons_of_mem _ he))
    obtain ⟨k1, k2, k3, k4, k5, k6⟩ := nd_one (hv 0 q d rfl rfl) (hk d List.mem_cons_self)
    refine ⟨⟨q, d.1.2, d.2⟩ :: xs, by simp [h1], by simp [h2, k1], ?_, fun x hx => ?_⟩
    · show nv q d.1.2 d.2 :: nvs xs = _
      rw [k2, h3]
    · rcases List.mem_cons.1 hx with rfl | hx
      · exact ⟨k3, k4, k5, k6⟩
      · exact h4 x hx
/-- a plan of this value can be read -/
theorem PlV.rd {d : Pv} {w : World} {v : Value} (h : PlV d w v) (hk : PvK d) : ∃ a n c xs, v = .agg #[.string (str d.1.1), .int .i64 d.1.2, .slice a n c] ∧ Gr.RdP w.heap.size w (a, n, c) xs ∧ xs.map er = d.2.map toNo ∧ nvs xs = d.2 ∧ n = d.2.length ∧ (a = none → c = 0) ∧ ∀ x ∈ xs, (x.q.ne.1 = none → x.q.ne.2.2 = 0) ∧ (x.q.af.1 = none → x.q.af.2.2 = 0) := by
  obtain ⟨a, n, c, e, qs, hl, ho, hv⟩ := h
  have hn : n = d.2.length := by
    obtain ⟨a', c', e⟩ := ownsRow_shape ho
    injection e
  have hlen := hk.len
  obtain ⟨xs, h1, h2, h3, h4⟩ := zip_rd w qs d.2 hl hv hk.nds
  have hxl : xs.length = d.2.length := by rw [← hl, ← h1, List.length_map]
  refine ⟨a, n, c, xs, e, ⟨by show n = _; omega, by show n ≤ _; omega, ?_, fun x hx => ⟨(h4 x hx).1, (h4 x hx).2.1⟩⟩, h2, h3, hn, ?_, fun x hx => (h4 x hx).2.2⟩
  · rcases ho.2 with ⟨e1, e0⟩ | ⟨g, cap, cur, e1, _, hg, _⟩
    · injection e1 with e1 e2 e3
      exact .inl e2
    · injection e1 with e1 e2 e3
      subst e1
      refine .inr ⟨g, 0, rfl, (Array.getElem?_eq_some_iff.1 hg).1, fun i x hx j u hu => ?_⟩
      have hq : qs[i]? = some x.q := by rw [← h1, List.getElem?_map, hx]; rfl
      have := ho.cells (g := g) rfl (i * 10 + j) u (flat_at qs i x.q hq j u hu)
      rw [Addr.add_lit, Nat.zero_add] at this
      rw [Nat.zero_add]
      exact this
  · intro ea
    rcases ho.2 with ⟨e1, e0⟩ | ⟨g, cap, cur, e1, _, hg, _⟩
    · injection e1
    · injection e1 with e1
      rw [ea] at e1
      cases e1
theorem may_rd {d : Pv} {xs : List Gr.No} (h : xs.map er = d.2.map toNo) : may d = decide ((Gr.chk (str d.1.1) d.1.2 xs).2 = 0) := by
  unfold may
  rw [← h, chk_er]
theorem str_size (l : List Nat) : (str l).size = l.length := by
  unfold str
  show (strOfNums _).data.size = _
  rw [← Array.length_toList, strOfNums_data]
  simp
theorem sz_of {d : Pv} {xs : List Gr.No} (hk : PvK d) (h : xs.map er = d.2.map toNo) : Gr.Sz (str d.1.1) xs := by
  refine ⟨by rw [str_size]; have := hk.nm; omega, fun x hx => ?_⟩
  have h1 : er x ∈ d.2.map toNo := by rw [← h]; exact List.mem_map_of_mem hx
  obtain ⟨e, he, h2⟩ := List.mem_map.1 h1
  have h3 := congrArg (fun z : Gr.No => z.q.nm) h2
  have h3 : str e.1.1.1.1.1.1.1.1.1 = x.q.nm := h3
  rw [← h3, str_size]
  have := (hk.nds e he).nm
  omega
theorem mayBe_any (nm : ByteArray) (dl : Int) (s : Option Addr × Nat × Nat) (xs : List Gr.No) (w : World) (hP : Gr.RdP w.heap.size w s xs) (hs : Gr.Sz nm xs) :
    Calls Tryz.prog 72 #[.agg #[.string nm, .int .i64 dl, .slice s.1 s.2.1 s.2.2]] w fun e w' => e = .returned (.bool (decide ((Gr.chk nm dl xs).2 = 0))) ∧ Keep (fun _ => False) w w' := by
  obtain ⟨a, n, c⟩ := s
  have kA := Keep.alloc (fun _ => False) w (.cells #[.string nm, .int .i64 dl, .slice a n c] 30)
  have hb := heap_alloc_new w (.cells #[.string nm, .int .i64 dl, .slice a n c] 30)
  have CK := hide (Gr.check_any nm dl (a, n, c) xs w.heap.size (w.alloc (.cells #[.string nm, .int .i64 dl, .slice a n c] 30)) (hP.keep kA (fun _ f => f.elim)) kA.size hs)
  have d0 := cell_blk hb 0 (v := .string nm) rfl
  have d1 := cell_blk hb 1 (v := .int .i64 dl) rfl
  have d2 := cell_blk hb 2 (v := .slice a n c) rfl
  have HK := hide kA
  clear hP hs kA hb
  obtain ⟨k, hk⟩ : ∃ k, (Gr.chk nm dl xs).2 = k := ⟨_, rfl⟩
  rw [hk]
  have CK2 := CK.out
  rw [hk] at CK2
  have CKh := hide CK2
  clear CK CK2
  go_enter Tryz.func72, Tryz.ntmps72
  go_wp2_with (go_at_call 27; refine CKh.out.mono ?_; rintro e w1 ⟨rfl, k1⟩)
  go_ret
  refine ⟨?_, HK.out.more k1⟩
  by_cases h0 : k = 0
  · subst h0; rfl
  · have h1 : (((k : Nat) : Int) == 0) = false := by simpa using h0
    simp [h0]
end Cd
end Go.Proofs.YtbjcckfhfbjchaaGreat
