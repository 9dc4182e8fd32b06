import Derived.Test.YtbjcckfhfbjchaaGreatGCyc
import Derived.Test.YtbjcckfhfbjchaaGreatGWho
/- Contract of cycle. -/
namespace Go.Proofs.YtbjcckfhfbjchaaGreat
namespace Gr
open Go.RowKit

theorem lit64_eq : (#[.bool false, .bool false, .bool false, .bool false, .bool false, .bool false, .bool false, .bool false, .bool false, .bool false, .bool false, .bool false, .bool false, .bool false, .bool false, .bool false, .bool false, .bool false, .bool false, .bool false, .bool false, .bool false, .bool false, .bool false, .bool false, .bool false, .bool false, .bool false, .bool false, .bool false, .bool false, .bool false, .bool false, .bool false, .bool false, .bool false, .bool false, .bool false, .bool false, .bool false, .bool false, .bool false, .bool false, .bool false, .bool false, .bool false, .bool false, .bool false, .bool false, .bool false, .bool false, .bool false, .bool false, .bool false, .bool false, .bool false, .bool false, .bool false, .bool false, .bool false, .bool false, .bool false, .bool false, .bool false] : Array Value) = none64 := by rw [← none64_eq]; rfl
theorem eg_out {xs : List No} {a : Nat} (h : xs.length ≤ a) : eg xs a = [] := by
  unfold eg; rw [List.getElem?_eq_none h]
set_option maxRecDepth 100000 in
set_option maxHeartbeats 4000000 in
theorem cycle_any (s : Option Addr × Nat × Nat) (xs : List No) (B : Nat) (w : World) (hP : RdP B w s xs) (hB : B ≤ w.heap.size) (hv : Val xs) :
    Calls Tryz.prog 52 #[.slice s.1 s.2.1 s.2.2] w fun e w' => (∃ c : Nat, e = .returned (.int .i64 (c : Int)) ∧ c ≤ xs.length ∧ IsCyc (eg xs) c) ∧ Keep (fun _ => False) w w' := by
  obtain ⟨a, n, c⟩ := s
  have HP := hide hP
  have HN : Hid (n = xs.length) := hP.1
  have hl : n ≤ 64 := by have := hP.1; have := hv.1; simp at *; omega
  clear hP
  go_enter Tryz.func52, Tryz.ntmps52
  go_wp2_with fail
  have K0 := hide (Keep.alloc (fun _ => False) w (.cells #[.slice a n c] 28))
  have hcn0 : (w.alloc (.cells #[.slice a n c] 28)).cell? ⟨w.heap.size, 0, none⟩ = some (.slice a n c) := by rw [World.cell?_alloc_mark]; rfl
  have CN := hide hcn0
  have HSZ := hide (show (w.alloc (.cells #[.slice a n c] 28)).heap.size = w.heap.size + 1 by simp)
  clear hcn0
  generalize w.alloc (.cells #[.slice a n c] 28) = w0 at *
  go_loopw [8] (fun iv wr => ∃ (i : Nat), iv = .int .i64 (i : Nat) ∧ i ≤ n ∧ Hid (Keep (fun _ => False) w0 wr ∧ ∀ m, m < i → ¬ Back (eg xs) m m)) (fun iv _ => n - (intOf iv).toNat)
  case atStart => exact ⟨0, rfl, Nat.zero_le _, Keep.refl _ _, fun m h => by omega⟩
  case round =>
    obtain ⟨i, rfl, hi, HD⟩ := hrel
    by_cases hlt : i < n
    · have hlit := lit64_eq
      obtain ⟨fv, hfv⟩ : ∃ fv, fv = Value.func (.func 109) #[] #[.pointer (some ⟨wr.heap.size, 0, none⟩), .pointer (some ⟨wr.heap.size + 1, 0, none⟩), .pointer (some ⟨wr.heap.size + 1 + 1, 0, none⟩), .pointer (some ⟨w.heap.size, 0, none⟩)] := ⟨_, rfl⟩
      obtain ⟨V, hV⟩ : ∃ V, V = ((wr.alloc (.cells #[.int .i64 (i : Int)] 3)).alloc (.cells #[.bool false, .bool false, .bool false, .bool false, .bool false, .bool false, .bool false, .bool false, .bool false, .bool false, .bool false, .bool false, .bool false, .bool false, .bool false, .bool false, .bool false, .bool false, .bool false, .bool false, .bool false, .bool false, .bool false, .bool false, .bool false, .bool false, .bool false, .bool false, .bool false, .bool false, .bool false, .bool false, .bool false, .bool false, .bool false, .bool false, .bool false, .bool false, .bool false, .bool false, .bool false, .bool false, .bool false, .bool false, .bool false, .bool false, .bool false, .bool false, .bool false, .bool false, .bool false, .bool false, .bool false, .bool false, .bool false, .bool false, .bool false, .bool false, .bool false, .bool false, .bool false, .bool false, .bool false, .bool false] 145)).alloc (.cells #[fv] 146) := ⟨_, rfl⟩
      have kV : Keep (fun _ => False) wr V := by rw [hV]; exact ((Keep.alloc _ _ _).more (Keep.alloc _ _ _)).more (Keep.alloc _ _ _)
      have b1 : V.heap[wr.heap.size]? = some (.cells #[.int .i64 (i : Int)] 3 (0, 0)) := by
        rw [hV]
        exact (Keep.alloc (fun _ => False) _ _).blk ((Keep.alloc (fun _ => False) _ _).blk (heap_alloc_new wr _) (fun f => f)) (fun f => f)
      have b2 : V.heap[wr.heap.size + 1]? = some (.cells none64 145 (0, 0)) := by
        rw [hV, hlit]
        refine (Keep.alloc (fun _ => False) _ _).blk ?_ (fun f => f)
        have := heap_alloc_new (wr.alloc (.cells #[.int .i64 (i : Int)] 3)) (.cells none64 145)
        rwa [World.size_alloc] at this
      have b3 : V.heap[wr.heap.size + 1 + 1]? = some (.cells #[fv] 146 (0, 0)) := by
        rw [hV]
        have := heap_alloc_new ((wr.alloc (.cells #[.int .i64 (i : Int)] 3)).alloc (.cells #[.bool false, .bool false, .bool false, .bool false, .bool false, .bool false, .bool false, .bool false, .bool false, .bool false, .bool false, .bool false, .bool false, .bool false, .bool false, .bool false, .bool false, .bool false, .bool false, .bool false, .bool false, .bool false, .bool false, .bool false, .bool false, .bool false, .bool false, .bool false, .bool false, .bool false, .bool false, .bool false, .bool false, .bool false, .bool false, .bool false, .bool false, .bool false, .bool false, .bool false, .bool false, .bool false, .bool false, .bool false, .bool false, .bool false, .bool false, .bool false, .bool false, .bool false, .bool false, .bool false, .bool false, .bool false, .bool false, .bool false, .bool false, .bool false, .bool false, .bool false, .bool false, .bool false, .bool false, .bool false] 145)) (.cells #[fv] 146)
        rwa [World.size_alloc, World.size_alloc] at this
      clear hlit
      have hle : w.heap.size + 1 ≤ wr.heap.size := by have := HSZ.out; have := HD.out.1.size; omega
      have kF : Keep (fun _ => False) w0 V := HD.out.1.more kV
      have E0 : CEnv B (a, n, c) xs wr.heap.size (wr.heap.size + 1) (wr.heap.size + 1 + 1) w.heap.size i V (fun _ => false) :=
        ⟨cell_blk b1 0 rfl, b2, by rw [← hfv]; exact cell_blk b3 0 rfl, kF.cell CN.out (fun f => f), (HP.out.new K0.out).new kF, by omega, by omega, by omega, by omega⟩
      have KR := hide kF
      have hsf := fun (w : World) (a : Addr) (m : Mode) (f : Fn) (x y : Array Value) => run_store Tryz.prog w a (.func f x y) m rfl
      have L := hide (leadsBack_any (B := B) (s := (a, n, c)) (Pf := wr.heap.size) (Ps := wr.heap.size + 1) (Pl := wr.heap.size + 1 + 1) (Pn := w.heap.size) (f := i) hv (cnt fun _ => false) i (fun _ => false) V (by have := HN.out; omega) rfl E0)
      have HS0 := hide (show w0.heap.size ≤ wr.heap.size from HD.out.1.size)
      have HV := hide hV
      have HF := hide hfv
      have hin : i < xs.length := by have := HN.out; omega
      clear E0 b1 b2 b3 kV kF hV hfv
      go_wp2_with fail
      go_at_call 109
      rw [← HF.out, ← HV.out]
      refine L.out.mono ?_
      rintro e w2 ⟨r, τ, rfl, hE, hS, k2⟩
      have HB := hide (hS.whole (fun x h => by cases h))
      have c1 := hE.cf
      have K2 : Hid (Keep (fun _ => False) w0 w2) := KR.out.trans k2 fun k e => .inr (by have := HS0.out; omega)
      clear hE hS k2 L HV
      cases r
      · have hnb := fun h => Bool.false_ne_true (HB.out.2 h)
        have HNB := hide hnb
        clear hnb
        go_wp2_with fail
        go_roundw
        · refine ⟨i + 1, rfl, by omega, K2.out, fun m hm => ?_⟩
          by_cases e : m = i
          · subst e; exact HNB.out
          · exact HD.out.2 m (by omega)
        · show n - ((i : Int) + 1).toNat < n - (i : Int).toNat
          omega
      · have HBB := hide (HB.out.1 rfl)
        go_wp2_with fail
        go_ret
        exact ⟨⟨i + 1, rfl, by omega, isCyc_some HD.out.2 HBB.out⟩, K0.out.more K2.out⟩
    · obtain rfl : i = n := by omega
      go_wp2_with fail
      go_ret
      exact ⟨⟨0, rfl, Nat.zero_le _, isCyc_none (n := i) (fun a ha => eg_out (by have := HN.out; omega)) HD.out.2⟩, K0.out.more HD.out.1⟩
end Gr
end Go.Proofs.YtbjcckfhfbjchaaGreat

/- Contract of Check. -/
namespace Go.Proofs.YtbjcckfhfbjchaaGreat
namespace Gr
open Go.RowKit

theorem lOk_in {ah own cnt : Int} {z : List Int} (h : lOk ah z own cnt = true) : ∀ e ∈ z, ah < e ∧ e < cnt ∧ e ≠ own := by
  induction z generalizing ah with
  | nil => intro e he; cases he
  | cons x z ih =>
    unfold lOk at h
    simp only [Bool.and_eq_true, Bool.not_eq_true', Bool.or_eq_false_iff, decide_eq_false_iff_not] at h
    obtain ⟨⟨⟨h1, h2⟩, h3⟩, h4⟩ := h
    intro e he
    rcases List.mem_cons.1 he with rfl | he
    · exact ⟨by omega, by omega, h3⟩
    · have := ih h4 e he; exact ⟨by omega, this.2⟩
/-- what holds of nodes with which nothing is wrong -/
theorem cN_ok {n : Nat} : ∀ {xs : List No} {i : Nat} {seen : List ByteArray}, (cN n i seen xs).2 = 0 → ∀ k x, xs[k]? = some x → isNm x.q.nm = true ∧ fOk x.q = true ∧ eOk x ((i + k : Nat) : Int) n = true := by
  intro xs
  induction xs with
  | nil => intro i seen _ k x hx; simp at hx
  | cons y xs ih =>
    intro i seen h k x hx
    unfold cN at h
    split at h
    · cases h
    · rename_i c1
      split at h
      · cases h
      · rename_i c2
        split at h
        · cases h
        · rename_i c3
          cases k with
          | zero =>
            obtain rfl : y = x := by simpa using hx
            simp only [Bool.or_eq_true, Bool.not_eq_true', not_or, Bool.not_eq_false] at c1
            exact ⟨c1.1, by simpa using c2, by simpa using c3⟩
          | succ k =>
            have := ih h k x (by simpa using hx)
            rw [show i + (k + 1) = i + 1 + k by omega]
            exact this
theorem cN_val {xs : List No} (hl : xs.length ≤ 64) (h : (cN xs.length 0 [] xs).2 = 0) : Val xs := by
  refine ⟨hl, fun x hx e he => ?_⟩
  obtain ⟨k, hk⟩ := List.getElem?_of_mem hx
  obtain ⟨_, _, h3⟩ := cN_ok h k x hk
  unfold eOk at h3
  simp only [Bool.and_eq_true] at h3
  rcases List.mem_append.1 he with he | he
  · have := lOk_in h3.1.1 e he; omega
  · have := lOk_in h3.1.2 e he; omega
theorem cN_zero {n : Nat} : ∀ {xs : List No} {i : Nat} {seen : List ByteArray}, (cN n i seen xs).2 = 0 → cN n i seen xs = (0, 0) := by
  intro xs
  induction xs with
  | nil => intro i seen _; rfl
  | cons y xs ih =>
    intro i seen h
    unfold cN at h ⊢
    split at h
    · cases h
    · rename_i c1
      rw [if_neg c1]
      split at h
      · cases h
      · rename_i c2
        rw [if_neg c2]
        split at h
        · cases h
        · rename_i c3
          rw [if_neg c3]
          exact ih h
theorem cN_le {n : Nat} : ∀ {xs : List No} {i : Nat} {seen : List ByteArray}, (cN n i seen xs).1 ≤ i + xs.length := by
  intro xs
  induction xs with
  | nil => intro i seen; simp [cN]
  | cons y xs ih =>
    intro i seen
    unfold cN
    split
    · simp
    · split
      · simp
      · split
        · simp
        · have := ih (i := i + 1) (seen := y.q.nm :: seen); simp; omega

/-- the node that waits for itself -/
noncomputable def cyc (xs : List No) : Nat := Classical.epsilon (IsCyc (eg xs))
theorem cyc_eq {xs : List No} {c : Nat} (h : IsCyc (eg xs) c) : cyc xs = c := (Classical.epsilon_spec (p := IsCyc (eg xs)) ⟨c, h⟩).uniq h
noncomputable def chk (nm : ByteArray) (dl : Int) (xs : List No) : Nat × Nat :=
  if cW nm dl xs ≠ 0 then (0, cW nm dl xs) else if (cN xs.length 0 [] xs).2 ≠ 0 then cN xs.length 0 [] xs else if cyc xs ≠ 0 then (cyc xs, 106) else (0, 0)
theorem cW_len {nm : ByteArray} {dl : Int} {xs : List No} (h : cW nm dl xs = 0) : 1 ≤ xs.length ∧ xs.length ≤ 64 := by
  unfold cW at h
  split at h
  · cases h
  · split at h
    · cases h
    · split at h
      · cases h
      · rename_i c
        unfold wI at c
        simp at c
        omega
/-- plans that may be -/
theorem chk_ok {nm : ByteArray} {dl : Int} {xs : List No} (h : (chk nm dl xs).2 = 0) : cW nm dl xs = 0 ∧ (cN xs.length 0 [] xs).2 = 0 ∧ 1 ≤ xs.length ∧ Val xs ∧ cyc xs = 0 := by
  unfold chk at h
  split at h
  · rename_i c; exact absurd h c
  · rename_i c
    have c : cW nm dl xs = 0 := by simpa using c
    split at h
    · rename_i c2; exact absurd h c2
    · rename_i c2
      have c2 : (cN xs.length 0 [] xs).2 = 0 := by simpa using c2
      split at h
      · cases h
      · rename_i c3
        exact ⟨c, c2, (cW_len c).1, cN_val (cW_len c).2 c2, by simpa using c3⟩

/-- sizes that a memory can have -/
def Sz (nm : ByteArray) (xs : List No) : Prop := nm.size ≤ 9223372036854775807 ∧ ∀ x ∈ xs, x.q.nm.size ≤ 9223372036854775807

set_option maxHeartbeats 4000000 in
theorem check_any (nm : ByteArray) (dl : Int) (s : Option Addr × Nat × Nat) (xs : List No) (B : Nat) (w : World) (hP : RdP B w s xs) (hB : B ≤ w.heap.size) (hs : Sz nm xs) :
    Calls Tryz.prog 27 #[.agg #[.string nm, .int .i64 dl, .slice s.1 s.2.1 s.2.2]] w fun e w' => e = .returned (.tuple #[.int .i64 ((chk nm dl xs).1 : Nat), .int .i64 ((chk nm dl xs).2 : Nat)]) ∧ Keep (fun _ => False) w w' := by
  have HR : Hid (chk nm dl xs = if cW nm dl xs ≠ 0 then (0, cW nm dl xs) else if (cN xs.length 0 [] xs).2 ≠ 0 then cN xs.length 0 [] xs else if cyc xs ≠ 0 then (cyc xs, 106) else (0, 0)) := rfl
  obtain ⟨a, n, c⟩ := s
  have hnx : n = xs.length := hP.1
  have KW := hide (Keep.alloc (fun _ => False) w (.cells #[.string nm, .int .i64 dl, .slice a n c] 30))
  have cell2 : (w.alloc (.cells #[.string nm, .int .i64 dl, .slice a n c] 30)).cell? ⟨w.heap.size, 2, none⟩ = some (.slice a n c) := by rw [World.cell?_alloc_mark]; rfl
  have C2 := hide cell2
  have CW := hide (checkWhole_any nm dl _ _ _ _ (hP.new KW.out) hs.1)
  have CN := hide (fun w' hk hl => checkNodes_any _ _ _ w' ((hP.new KW.out).new hk) hl hs.2)
  have CC := hide (fun w' (hk : Keep (fun _ => False) (w.alloc (.cells #[.string nm, .int .i64 dl, .slice a n c] 30)) w') hv => cycle_any _ _ _ w' ((hP.new KW.out).new hk) (by have := hk.size; have := KW.out.size; omega) hv)
  have HL := hide (cW_len (nm := nm) (dl := dl) (xs := xs))
  have HV := hide (cN_val (xs := xs))
  have HZ := hide (cN_zero (n := xs.length) (xs := xs) (i := 0) (seen := []))
  generalize chk nm dl xs = R at *
  generalize cW nm dl xs = r1 at *
  generalize cN xs.length 0 [] xs = r2 at *
  obtain ⟨R1, R2⟩ := R
  obtain ⟨r2a, r2b⟩ := r2
  have HNX := hide hnx
  clear hP hs cell2 hnx
  go_enter Tryz.func27, Tryz.ntmps27
  go_wp2_with fail
  go_at_call 50
  refine CW.out.mono ?_
  rintro e w1 ⟨rfl, k1⟩
  have K1 := hide k1
  have c2 := k1.cell C2.out fun f => f
  clear k1
  by_cases h1 : r1 = 0
  · subst h1
    have hr := HR.out
    rw [if_neg (by simp)] at hr
    have HR2 := hide hr
    clear hr HR
    have hlen := HL.out rfl
    have CN1 := hide (CN.out w1 K1.out (show n ≤ 64 by have := HNX.out; omega))
    go_wp2_with fail
    go_at_call 51
    refine CN1.out.mono ?_
    rintro e w2 ⟨rfl, k2⟩
    have K2 := hide (K1.out.more k2)
    have c2 := k2.cell c2 fun f => f
    clear k2 CN1 CN CW
    by_cases h2 : r2b = 0
    · subst h2
      obtain ⟨rfl, _⟩ := Prod.mk.inj (HZ.out rfl)
      have hr := HR2.out
      rw [if_neg (by simp)] at hr
      have HR3 := hide hr
      clear hr HR2
      have CC1 := hide (CC.out w2 K2.out (HV.out hlen.2 rfl))
      go_wp2_with fail
      go_at_call 52
      refine CC1.out.mono ?_
      rintro e w3 ⟨⟨cc, rfl, hcl, hcy⟩, k3⟩
      have K3 := hide (KW.out.more (K2.out.more k3))
      have hr := HR3.out
      rw [cyc_eq hcy] at hr
      clear k3 CC CC1 hcy HR3
      by_cases h3 : cc = 0
      · subst h3
        rw [if_neg (by simp)] at hr
        obtain ⟨rfl, rfl⟩ := Prod.mk.inj hr
        clear hr
        go_wp2_with fail
        go_ret2
        exact ⟨rfl, K3.out⟩
      · rw [if_pos h3] at hr
        obtain ⟨rfl, rfl⟩ := Prod.mk.inj hr
        clear hr
        go_wp2_with fail
        go_ret2
        exact ⟨rfl, K3.out⟩
    · have hr := HR2.out
      rw [if_pos h2] at hr
      obtain ⟨rfl, rfl⟩ := Prod.mk.inj hr
      clear hr
      go_wp2_with fail
      go_ret2
      exact ⟨rfl, KW.out.more K2.out⟩
  · have hr := HR.out
    rw [if_pos h1] at hr
    obtain ⟨rfl, rfl⟩ := Prod.mk.inj hr
    clear hr
    go_wp2_with fail
    go_ret2
    exact ⟨rfl, KW.out.more K1.out⟩
end Gr
end Go.Proofs.YtbjcckfhfbjchaaGreat
