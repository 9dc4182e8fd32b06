/- Package pack: NewReader, End, Read; the take of Numbers. -/
import Derived.Test.YteaokgolnhdloaaPTake
namespace Go.Proofs.Yteaokgolnhdloaa
open Go.RowKit

/-- a new reader over bytes -/
def newR (l : List Nat) : K.RS := if l.length ≤ 16777216 then ⟨l, 0, 0⟩ else ⟨[], 0, 20⟩

/-- what End tells -/
def endR (s : K.RS) : Nat := if s.fault = 0 ∧ s.taken < s.data.length then 23 else s.fault

theorem NewReader_any (a : Option Addr) (n c : Nat) (l : List Nat) (w : World) (h : Rd w a n l) (h0 : a = none → c = 0) :
    Calls Try.prog 9 #[.slice a n c] w fun en w' => ∃ q, en = .returned (.pointer (some ⟨q, 0, none⟩)) ∧ Rr w' q (newR l) ∧ w.heap.size ≤ q ∧ Below w.heap.size w w' := by
  have HR := hide h
  have H0 := hide h0
  have hl := h.1
  have hn := h.2.1
  have HL := hide hl
  clear h h0 hl
  unfold newR
  by_cases hlt : n ≤ 16777216
  · rw [if_pos (by have := HL.out; omega)]
    go_enter Try.func9, Try.ntmps9
    go_wp2_with fail
    refine (clone_any a n c l _ HR.out H0.out (by omega)).mono ?_
    rintro e w1 ⟨v, rfl, ho, hb⟩
    obtain ⟨a', c', rfl, hr, h0', hc', _⟩ := ownsRow_rd ho HR.out.2.2.1 (by have := HL.out; omega)
    have HR' := hide hr
    have H0' := hide h0'
    have HB := hide hb
    have HC := hide hc'
    have HO := hide ho
    clear ho hr h0' hb hc'
    go_wp2
    go_ret
    refine ⟨w1.heap.size, rfl, ⟨⟨a', c', heap_alloc_new w1 _, HR'.out.keep ((Below.refl _ _).alloc (Nat.le_refl _) _), H0'.out, HC.out, ?_⟩, Nat.zero_le _, by have := HL.out; show l.length ≤ _; omega⟩, HB.out.size, HB.out.alloc HB.out.size _⟩
    intro b off e
    exact (HO.out.lt b (by rw [e]; rfl)).2
  · rw [if_neg (by have := HL.out; omega)]
    go_enter Try.func9, Try.ntmps9
    go_wp2
    go_ret
    exact ⟨w.heap.size, rfl, ⟨⟨none, 0, heap_alloc_new w _, ⟨rfl, by decide, (fun d hd => by cases hd), .inl rfl⟩, (fun _ => rfl), Nat.le_refl _, (fun b off e => by cases e)⟩, Nat.zero_le _, Nat.zero_le _⟩, Nat.le_refl _, (Below.refl _ _).alloc (Nat.le_refl _) _⟩

theorem End_any (q : Nat) (s : K.RS) (w : World) (h : Rr w q s) :
    Calls Try.prog 19 #[.pointer (some ⟨q, 0, none⟩)] w fun en w' => en = .returned (.int .i64 (endR s : Nat)) ∧ Below w.heap.size w w' := by
  have HR := hide h
  obtain ⟨a, c, _, _, c2, _⟩ := h.see
  have htk := h.tak
  have htp := h.top
  clear h
  unfold endR
  by_cases hz : s.fault = 0
  · have HZ := hide hz
    have c2' : w.cell? ⟨q, 2, none⟩ = some (.int .i64 0) := by rw [c2, hz]; rfl
    rw [hz]
    clear hz c2
    by_cases hlt : s.taken < s.data.length
    · rw [if_pos ⟨rfl, hlt⟩]
      go_enter Try.func19, Try.ntmps19
      go_wp2_with fail
      refine (left_any q s _ HR.out).mono ?_
      rintro e w1 ⟨a', c', rfl, hr, h0', hc', hb⟩
      clear hr h0'
      go_wp2
      go_ret
      exact ⟨rfl, hb⟩
    · rw [if_neg (by omega)]
      go_enter Try.func19, Try.ntmps19
      go_wp2_with fail
      refine (left_any q s _ HR.out).mono ?_
      rintro e w1 ⟨a', c', rfl, hr, h0', hc', hb⟩
      obtain ⟨_, _, _, _, d2, _⟩ := (HR.out.below hb).see
      have d2' : w1.cell? ⟨q, 2, none⟩ = some (.int .i64 0) := by rw [d2, HZ.out]; rfl
      clear hr h0' d2 c2'
      go_wp2
      go_ret
      exact ⟨rfl, hb⟩
  · rw [if_neg (by omega)]
    have hzz : (((s.fault : Nat) : Int) == 0) = false := by simpa using hz
    clear hz
    go_enter Try.func19, Try.ntmps19
    go_wp2
    go_ret
    exact ⟨rfl, Below.refl _ _⟩

/-- what a take does, in whatever world in which the blocks of D read as in w -/
def TakesG (D : Nat → Prop) (w : World) (fn : FuncId) (cap : Array Value) (g : K.RS → K.RS) (V : K.RS → World → Value → Prop) : Prop :=
  ∀ q s w1, Agree D w w1 → ¬ D q → Rr w1 q s → s.fault = 0 → Takes w1 q fn cap (g s) (V s)

theorem TakesG.mono {D E : Nat → Prop} {w w2 : World} {fn : FuncId} {cap : Array Value} {g : K.RS → K.RS} {V : K.RS → World → Value → Prop} (h : TakesG D w fn cap g V) (hE : ∀ k, D k → E k) (ha : Agree D w w2) : TakesG E w2 fn cap g V :=
  fun q s w1 h1 h2 h3 h4 => h q s w1 (ha.trans (h1.mono hE)) (fun hd => h2 (hE q hd)) h3 h4

/-- Take: nothing behind a fault -/
def takeR (g : K.RS → K.RS) (s : K.RS) : K.RS := if s.fault = 0 then g s else s

theorem endR_ok {s : K.RS} (h : endR s = 0) : s.fault = 0 := by
  unfold endR at h
  split at h
  · cases h
  · exact h

theorem ReadI (fn1 fn2 : FuncId) (cap1 cap2 : Array Value) (a : Option Addr) (n c : Nat) (l : List Nat) (g : K.RS → K.RS) (V : K.RS → World → Value → Prop) (hV : ∀ s, Stable (V s)) (s' : K.RS) (hs' : takeR g (newR l) = s') (r : Nat) (hr : endR s' = r) (w : World) (h : Rd w a n l) (h0 : a = none → c = 0)
    (ht : TakesG (fun k => k < w.heap.size) w fn2 cap2 g V) (he : ∀ args w, (callFunc fn2 args).run Try.prog w = .ok (.enter fn2 args) w) :
    Calls Try.prog 34 #[.agg #[.func (.func fn1) #[] cap1, .func (.func fn2) #[] cap2], .slice a n c] w fun en w' =>
      ∃ v, en = .returned (.tuple #[v, .int .i64 (r : Nat)]) ∧ (r = 0 → V (newR l) w' v) ∧ (r ≠ 0 → v = .int .i64 0) ∧ Below w.heap.size w w' := by
  have hba := (Below.refl w.heap.size w).alloc (Nat.le_refl _) (.cells #[.func (.func fn1) #[] cap1, .func (.func fn2) #[] cap2] 76)
  have hra := h.keep hba
  have hcf := heap_alloc_new w (.cells #[.func (.func fn1) #[] cap1, .func (.func fn2) #[] cap2] 76)
  have HT := hide ht
  have HV := hide hV
  have HR := hide hra
  have H0 := hide h0
  have HB := hide hba
  have HE := hide he
  have HS := hide hs'
  have HRR := hide hr
  clear ht hV h h0 hra hba he hs' hr
  go_enter Try.func34, Try.ntmps34
  go_wp2_with fail
  refine (NewReader_any a n c l _ HR.out H0.out).mono ?_
  rintro e w1 ⟨q, rfl, hrr, hq, hb1⟩
  have hblk := (Keep.ofBelow (S := fun _ => False) hb1 (Nat.le_refl _)).blk hcf (fun h => h)
  have d0 : w1.cell? ⟨w.heap.size, 0, none⟩ = some (.func (.func fn1) #[] cap1) := by rw [cell_of_row _ _ _ _ _ _ hblk]; rfl
  have d1 : w1.cell? ⟨w.heap.size, 1, none⟩ = some (.func (.func fn2) #[] cap2) := by rw [cell_of_row _ _ _ _ _ _ hblk]; rfl
  have HB1 := hide (HB.out.trans (hb1.mono HB.out.size))
  have HQ := hide (Nat.le_trans HB.out.size hq)
  have HRD := hide hrr
  clear hb1 hblk hcf hq hrr
  go_wp2_with fail
  refine (TakeI q fn1 fn2 cap1 cap2 (newR l) s' (V (newR l)) (HV.out _) w1 HRD.out (fun hz w2 hb2 => ?_) (fun hz => ?_) HE.out).mono ?_
  · rw [← HS.out, takeR, if_pos hz]
    exact HT.out q (newR l) w2 (Agree.below (further HB1.out hb2)) (by have := HQ.out; show ¬ _ < _; omega) (HRD.out.below hb2) hz
  · rw [← HS.out, takeR, if_neg hz]
  rintro e w2 ⟨v, rfl, hr2, hk2, hv, hnv⟩
  have HR2 := hide hr2
  have HB2 := hide (HB1.out.trans (hk2.below (B := w.heap.size) (by have := HB1.out.size; omega) (fun i hi => by have := HQ.out; have : i = q := hi; omega)))
  have HVV := hide hv
  clear hr2 hk2 hv hnv d0 d1
  go_wp2_with fail
  refine (End_any q s' _ HR2.out).mono ?_
  rintro e w3 ⟨rfl, hb3⟩
  rw [HRR.out]
  have HB3 := hide (HB2.out.trans (hb3.mono HB2.out.size))
  have HVB := hide hb3
  clear hb3
  by_cases hz : r = 0
  · subst hz
    go_wp2
    go_ret2
    exact ⟨v, rfl, HV.out _ _ _ _ (HVV.out (endR_ok HRR.out)) HVB.out, HB3.out⟩
  · have hzz : ((r : Int) == 0) = false := by simpa using hz
    have HZ := hide hz
    clear hz
    go_wp2
    go_ret2
    exact ⟨_, rfl, fun hn => absurd hn HZ.out, fun _ => rfl, HB3.out⟩

theorem ReadS (fn1 fn2 : FuncId) (cap1 cap2 : Array Value) (a : Option Addr) (n c : Nat) (l : List Nat) (g : K.RS → K.RS) (V : K.RS → World → Value → Prop) (hV : ∀ s, Stable (V s)) (s' : K.RS) (hs' : takeR g (newR l) = s') (r : Nat) (hr : endR s' = r) (w : World) (h : Rd w a n l) (h0 : a = none → c = 0)
    (ht : TakesG (fun k => k < w.heap.size) w fn2 cap2 g V) (he : ∀ args w, (callFunc fn2 args).run Try.prog w = .ok (.enter fn2 args) w) :
    Calls Try.prog 27 #[.agg #[.func (.func fn1) #[] cap1, .func (.func fn2) #[] cap2], .slice a n c] w fun en w' =>
      ∃ v, en = .returned (.tuple #[v, .int .i64 (r : Nat)]) ∧ (r = 0 → V (newR l) w' v) ∧ (r ≠ 0 → v = .string ⟨#[]⟩) ∧ Below w.heap.size w w' := by
  have hba := (Below.refl w.heap.size w).alloc (Nat.le_refl _) (.cells #[.func (.func fn1) #[] cap1, .func (.func fn2) #[] cap2] 66)
  have hra := h.keep hba
  have hcf := heap_alloc_new w (.cells #[.func (.func fn1) #[] cap1, .func (.func fn2) #[] cap2] 66)
  have HT := hide ht
  have HV := hide hV
  have HR := hide hra
  have H0 := hide h0
  have HB := hide hba
  have HE := hide he
  have HS := hide hs'
  have HRR := hide hr
  clear ht hV h h0 hra hba he hs' hr
  go_enter Try.func27, Try.ntmps27
  go_wp2_with fail
  refine (NewReader_any a n c l _ HR.out H0.out).mono ?_
  rintro e w1 ⟨q, rfl, hrr, hq, hb1⟩
  have hblk := (Keep.ofBelow (S := fun _ => False) hb1 (Nat.le_refl _)).blk hcf (fun h => h)
  have d0 : w1.cell? ⟨w.heap.size, 0, none⟩ = some (.func (.func fn1) #[] cap1) := by rw [cell_of_row _ _ _ _ _ _ hblk]; rfl
  have d1 : w1.cell? ⟨w.heap.size, 1, none⟩ = some (.func (.func fn2) #[] cap2) := by rw [cell_of_row _ _ _ _ _ _ hblk]; rfl
  have HB1 := hide (HB.out.trans (hb1.mono HB.out.size))
  have HQ := hide (Nat.le_trans HB.out.size hq)
  have HRD := hide hrr
  clear hb1 hblk hcf hq hrr
  go_wp2_with fail
  refine (TakeS q fn1 fn2 cap1 cap2 (newR l) s' (V (newR l)) (HV.out _) w1 HRD.out (fun hz w2 hb2 => ?_) (fun hz => ?_) HE.out).mono ?_
  · rw [← HS.out, takeR, if_pos hz]
    exact HT.out q (newR l) w2 (Agree.below (further HB1.out hb2)) (by have := HQ.out; show ¬ _ < _; omega) (HRD.out.below hb2) hz
  · rw [← HS.out, takeR, if_neg hz]
  rintro e w2 ⟨v, rfl, hr2, hk2, hv, hnv⟩
  have HR2 := hide hr2
  have HB2 := hide (HB1.out.trans (hk2.below (B := w.heap.size) (by have := HB1.out.size; omega) (fun i hi => by have := HQ.out; have : i = q := hi; omega)))
  have HVV := hide hv
  clear hr2 hk2 hv hnv d0 d1
  go_wp2_with fail
  refine (End_any q s' _ HR2.out).mono ?_
  rintro e w3 ⟨rfl, hb3⟩
  rw [HRR.out]
  have HB3 := hide (HB2.out.trans (hb3.mono HB2.out.size))
  have HVB := hide hb3
  clear hb3
  by_cases hz : r = 0
  · subst hz
    go_wp2
    go_ret2
    exact ⟨v, rfl, HV.out _ _ _ _ (HVV.out (endR_ok HRR.out)) HVB.out, HB3.out⟩
  · have hzz : ((r : Int) == 0) = false := by simpa using hz
    have HZ := hide hz
    clear hz
    go_wp2
    go_ret2
    exact ⟨_, rfl, fun hn => absurd hn HZ.out, fun _ => rfl, HB3.out⟩

theorem ReadLs (fn1 fn2 : FuncId) (cap1 cap2 : Array Value) (a : Option Addr) (n c : Nat) (l : List Nat) (g : K.RS → K.RS) (V : K.RS → World → Value → Prop) (hV : ∀ s, Stable (V s)) (s' : K.RS) (hs' : takeR g (newR l) = s') (r : Nat) (hr : endR s' = r) (w : World) (h : Rd w a n l) (h0 : a = none → c = 0)
    (ht : TakesG (fun k => k < w.heap.size) w fn2 cap2 g V) (he : ∀ args w, (callFunc fn2 args).run Try.prog w = .ok (.enter fn2 args) w) :
    Calls Try.prog 37 #[.agg #[.func (.func fn1) #[] cap1, .func (.func fn2) #[] cap2], .slice a n c] w fun en w' =>
      ∃ v, en = .returned (.tuple #[v, .int .i64 (r : Nat)]) ∧ (r = 0 → V (newR l) w' v) ∧ (r ≠ 0 → v = .slice none 0 0) ∧ Below w.heap.size w w' := by
  have hba := (Below.refl w.heap.size w).alloc (Nat.le_refl _) (.cells #[.func (.func fn1) #[] cap1, .func (.func fn2) #[] cap2] 85)
  have hra := h.keep hba
  have hcf := heap_alloc_new w (.cells #[.func (.func fn1) #[] cap1, .func (.func fn2) #[] cap2] 85)
  have HT := hide ht
  have HV := hide hV
  have HR := hide hra
  have H0 := hide h0
  have HB := hide hba
  have HE := hide he
  have HS := hide hs'
  have HRR := hide hr
  clear ht hV h h0 hra hba he hs' hr
  go_enter Try.func37, Try.ntmps37
  go_wp2_with fail
  refine (NewReader_any a n c l _ HR.out H0.out).mono ?_
  rintro e w1 ⟨q, rfl, hrr, hq, hb1⟩
  have hblk := (Keep.ofBelow (S := fun _ => False) hb1 (Nat.le_refl _)).blk hcf (fun h => h)
  have d0 : w1.cell? ⟨w.heap.size, 0, none⟩ = some (.func (.func fn1) #[] cap1) := by rw [cell_of_row _ _ _ _ _ _ hblk]; rfl
  have d1 : w1.cell? ⟨w.heap.size, 1, none⟩ = some (.func (.func fn2) #[] cap2) := by rw [cell_of_row _ _ _ _ _ _ hblk]; rfl
  have HB1 := hide (HB.out.trans (hb1.mono HB.out.size))
  have HQ := hide (Nat.le_trans HB.out.size hq)
  have HRD := hide hrr
  clear hb1 hblk hcf hq hrr
  go_wp2_with fail
  refine (TakeLs q fn1 fn2 cap1 cap2 (newR l) s' (V (newR l)) (HV.out _) w1 HRD.out (fun hz w2 hb2 => ?_) (fun hz => ?_) HE.out).mono ?_
  · rw [← HS.out, takeR, if_pos hz]
    exact HT.out q (newR l) w2 (Agree.below (further HB1.out hb2)) (by have := HQ.out; show ¬ _ < _; omega) (HRD.out.below hb2) hz
  · rw [← HS.out, takeR, if_neg hz]
  rintro e w2 ⟨v, rfl, hr2, hk2, hv, hnv⟩
  have HR2 := hide hr2
  have HB2 := hide (HB1.out.trans (hk2.below (B := w.heap.size) (by have := HB1.out.size; omega) (fun i hi => by have := HQ.out; have : i = q := hi; omega)))
  have HVV := hide hv
  clear hr2 hk2 hv hnv d0 d1
  go_wp2_with fail
  refine (End_any q s' _ HR2.out).mono ?_
  rintro e w3 ⟨rfl, hb3⟩
  rw [HRR.out]
  have HB3 := hide (HB2.out.trans (hb3.mono HB2.out.size))
  have HVB := hide hb3
  clear hb3
  by_cases hz : r = 0
  · subst hz
    go_wp2
    go_ret2
    exact ⟨v, rfl, HV.out _ _ _ _ (HVV.out (endR_ok HRR.out)) HVB.out, HB3.out⟩
  · have hzz : ((r : Int) == 0) = false := by simpa using hz
    have HZ := hide hz
    clear hz
    go_wp2
    go_ret2
    exact ⟨_, rfl, fun hn => absurd hn HZ.out, fun _ => rfl, HB3.out⟩

theorem ReadLb (fn1 fn2 : FuncId) (cap1 cap2 : Array Value) (a : Option Addr) (n c : Nat) (l : List Nat) (g : K.RS → K.RS) (V : K.RS → World → Value → Prop) (hV : ∀ s, Stable (V s)) (s' : K.RS) (hs' : takeR g (newR l) = s') (r : Nat) (hr : endR s' = r) (w : World) (h : Rd w a n l) (h0 : a = none → c = 0)
    (ht : TakesG (fun k => k < w.heap.size) w fn2 cap2 g V) (he : ∀ args w, (callFunc fn2 args).run Try.prog w = .ok (.enter fn2 args) w) :
    Calls Try.prog 20 #[.agg #[.func (.func fn1) #[] cap1, .func (.func fn2) #[] cap2], .slice a n c] w fun en w' =>
      ∃ v, en = .returned (.tuple #[v, .int .i64 (r : Nat)]) ∧ (r = 0 → V (newR l) w' v) ∧ (r ≠ 0 → v = .slice none 0 0) ∧ Below w.heap.size w w' := by
  have hba := (Below.refl w.heap.size w).alloc (Nat.le_refl _) (.cells #[.func (.func fn1) #[] cap1, .func (.func fn2) #[] cap2] 28)
  have hra := h.keep hba
  have hcf := heap_alloc_new w (.cells #[.func (.func fn1) #[] cap1, .func (.func fn2) #[] cap2] 28)
  have HT := hide ht
  have HV := hide hV
  have HR := hide hra
  have H0 := hide h0
  have HB := hide hba
  have HE := hide he
  have HS := hide hs'
  have HRR := hide hr
  clear ht hV h h0 hra hba he hs' hr
  go_enter Try.func20, Try.ntmps20
  go_wp2_with fail
  refine (NewReader_any a n c l _ HR.out H0.out).mono ?_
  rintro e w1 ⟨q, rfl, hrr, hq, hb1⟩
  have hblk := (Keep.ofBelow (S := fun _ => False) hb1 (Nat.le_refl _)).blk hcf (fun h => h)
  have d0 : w1.cell? ⟨w.heap.size, 0, none⟩ = some (.func (.func fn1) #[] cap1) := by rw [cell_of_row _ _ _ _ _ _ hblk]; rfl
  have d1 : w1.cell? ⟨w.heap.size, 1, none⟩ = some (.func (.func fn2) #[] cap2) := by rw [cell_of_row _ _ _ _ _ _ hblk]; rfl
  have HB1 := hide (HB.out.trans (hb1.mono HB.out.size))
  have HQ := hide (Nat.le_trans HB.out.size hq)
  have HRD := hide hrr
  clear hb1 hblk hcf hq hrr
  go_wp2_with fail
  refine (TakeLb q fn1 fn2 cap1 cap2 (newR l) s' (V (newR l)) (HV.out _) w1 HRD.out (fun hz w2 hb2 => ?_) (fun hz => ?_) HE.out).mono ?_
  · rw [← HS.out, takeR, if_pos hz]
    exact HT.out q (newR l) w2 (Agree.below (further HB1.out hb2)) (by have := HQ.out; show ¬ _ < _; omega) (HRD.out.below hb2) hz
  · rw [← HS.out, takeR, if_neg hz]
  rintro e w2 ⟨v, rfl, hr2, hk2, hv, hnv⟩
  have HR2 := hide hr2
  have HB2 := hide (HB1.out.trans (hk2.below (B := w.heap.size) (by have := HB1.out.size; omega) (fun i hi => by have := HQ.out; have : i = q := hi; omega)))
  have HVV := hide hv
  clear hr2 hk2 hv hnv d0 d1
  go_wp2_with fail
  refine (End_any q s' _ HR2.out).mono ?_
  rintro e w3 ⟨rfl, hb3⟩
  rw [HRR.out]
  have HB3 := hide (HB2.out.trans (hb3.mono HB2.out.size))
  have HVB := hide hb3
  clear hb3
  by_cases hz : r = 0
  · subst hz
    go_wp2
    go_ret2
    exact ⟨v, rfl, HV.out _ _ _ _ (HVV.out (endR_ok HRR.out)) HVB.out, HB3.out⟩
  · have hzz : ((r : Int) == 0) = false := by simpa using hz
    have HZ := hide hz
    clear hz
    go_wp2
    go_ret2
    exact ⟨_, rfl, fun hn => absurd hn HZ.out, fun _ => rfl, HB3.out⟩

end Go.Proofs.Yteaokgolnhdloaa
