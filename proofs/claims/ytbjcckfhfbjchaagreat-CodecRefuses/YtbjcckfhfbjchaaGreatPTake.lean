/- Package pack: Form's tried and Take. -/
import Derived.Test.YtbjcckfhfbjchaaGreatPTried
namespace Go.Proofs.YtbjcckfhfbjchaaGreat
open Go.RowKit

/-- a property of a value that stays -/
def Stable (V : World → Value → Prop) : Prop := ∀ w1 w2 v, V w1 v → Below w1.heap.size w1 w2 → V w2 v

/-- what a form's take does: a value, or it gives up -/
def Takes (w : World) (q : Nat) (fn : FuncId) (cap : Array Value) (s' : K.RS) (V : World → Value → Prop) : Prop :=
  Calls Tryz.prog fn (#[.pointer (some ⟨q, 0, none⟩)] ++ cap) w fun en w' => Keep (fun k => k = q) w w' ∧
    ((s'.fault = 0 ∧ ∃ v, en = .returned v ∧ Rr w' q s' ∧ V w' v) ∨ (s'.fault ≠ 0 ∧ ∃ e s1, en = gaveUp e ∧ Rr w' q s1 ∧ s1.fail e = s'))

/-- behind the catch: a value, or the zero value -/
def Took (q : Nat) (s' : K.RS) (V : World → Value → Prop) (zero : Value) (w : World) (en : Ending) (w' : World) : Prop :=
  ∃ v, en = .returned v ∧ Rr w' q s' ∧ Keep (fun k => k = q) w w' ∧ (s'.fault = 0 → V w' v) ∧ (s'.fault ≠ 0 → v = zero)

set_option maxRecDepth 10000 in
theorem triedI (q : Nat) (fn1 fn2 : FuncId) (cap1 cap2 : Array Value) (s s' : K.RS) (V : World → Value → Prop) (hV : Stable V) (w : World) (h : Rr w q s)
    (ht : ∀ w1, Below w.heap.size w w1 → Takes w1 q fn2 cap2 s' V) (he : ∀ args w, (callFunc fn2 args).run Tryz.prog w = .ok (.enter fn2 args) w) :
    Calls Tryz.prog 103 #[.agg #[.func (.func fn1) #[] cap1, .func (.func fn2) #[] cap2], .pointer (some ⟨q, 0, none⟩)] w (Took q s' V (.int .i64 0) w) := by
  have hmf : ∀ (fn : Fn) (first cap : Array Value) (w : World), (Instr.makeFunc fn first cap).run Tryz.prog w = .ok (.func fn first cap) w := fun _ _ _ _ => rfl
  have HT := hide ht
  have HV := hide hV
  have HH := hide h
  clear ht hV h
  go_enter_defers Tryz.func103, Tryz.ntmps103
  go_wp2_with fail
  have hq : q < w.heap.size := by obtain ⟨a, c, hb, _⟩ := HH.out.ex; exact (Array.getElem?_eq_some_iff.1 hb).1
  have hba := ((Below.refl w.heap.size w).alloc (Nat.le_refl _) (.cells #[.func (.func fn1) #[] cap1, .func (.func fn2) #[] cap2] 90)).alloc (by simp) (.cells #[.pointer (some ⟨q, 0, none⟩)] 100)
  have hrb := heap_alloc_new (w.alloc (.cells #[.func (.func fn1) #[] cap1, .func (.func fn2) #[] cap2] 90)) (.cells #[.pointer (some ⟨q, 0, none⟩)] 100)
  generalize hwa : (w.alloc (.cells #[.func (.func fn1) #[] cap1, .func (.func fn2) #[] cap2] 90)).alloc (.cells #[.pointer (some ⟨q, 0, none⟩)] 100) = wa at *
  have hrb2 : wa.heap[w.heap.size + 1]? = some (.cells #[.pointer (some ⟨q, 0, none⟩)] 100 (0, 0)) := by simpa using hrb
  have HKA := hide (Keep.ofBelow (S := fun k => k = q) hba (Nat.le_refl _))
  refine (HT.out wa hba).mono ?_
  clear hba hrb hwa
  rintro en w1 ⟨hk, ⟨h0, v, rfl, hr, hv⟩ | ⟨h0, e, s1, rfl, hr, hf⟩⟩
  · have hrb1 := hk.blk hrb2 (by show ¬ _ = _; omega)
    have hc1 : w1.cell? ⟨w.heap.size + 1, 0, none⟩ = some (.pointer (some ⟨q, 0, none⟩)) := by rw [cell_of_row _ _ _ _ _ _ hrb1]; rfl
    have HK := hide (HKA.out.more hk)
    have HR := hide hr
    have HVV := hide hv
    clear hk hr hv hrb1 hrb2
    go_wp2
    refine leaves_cons (f := 148) (args := #[.pointer (some ⟨w.heap.size + 1, 0, none⟩)]) (by simp) (by simp [go_sem]) ?_
    refine (idleI q (w.heap.size + 1) _ hc1).mono ?_
    rintro e u' w'' ⟨rfl, rfl, rfl⟩
    exact ⟨_, results_tmp rfl _ _ _, v, rfl, HR.out.below (Below.refl _ _).drew, HK.out.more (Keep.drew _ _), fun _ => HV.out _ _ _ HVV.out (Below.refl _ _).drew, fun hn => absurd h0 hn⟩
  · have hrb1 := hk.blk hrb2 (by show ¬ _ = _; omega)
    have hc1 : w1.cell? ⟨w.heap.size + 1, 0, none⟩ = some (.pointer (some ⟨q, 0, none⟩)) := by rw [cell_of_row _ _ _ _ _ _ hrb1]; rfl
    refine leaves_cons (f := 148) (args := #[.pointer (some ⟨w.heap.size + 1, 0, none⟩)]) (by simp) (by simp [go_sem]) ?_
    refine (catchI q (w.heap.size + 1) s1 e [] _ hr hc1).mono ?_
    rintro e2 u' w'' ⟨rfl, rfl, hr2, hk2⟩
    rw [hf] at hr2
    exact ⟨_, results_tmp rfl _ _ _, _, rfl, hr2, (HKA.out.more hk).more hk2, fun hz => absurd hz h0, fun _ => rfl⟩

set_option maxRecDepth 10000 in
theorem TakeI (q : Nat) (fn1 fn2 : FuncId) (cap1 cap2 : Array Value) (s s' : K.RS) (V : World → Value → Prop) (hV : Stable V) (w : World) (h : Rr w q s)
    (ht : s.fault = 0 → ∀ w1, Below w.heap.size w w1 → Takes w1 q fn2 cap2 s' V) (hn : s.fault ≠ 0 → s' = s) (he : ∀ args w, (callFunc fn2 args).run Tryz.prog w = .ok (.enter fn2 args) w) :
    Calls Tryz.prog 48 #[.agg #[.func (.func fn1) #[] cap1, .func (.func fn2) #[] cap2], .pointer (some ⟨q, 0, none⟩)] w (Took q s' V (.int .i64 0) w) := by
  have hba := (Below.refl w.heap.size w).alloc (Nat.le_refl _) (.cells #[.func (.func fn1) #[] cap1, .func (.func fn2) #[] cap2] 90)
  have hra := h.below hba
  have HT := hide ht
  have HV := hide hV
  have HN := hide hn
  have HR := hide hra
  have HB := hide hba
  have HE := hide he
  have hq : q < w.heap.size := by obtain ⟨a, c, hb, _⟩ := h.ex; exact (Array.getElem?_eq_some_iff.1 hb).1
  obtain ⟨a, c, _, _, c2, _⟩ := hra.see
  clear ht hV hn h hra hba he
  by_cases hz : s.fault = 0
  · have HZ := hide hz
    have c2' : (w.alloc (.cells #[.func (.func fn1) #[] cap1, .func (.func fn2) #[] cap2] 90)).cell? ⟨q, 2, none⟩ = some (.int .i64 0) := by rw [c2, hz]; rfl
    have hcf := heap_alloc_new w (.cells #[.func (.func fn1) #[] cap1, .func (.func fn2) #[] cap2] 90)
    clear hz c2
    go_enter Tryz.func48, Tryz.ntmps48
    go_wp2_with fail
    refine (wholeI fn1 fn2 cap1 cap2 _).mono ?_
    rintro e w1 ⟨rfl, hb1⟩
    have hblk := (Keep.ofBelow (S := fun _ => False) hb1 (Nat.le_refl _)).blk hcf (fun h => h)
    have d0 : w1.cell? ⟨w.heap.size, 0, none⟩ = some (.func (.func fn1) #[] cap1) := by rw [cell_of_row _ _ _ _ _ _ hblk]; rfl
    have d1 : w1.cell? ⟨w.heap.size, 1, none⟩ = some (.func (.func fn2) #[] cap2) := by rw [cell_of_row _ _ _ _ _ _ hblk]; rfl
    have HB1 := hide (HB.out.trans (hb1.mono HB.out.size))
    have HR1 := hide (HR.out.below hb1)
    clear hb1 hblk c2' hcf
    go_wp2_with fail
    refine (triedI q fn1 fn2 cap1 cap2 s s' V HV.out w1 HR1.out (fun w2 hb2 => HT.out HZ.out w2 (further HB1.out hb2)) HE.out).mono ?_
    rintro e w2 ⟨v, rfl, hr2, hk2, hv, hnv⟩
    obtain ⟨_, _, _, _, e2, _⟩ := hr2.see
    have HR2 := hide hr2
    have HK2 := hide ((Keep.ofBelow (S := fun k => k = q) HB1.out (Nat.le_refl _)).more hk2)
    have HVV := hide hv
    have HNV := hide hnv
    clear hr2 hk2 hv hnv
    by_cases hz' : s'.fault = 0
    · have e2' : w2.cell? ⟨q, 2, none⟩ = some (.int .i64 0) := by rw [e2, hz']; rfl
      have HZ' := hide hz'
      clear e2 hz'
      go_wp2
      go_ret
      exact ⟨v, rfl, HR2.out, HK2.out, HVV.out, HNV.out⟩
    · have hzz : (((s'.fault : Nat) : Int) == 0) = false := by simpa using hz'
      have HZ' := hide hz'
      clear hz'
      go_wp2
      go_ret
      exact ⟨_, rfl, HR2.out, HK2.out, fun h0 => absurd h0 HZ'.out, fun _ => rfl⟩
  · have hzz : (((s.fault : Nat) : Int) == 0) = false := by simpa using hz
    have HZ := hide hz
    clear hz
    go_enter Tryz.func48, Tryz.ntmps48
    go_wp2
    go_ret
    have hs := HN.out HZ.out
    subst hs
    exact ⟨_, rfl, HR.out, Keep.ofBelow HB.out (Nat.le_refl _), fun h0 => absurd h0 HZ.out, fun _ => rfl⟩

set_option maxRecDepth 10000 in
theorem triedS (q : Nat) (fn1 fn2 : FuncId) (cap1 cap2 : Array Value) (s s' : K.RS) (V : World → Value → Prop) (hV : Stable V) (w : World) (h : Rr w q s)
    (ht : ∀ w1, Below w.heap.size w w1 → Takes w1 q fn2 cap2 s' V) (he : ∀ args w, (callFunc fn2 args).run Tryz.prog w = .ok (.enter fn2 args) w) :
    Calls Tryz.prog 130 #[.agg #[.func (.func fn1) #[] cap1, .func (.func fn2) #[] cap2], .pointer (some ⟨q, 0, none⟩)] w (Took q s' V (.string ⟨#[]⟩) w) := by
  have hmf : ∀ (fn : Fn) (first cap : Array Value) (w : World), (Instr.makeFunc fn first cap).run Tryz.prog w = .ok (.func fn first cap) w := fun _ _ _ _ => rfl
  have HT := hide ht
  have HV := hide hV
  have HH := hide h
  clear ht hV h
  go_enter_defers Tryz.func130, Tryz.ntmps130
  go_wp2_with fail
  have hq : q < w.heap.size := by obtain ⟨a, c, hb, _⟩ := HH.out.ex; exact (Array.getElem?_eq_some_iff.1 hb).1
  have hba := ((Below.refl w.heap.size w).alloc (Nat.le_refl _) (.cells #[.func (.func fn1) #[] cap1, .func (.func fn2) #[] cap2] 109)).alloc (by simp) (.cells #[.pointer (some ⟨q, 0, none⟩)] 100)
  have hrb := heap_alloc_new (w.alloc (.cells #[.func (.func fn1) #[] cap1, .func (.func fn2) #[] cap2] 109)) (.cells #[.pointer (some ⟨q, 0, none⟩)] 100)
  generalize hwa : (w.alloc (.cells #[.func (.func fn1) #[] cap1, .func (.func fn2) #[] cap2] 109)).alloc (.cells #[.pointer (some ⟨q, 0, none⟩)] 100) = wa at *
  have hrb2 : wa.heap[w.heap.size + 1]? = some (.cells #[.pointer (some ⟨q, 0, none⟩)] 100 (0, 0)) := by simpa using hrb
  have HKA := hide (Keep.ofBelow (S := fun k => k = q) hba (Nat.le_refl _))
  refine (HT.out wa hba).mono ?_
  clear hba hrb hwa
  rintro en w1 ⟨hk, ⟨h0, v, rfl, hr, hv⟩ | ⟨h0, e, s1, rfl, hr, hf⟩⟩
  · have hrb1 := hk.blk hrb2 (by show ¬ _ = _; omega)
    have hc1 : w1.cell? ⟨w.heap.size + 1, 0, none⟩ = some (.pointer (some ⟨q, 0, none⟩)) := by rw [cell_of_row _ _ _ _ _ _ hrb1]; rfl
    have HK := hide (HKA.out.more hk)
    have HR := hide hr
    have HVV := hide hv
    clear hk hr hv hrb1 hrb2
    go_wp2
    refine leaves_cons (f := 169) (args := #[.pointer (some ⟨w.heap.size + 1, 0, none⟩)]) (by simp) (by simp [go_sem]) ?_
    refine (idleS q (w.heap.size + 1) _ hc1).mono ?_
    rintro e u' w'' ⟨rfl, rfl, rfl⟩
    exact ⟨_, results_tmp rfl _ _ _, v, rfl, HR.out.below (Below.refl _ _).drew, HK.out.more (Keep.drew _ _), fun _ => HV.out _ _ _ HVV.out (Below.refl _ _).drew, fun hn => absurd h0 hn⟩
  · have hrb1 := hk.blk hrb2 (by show ¬ _ = _; omega)
    have hc1 : w1.cell? ⟨w.heap.size + 1, 0, none⟩ = some (.pointer (some ⟨q, 0, none⟩)) := by rw [cell_of_row _ _ _ _ _ _ hrb1]; rfl
    refine leaves_cons (f := 169) (args := #[.pointer (some ⟨w.heap.size + 1, 0, none⟩)]) (by simp) (by simp [go_sem]) ?_
    refine (catchS q (w.heap.size + 1) s1 e [] _ hr hc1).mono ?_
    rintro e2 u' w'' ⟨rfl, rfl, hr2, hk2⟩
    rw [hf] at hr2
    exact ⟨_, results_tmp rfl _ _ _, _, rfl, hr2, (HKA.out.more hk).more hk2, fun hz => absurd hz h0, fun _ => rfl⟩

set_option maxRecDepth 10000 in
theorem TakeS (q : Nat) (fn1 fn2 : FuncId) (cap1 cap2 : Array Value) (s s' : K.RS) (V : World → Value → Prop) (hV : Stable V) (w : World) (h : Rr w q s)
    (ht : s.fault = 0 → ∀ w1, Below w.heap.size w w1 → Takes w1 q fn2 cap2 s' V) (hn : s.fault ≠ 0 → s' = s) (he : ∀ args w, (callFunc fn2 args).run Tryz.prog w = .ok (.enter fn2 args) w) :
    Calls Tryz.prog 61 #[.agg #[.func (.func fn1) #[] cap1, .func (.func fn2) #[] cap2], .pointer (some ⟨q, 0, none⟩)] w (Took q s' V (.string ⟨#[]⟩) w) := by
  have hba := (Below.refl w.heap.size w).alloc (Nat.le_refl _) (.cells #[.func (.func fn1) #[] cap1, .func (.func fn2) #[] cap2] 109)
  have hra := h.below hba
  have HT := hide ht
  have HV := hide hV
  have HN := hide hn
  have HR := hide hra
  have HB := hide hba
  have HE := hide he
  have hq : q < w.heap.size := by obtain ⟨a, c, hb, _⟩ := h.ex; exact (Array.getElem?_eq_some_iff.1 hb).1
  obtain ⟨a, c, _, _, c2, _⟩ := hra.see
  clear ht hV hn h hra hba he
  by_cases hz : s.fault = 0
  · have HZ := hide hz
    have c2' : (w.alloc (.cells #[.func (.func fn1) #[] cap1, .func (.func fn2) #[] cap2] 109)).cell? ⟨q, 2, none⟩ = some (.int .i64 0) := by rw [c2, hz]; rfl
    have hcf := heap_alloc_new w (.cells #[.func (.func fn1) #[] cap1, .func (.func fn2) #[] cap2] 109)
    clear hz c2
    go_enter Tryz.func61, Tryz.ntmps61
    go_wp2_with fail
    refine (wholeS fn1 fn2 cap1 cap2 _).mono ?_
    rintro e w1 ⟨rfl, hb1⟩
    have hblk := (Keep.ofBelow (S := fun _ => False) hb1 (Nat.le_refl _)).blk hcf (fun h => h)
    have d0 : w1.cell? ⟨w.heap.size, 0, none⟩ = some (.func (.func fn1) #[] cap1) := by rw [cell_of_row _ _ _ _ _ _ hblk]; rfl
    have d1 : w1.cell? ⟨w.heap.size, 1, none⟩ = some (.func (.func fn2) #[] cap2) := by rw [cell_of_row _ _ _ _ _ _ hblk]; rfl
    have HB1 := hide (HB.out.trans (hb1.mono HB.out.size))
    have HR1 := hide (HR.out.below hb1)
    clear hb1 hblk c2' hcf
    go_wp2_with fail
    refine (triedS q fn1 fn2 cap1 cap2 s s' V HV.out w1 HR1.out (fun w2 hb2 => HT.out HZ.out w2 (further HB1.out hb2)) HE.out).mono ?_
    rintro e w2 ⟨v, rfl, hr2, hk2, hv, hnv⟩
    obtain ⟨_, _, _, _, e2, _⟩ := hr2.see
    have HR2 := hide hr2
    have HK2 := hide ((Keep.ofBelow (S := fun k => k = q) HB1.out (Nat.le_refl _)).more hk2)
    have HVV := hide hv
    have HNV := hide hnv
    clear hr2 hk2 hv hnv
    by_cases hz' : s'.fault = 0
    · have e2' : w2.cell? ⟨q, 2, none⟩ = some (.int .i64 0) := by rw [e2, hz']; rfl
      have HZ' := hide hz'
      clear e2 hz'
      go_wp2
      go_ret
      exact ⟨v, rfl, HR2.out, HK2.out, HVV.out, HNV.out⟩
    · have hzz : (((s'.fault : Nat) : Int) == 0) = false := by simpa using hz'
      have HZ' := hide hz'
      clear hz'
      go_wp2
      go_ret
      exact ⟨_, rfl, HR2.out, HK2.out, fun h0 => absurd h0 HZ'.out, fun _ => rfl⟩
  · have hzz : (((s.fault : Nat) : Int) == 0) = false := by simpa using hz
    have HZ := hide hz
    clear hz
    go_enter Tryz.func61, Tryz.ntmps61
    go_wp2
    go_ret
    have hs := HN.out HZ.out
    subst hs
    exact ⟨_, rfl, HR.out, Keep.ofBelow HB.out (Nat.le_refl _), fun h0 => absurd h0 HZ.out, fun _ => rfl⟩

set_option maxRecDepth 10000 in
theorem triedLi (q : Nat) (fn1 fn2 : FuncId) (cap1 cap2 : Array Value) (s s' : K.RS) (V : World → Value → Prop) (hV : Stable V) (w : World) (h : Rr w q s)
    (ht : ∀ w1, Below w.heap.size w w1 → Takes w1 q fn2 cap2 s' V) (he : ∀ args w, (callFunc fn2 args).run Tryz.prog w = .ok (.enter fn2 args) w) :
    Calls Tryz.prog 168 #[.agg #[.func (.func fn1) #[] cap1, .func (.func fn2) #[] cap2], .pointer (some ⟨q, 0, none⟩)] w (Took q s' V (.slice none 0 0) w) := by
  have hmf : ∀ (fn : Fn) (first cap : Array Value) (w : World), (Instr.makeFunc fn first cap).run Tryz.prog w = .ok (.func fn first cap) w := fun _ _ _ _ => rfl
  have HT := hide ht
  have HV := hide hV
  have HH := hide h
  clear ht hV h
  go_enter_defers Tryz.func168, Tryz.ntmps168
  go_wp2_with fail
  have hq : q < w.heap.size := by obtain ⟨a, c, hb, _⟩ := HH.out.ex; exact (Array.getElem?_eq_some_iff.1 hb).1
  have hba := ((Below.refl w.heap.size w).alloc (Nat.le_refl _) (.cells #[.func (.func fn1) #[] cap1, .func (.func fn2) #[] cap2] 158)).alloc (by simp) (.cells #[.pointer (some ⟨q, 0, none⟩)] 100)
  have hrb := heap_alloc_new (w.alloc (.cells #[.func (.func fn1) #[] cap1, .func (.func fn2) #[] cap2] 158)) (.cells #[.pointer (some ⟨q, 0, none⟩)] 100)
  generalize hwa : (w.alloc (.cells #[.func (.func fn1) #[] cap1, .func (.func fn2) #[] cap2] 158)).alloc (.cells #[.pointer (some ⟨q, 0, none⟩)] 100) = wa at *
  have hrb2 : wa.heap[w.heap.size + 1]? = some (.cells #[.pointer (some ⟨q, 0, none⟩)] 100 (0, 0)) := by simpa using hrb
  have HKA := hide (Keep.ofBelow (S := fun k => k = q) hba (Nat.le_refl _))
  refine (HT.out wa hba).mono ?_
  clear hba hrb hwa
  rintro en w1 ⟨hk, ⟨h0, v, rfl, hr, hv⟩ | ⟨h0, e, s1, rfl, hr, hf⟩⟩
  · have hrb1 := hk.blk hrb2 (by show ¬ _ = _; omega)
    have hc1 : w1.cell? ⟨w.heap.size + 1, 0, none⟩ = some (.pointer (some ⟨q, 0, none⟩)) := by rw [cell_of_row _ _ _ _ _ _ hrb1]; rfl
    have HK := hide (HKA.out.more hk)
    have HR := hide hr
    have HVV := hide hv
    clear hk hr hv hrb1 hrb2
    go_wp2
    refine leaves_cons (f := 185) (args := #[.pointer (some ⟨w.heap.size + 1, 0, none⟩)]) (by simp) (by simp [go_sem]) ?_
    refine (idleLi q (w.heap.size + 1) _ hc1).mono ?_
    rintro e u' w'' ⟨rfl, rfl, rfl⟩
    exact ⟨_, results_tmp rfl _ _ _, v, rfl, HR.out.below (Below.refl _ _).drew, HK.out.more (Keep.drew _ _), fun _ => HV.out _ _ _ HVV.out (Below.refl _ _).drew, fun hn => absurd h0 hn⟩
  · have hrb1 := hk.blk hrb2 (by show ¬ _ = _; omega)
    have hc1 : w1.cell? ⟨w.heap.size + 1, 0, none⟩ = some (.pointer (some ⟨q, 0, none⟩)) := by rw [cell_of_row _ _ _ _ _ _ hrb1]; rfl
    refine leaves_cons (f := 185) (args := #[.pointer (some ⟨w.heap.size + 1, 0, none⟩)]) (by simp) (by simp [go_sem]) ?_
    refine (catchLi q (w.heap.size + 1) s1 e [] _ hr hc1).mono ?_
    rintro e2 u' w'' ⟨rfl, rfl, hr2, hk2⟩
    rw [hf] at hr2
    exact ⟨_, results_tmp rfl _ _ _, _, rfl, hr2, (HKA.out.more hk).more hk2, fun hz => absurd hz h0, fun _ => rfl⟩

set_option maxRecDepth 10000 in
theorem TakeLi (q : Nat) (fn1 fn2 : FuncId) (cap1 cap2 : Array Value) (s s' : K.RS) (V : World → Value → Prop) (hV : Stable V) (w : World) (h : Rr w q s)
    (ht : s.fault = 0 → ∀ w1, Below w.heap.size w w1 → Takes w1 q fn2 cap2 s' V) (hn : s.fault ≠ 0 → s' = s) (he : ∀ args w, (callFunc fn2 args).run Tryz.prog w = .ok (.enter fn2 args) w) :
    Calls Tryz.prog 126 #[.agg #[.func (.func fn1) #[] cap1, .func (.func fn2) #[] cap2], .pointer (some ⟨q, 0, none⟩)] w (Took q s' V (.slice none 0 0) w) := by
  have hba := (Below.refl w.heap.size w).alloc (Nat.le_refl _) (.cells #[.func (.func fn1) #[] cap1, .func (.func fn2) #[] cap2] 158)
  have hra := h.below hba
  have HT := hide ht
  have HV := hide hV
  have HN := hide hn
  have HR := hide hra
  have HB := hide hba
  have HE := hide he
  have hq : q < w.heap.size := by obtain ⟨a, c, hb, _⟩ := h.ex; exact (Array.getElem?_eq_some_iff.1 hb).1
  obtain ⟨a, c, _, _, c2, _⟩ := hra.see
  clear ht hV hn h hra hba he
  by_cases hz : s.fault = 0
  · have HZ := hide hz
    have c2' : (w.alloc (.cells #[.func (.func fn1) #[] cap1, .func (.func fn2) #[] cap2] 158)).cell? ⟨q, 2, none⟩ = some (.int .i64 0) := by rw [c2, hz]; rfl
    have hcf := heap_alloc_new w (.cells #[.func (.func fn1) #[] cap1, .func (.func fn2) #[] cap2] 158)
    clear hz c2
    go_enter Tryz.func126, Tryz.ntmps126
    go_wp2_with fail
    refine (wholeLi fn1 fn2 cap1 cap2 _).mono ?_
    rintro e w1 ⟨rfl, hb1⟩
    have hblk := (Keep.ofBelow (S := fun _ => False) hb1 (Nat.le_refl _)).blk hcf (fun h => h)
    have d0 : w1.cell? ⟨w.heap.size, 0, none⟩ = some (.func (.func fn1) #[] cap1) := by rw [cell_of_row _ _ _ _ _ _ hblk]; rfl
    have d1 : w1.cell? ⟨w.heap.size, 1, none⟩ = some (.func (.func fn2) #[] cap2) := by rw [cell_of_row _ _ _ _ _ _ hblk]; rfl
    have HB1 := hide (HB.out.trans (hb1.mono HB.out.size))
    have HR1 := hide (HR.out.below hb1)
    clear hb1 hblk c2' hcf
    go_wp2_with fail
    refine (triedLi q fn1 fn2 cap1 cap2 s s' V HV.out w1 HR1.out (fun w2 hb2 => HT.out HZ.out w2 (further HB1.out hb2)) HE.out).mono ?_
    rintro e w2 ⟨v, rfl, hr2, hk2, hv, hnv⟩
    obtain ⟨_, _, _, _, e2, _⟩ := hr2.see
    have HR2 := hide hr2
    have HK2 := hide ((Keep.ofBelow (S := fun k => k = q) HB1.out (Nat.le_refl _)).more hk2)
    have HVV := hide hv
    have HNV := hide hnv
    clear hr2 hk2 hv hnv
    by_cases hz' : s'.fault = 0
    · have e2' : w2.cell? ⟨q, 2, none⟩ = some (.int .i64 0) := by rw [e2, hz']; rfl
      have HZ' := hide hz'
      clear e2 hz'
      go_wp2
      go_ret
      exact ⟨v, rfl, HR2.out, HK2.out, HVV.out, HNV.out⟩
    · have hzz : (((s'.fault : Nat) : Int) == 0) = false := by simpa using hz'
      have HZ' := hide hz'
      clear hz'
      go_wp2
      go_ret
      exact ⟨_, rfl, HR2.out, HK2.out, fun h0 => absurd h0 HZ'.out, fun _ => rfl⟩
  · have hzz : (((s.fault : Nat) : Int) == 0) = false := by simpa using hz
    have HZ := hide hz
    clear hz
    go_enter Tryz.func126, Tryz.ntmps126
    go_wp2
    go_ret
    have hs := HN.out HZ.out
    subst hs
    exact ⟨_, rfl, HR.out, Keep.ofBelow HB.out (Nat.le_refl _), fun h0 => absurd h0 HZ.out, fun _ => rfl⟩

set_option maxRecDepth 10000 in
theorem triedW (q : Nat) (fn1 fn2 : FuncId) (cap1 cap2 : Array Value) (s s' : K.RS) (V : World → Value → Prop) (hV : Stable V) (w : World) (h : Rr w q s)
    (ht : ∀ w1, Below w.heap.size w w1 → Takes w1 q fn2 cap2 s' V) (he : ∀ args w, (callFunc fn2 args).run Tryz.prog w = .ok (.enter fn2 args) w) :
    Calls Tryz.prog 181 #[.agg #[.func (.func fn1) #[] cap1, .func (.func fn2) #[] cap2], .pointer (some ⟨q, 0, none⟩)] w (Took q s' V (.int .u64 0) w) := by
  have hmf : ∀ (fn : Fn) (first cap : Array Value) (w : World), (Instr.makeFunc fn first cap).run Tryz.prog w = .ok (.func fn first cap) w := fun _ _ _ _ => rfl
  have HT := hide ht
  have HV := hide hV
  have HH := hide h
  clear ht hV h
  go_enter_defers Tryz.func181, Tryz.ntmps181
  go_wp2_with fail
  have hq : q < w.heap.size := by obtain ⟨a, c, hb, _⟩ := HH.out.ex; exact (Array.getElem?_eq_some_iff.1 hb).1
  have hba := ((Below.refl w.heap.size w).alloc (Nat.le_refl _) (.cells #[.func (.func fn1) #[] cap1, .func (.func fn2) #[] cap2] 172)).alloc (by simp) (.cells #[.pointer (some ⟨q, 0, none⟩)] 100)
  have hrb := heap_alloc_new (w.alloc (.cells #[.func (.func fn1) #[] cap1, .func (.func fn2) #[] cap2] 172)) (.cells #[.pointer (some ⟨q, 0, none⟩)] 100)
  generalize hwa : (w.alloc (.cells #[.func (.func fn1) #[] cap1, .func (.func fn2) #[] cap2] 172)).alloc (.cells #[.pointer (some ⟨q, 0, none⟩)] 100) = wa at *
  have hrb2 : wa.heap[w.heap.size + 1]? = some (.cells #[.pointer (some ⟨q, 0, none⟩)] 100 (0, 0)) := by simpa using hrb
  have HKA := hide (Keep.ofBelow (S := fun k => k = q) hba (Nat.le_refl _))
  refine (HT.out wa hba).mono ?_
  clear hba hrb hwa
  rintro en w1 ⟨hk, ⟨h0, v, rfl, hr, hv⟩ | ⟨h0, e, s1, rfl, hr, hf⟩⟩
  · have hrb1 := hk.blk hrb2 (by show ¬ _ = _; omega)
    have hc1 : w1.cell? ⟨w.heap.size + 1, 0, none⟩ = some (.pointer (some ⟨q, 0, none⟩)) := by rw [cell_of_row _ _ _ _ _ _ hrb1]; rfl
    have HK := hide (HKA.out.more hk)
    have HR := hide hr
    have HVV := hide hv
    clear hk hr hv hrb1 hrb2
    go_wp2
    refine leaves_cons (f := 191) (args := #[.pointer (some ⟨w.heap.size + 1, 0, none⟩)]) (by simp) (by simp [go_sem]) ?_
    refine (idleW q (w.heap.size + 1) _ hc1).mono ?_
    rintro e u' w'' ⟨rfl, rfl, rfl⟩
    exact ⟨_, results_tmp rfl _ _ _, v, rfl, HR.out.below (Below.refl _ _).drew, HK.out.more (Keep.drew _ _), fun _ => HV.out _ _ _ HVV.out (Below.refl _ _).drew, fun hn => absurd h0 hn⟩
  · have hrb1 := hk.blk hrb2 (by show ¬ _ = _; omega)
    have hc1 : w1.cell? ⟨w.heap.size + 1, 0, none⟩ = some (.pointer (some ⟨q, 0, none⟩)) := by rw [cell_of_row _ _ _ _ _ _ hrb1]; rfl
    refine leaves_cons (f := 191) (args := #[.pointer (some ⟨w.heap.size + 1, 0, none⟩)]) (by simp) (by simp [go_sem]) ?_
    refine (catchW q (w.heap.size + 1) s1 e [] _ hr hc1).mono ?_
    rintro e2 u' w'' ⟨rfl, rfl, hr2, hk2⟩
    rw [hf] at hr2
    exact ⟨_, results_tmp rfl _ _ _, _, rfl, hr2, (HKA.out.more hk).more hk2, fun hz => absurd hz h0, fun _ => rfl⟩

set_option maxRecDepth 10000 in
theorem TakeW (q : Nat) (fn1 fn2 : FuncId) (cap1 cap2 : Array Value) (s s' : K.RS) (V : World → Value → Prop) (hV : Stable V) (w : World) (h : Rr w q s)
    (ht : s.fault = 0 → ∀ w1, Below w.heap.size w w1 → Takes w1 q fn2 cap2 s' V) (hn : s.fault ≠ 0 → s' = s) (he : ∀ args w, (callFunc fn2 args).run Tryz.prog w = .ok (.enter fn2 args) w) :
    Calls Tryz.prog 146 #[.agg #[.func (.func fn1) #[] cap1, .func (.func fn2) #[] cap2], .pointer (some ⟨q, 0, none⟩)] w (Took q s' V (.int .u64 0) w) := by
  have hba := (Below.refl w.heap.size w).alloc (Nat.le_refl _) (.cells #[.func (.func fn1) #[] cap1, .func (.func fn2) #[] cap2] 172)
  have hra := h.below hba
  have HT := hide ht
  have HV := hide hV
  have HN := hide hn
  have HR := hide hra
  have HB := hide hba
  have HE := hide he
  have hq : q < w.heap.size := by obtain ⟨a, c, hb, _⟩ := h.ex; exact (Array.getElem?_eq_some_iff.1 hb).1
  obtain ⟨a, c, _, _, c2, _⟩ := hra.see
  clear ht hV hn h hra hba he
  by_cases hz : s.fault = 0
  · have HZ := hide hz
    have c2' : (w.alloc (.cells #[.func (.func fn1) #[] cap1, .func (.func fn2) #[] cap2] 172)).cell? ⟨q, 2, none⟩ = some (.int .i64 0) := by rw [c2, hz]; rfl
    have hcf := heap_alloc_new w (.cells #[.func (.func fn1) #[] cap1, .func (.func fn2) #[] cap2] 172)
    clear hz c2
    go_enter Tryz.func146, Tryz.ntmps146
    go_wp2_with fail
    refine (wholeW fn1 fn2 cap1 cap2 _).mono ?_
    rintro e w1 ⟨rfl, hb1⟩
    have hblk := (Keep.ofBelow (S := fun _ => False) hb1 (Nat.le_refl _)).blk hcf (fun h => h)
    have d0 : w1.cell? ⟨w.heap.size, 0, none⟩ = some (.func (.func fn1) #[] cap1) := by rw [cell_of_row _ _ _ _ _ _ hblk]; rfl
    have d1 : w1.cell? ⟨w.heap.size, 1, none⟩ = some (.func (.func fn2) #[] cap2) := by rw [cell_of_row _ _ _ _ _ _ hblk]; rfl
    have HB1 := hide (HB.out.trans (hb1.mono HB.out.size))
    have HR1 := hide (HR.out.below hb1)
    clear hb1 hblk c2' hcf
    go_wp2_with fail
    refine (triedW q fn1 fn2 cap1 cap2 s s' V HV.out w1 HR1.out (fun w2 hb2 => HT.out HZ.out w2 (further HB1.out hb2)) HE.out).mono ?_
    rintro e w2 ⟨v, rfl, hr2, hk2, hv, hnv⟩
    obtain ⟨_, _, _, _, e2, _⟩ := hr2.see
    have HR2 := hide hr2
    have HK2 := hide ((Keep.ofBelow (S := fun k => k = q) HB1.out (Nat.le_refl _)).more hk2)
    have HVV := hide hv
    have HNV := hide hnv
    clear hr2 hk2 hv hnv
    by_cases hz' : s'.fault = 0
    · have e2' : w2.cell? ⟨q, 2, none⟩ = some (.int .i64 0) := by rw [e2, hz']; rfl
      have HZ' := hide hz'
      clear e2 hz'
      go_wp2
      go_ret
      exact ⟨v, rfl, HR2.out, HK2.out, HVV.out, HNV.out⟩
    · have hzz : (((s'.fault : Nat) : Int) == 0) = false := by simpa using hz'
      have HZ' := hide hz'
      clear hz'
      go_wp2
      go_ret
      exact ⟨_, rfl, HR2.out, HK2.out, fun h0 => absurd h0 HZ'.out, fun _ => rfl⟩
  · have hzz : (((s.fault : Nat) : Int) == 0) = false := by simpa using hz
    have HZ := hide hz
    clear hz
    go_enter Tryz.func146, Tryz.ntmps146
    go_wp2
    go_ret
    have hs := HN.out HZ.out
    subst hs
    exact ⟨_, rfl, HR.out, Keep.ofBelow HB.out (Nat.le_refl _), fun h0 => absurd h0 HZ.out, fun _ => rfl⟩

set_option maxRecDepth 10000 in
theorem triedB (q : Nat) (fn1 fn2 : FuncId) (cap1 cap2 : Array Value) (s s' : K.RS) (V : World → Value → Prop) (hV : Stable V) (w : World) (h : Rr w q s)
    (ht : ∀ w1, Below w.heap.size w w1 → Takes w1 q fn2 cap2 s' V) (he : ∀ args w, (callFunc fn2 args).run Tryz.prog w = .ok (.enter fn2 args) w) :
    Calls Tryz.prog 175 #[.agg #[.func (.func fn1) #[] cap1, .func (.func fn2) #[] cap2], .pointer (some ⟨q, 0, none⟩)] w (Took q s' V (.slice none 0 0) w) := by
  have hmf : ∀ (fn : Fn) (first cap : Array Value) (w : World), (Instr.makeFunc fn first cap).run Tryz.prog w = .ok (.func fn first cap) w := fun _ _ _ _ => rfl
  have HT := hide ht
  have HV := hide hV
  have HH := hide h
  clear ht hV h
  go_enter_defers Tryz.func175, Tryz.ntmps175
  go_wp2_with fail
  have hq : q < w.heap.size := by obtain ⟨a, c, hb, _⟩ := HH.out.ex; exact (Array.getElem?_eq_some_iff.1 hb).1
  have hba := ((Below.refl w.heap.size w).alloc (Nat.le_refl _) (.cells #[.func (.func fn1) #[] cap1, .func (.func fn2) #[] cap2] 167)).alloc (by simp) (.cells #[.pointer (some ⟨q, 0, none⟩)] 100)
  have hrb := heap_alloc_new (w.alloc (.cells #[.func (.func fn1) #[] cap1, .func (.func fn2) #[] cap2] 167)) (.cells #[.pointer (some ⟨q, 0, none⟩)] 100)
  generalize hwa : (w.alloc (.cells #[.func (.func fn1) #[] cap1, .func (.func fn2) #[] cap2] 167)).alloc (.cells #[.pointer (some ⟨q, 0, none⟩)] 100) = wa at *
  have hrb2 : wa.heap[w.heap.size + 1]? = some (.cells #[.pointer (some ⟨q, 0, none⟩)] 100 (0, 0)) := by simpa using hrb
  have HKA := hide (Keep.ofBelow (S := fun k => k = q) hba (Nat.le_refl _))
  refine (HT.out wa hba).mono ?_
  clear hba hrb hwa
  rintro en w1 ⟨hk, ⟨h0, v, rfl, hr, hv⟩ | ⟨h0, e, s1, rfl, hr, hf⟩⟩
  · have hrb1 := hk.blk hrb2 (by show ¬ _ = _; omega)
    have hc1 : w1.cell? ⟨w.heap.size + 1, 0, none⟩ = some (.pointer (some ⟨q, 0, none⟩)) := by rw [cell_of_row _ _ _ _ _ _ hrb1]; rfl
    have HK := hide (HKA.out.more hk)
    have HR := hide hr
    have HVV := hide hv
    clear hk hr hv hrb1 hrb2
    go_wp2
    refine leaves_cons (f := 190) (args := #[.pointer (some ⟨w.heap.size + 1, 0, none⟩)]) (by simp) (by simp [go_sem]) ?_
    refine (idleB q (w.heap.size + 1) _ hc1).mono ?_
    rintro e u' w'' ⟨rfl, rfl, rfl⟩
    exact ⟨_, results_tmp rfl _ _ _, v, rfl, HR.out.below (Below.refl _ _).drew, HK.out.more (Keep.drew _ _), fun _ => HV.out _ _ _ HVV.out (Below.refl _ _).drew, fun hn => absurd h0 hn⟩
  · have hrb1 := hk.blk hrb2 (by show ¬ _ = _; omega)
    have hc1 : w1.cell? ⟨w.heap.size + 1, 0, none⟩ = some (.pointer (some ⟨q, 0, none⟩)) := by rw [cell_of_row _ _ _ _ _ _ hrb1]; rfl
    refine leaves_cons (f := 190) (args := #[.pointer (some ⟨w.heap.size + 1, 0, none⟩)]) (by simp) (by simp [go_sem]) ?_
    refine (catchB q (w.heap.size + 1) s1 e [] _ hr hc1).mono ?_
    rintro e2 u' w'' ⟨rfl, rfl, hr2, hk2⟩
    rw [hf] at hr2
    exact ⟨_, results_tmp rfl _ _ _, _, rfl, hr2, (HKA.out.more hk).more hk2, fun hz => absurd hz h0, fun _ => rfl⟩

set_option maxRecDepth 10000 in
theorem TakeB (q : Nat) (fn1 fn2 : FuncId) (cap1 cap2 : Array Value) (s s' : K.RS) (V : World → Value → Prop) (hV : Stable V) (w : World) (h : Rr w q s)
    (ht : s.fault = 0 → ∀ w1, Below w.heap.size w w1 → Takes w1 q fn2 cap2 s' V) (hn : s.fault ≠ 0 → s' = s) (he : ∀ args w, (callFunc fn2 args).run Tryz.prog w = .ok (.enter fn2 args) w) :
    Calls Tryz.prog 143 #[.agg #[.func (.func fn1) #[] cap1, .func (.func fn2) #[] cap2], .pointer (some ⟨q, 0, none⟩)] w (Took q s' V (.slice none 0 0) w) := by
  have hba := (Below.refl w.heap.size w).alloc (Nat.le_refl _) (.cells #[.func (.func fn1) #[] cap1, .func (.func fn2) #[] cap2] 167)
  have hra := h.below hba
  have HT := hide ht
  have HV := hide hV
  have HN := hide hn
  have HR := hide hra
  have HB := hide hba
  have HE := hide he
  have hq : q < w.heap.size := by obtain ⟨a, c, hb, _⟩ := h.ex; exact (Array.getElem?_eq_some_iff.1 hb).1
  obtain ⟨a, c, _, _, c2, _⟩ := hra.see
  clear ht hV hn h hra hba he
  by_cases hz : s.fault = 0
  · have HZ := hide hz
    have c2' : (w.alloc (.cells #[.func (.func fn1) #[] cap1, .func (.func fn2) #[] cap2] 167)).cell? ⟨q, 2, none⟩ = some (.int .i64 0) := by rw [c2, hz]; rfl
    have hcf := heap_alloc_new w (.cells #[.func (.func fn1) #[] cap1, .func (.func fn2) #[] cap2] 167)
    clear hz c2
    go_enter Tryz.func143, Tryz.ntmps143
    go_wp2_with fail
    refine (wholeB fn1 fn2 cap1 cap2 _).mono ?_
    rintro e w1 ⟨rfl, hb1⟩
    have hblk := (Keep.ofBelow (S := fun _ => False) hb1 (Nat.le_refl _)).blk hcf (fun h => h)
    have d0 : w1.cell? ⟨w.heap.size, 0, none⟩ = some (.func (.func fn1) #[] cap1) := by rw [cell_of_row _ _ _ _ _ _ hblk]; rfl
    have d1 : w1.cell? ⟨w.heap.size, 1, none⟩ = some (.func (.func fn2) #[] cap2) := by rw [cell_of_row _ _ _ _ _ _ hblk]; rfl
    have HB1 := hide (HB.out.trans (hb1.mono HB.out.size))
    have HR1 := hide (HR.out.below hb1)
    clear hb1 hblk c2' hcf
    go_wp2_with fail
    refine (triedB q fn1 fn2 cap1 cap2 s s' V HV.out w1 HR1.out (fun w2 hb2 => HT.out HZ.out w2 (further HB1.out hb2)) HE.out).mono ?_
    rintro e w2 ⟨v, rfl, hr2, hk2, hv, hnv⟩
    obtain ⟨_, _, _, _, e2, _⟩ := hr2.see
    have HR2 := hide hr2
    have HK2 := hide ((Keep.ofBelow (S := fun k => k = q) HB1.out (Nat.le_refl _)).more hk2)
    have HVV := hide hv
    have HNV := hide hnv
    clear hr2 hk2 hv hnv
    by_cases hz' : s'.fault = 0
    · have e2' : w2.cell? ⟨q, 2, none⟩ = some (.int .i64 0) := by rw [e2, hz']; rfl
      have HZ' := hide hz'
      clear e2 hz'
      go_wp2
      go_ret
      exact ⟨v, rfl, HR2.out, HK2.out, HVV.out, HNV.out⟩
    · have hzz : (((s'.fault : Nat) : Int) == 0) = false := by simpa using hz'
      have HZ' := hide hz'
      clear hz'
      go_wp2
      go_ret
      exact ⟨_, rfl, HR2.out, HK2.out, fun h0 => absurd h0 HZ'.out, fun _ => rfl⟩
  · have hzz : (((s.fault : Nat) : Int) == 0) = false := by simpa using hz
    have HZ := hide hz
    clear hz
    go_enter Tryz.func143, Tryz.ntmps143
    go_wp2
    go_ret
    have hs := HN.out HZ.out
    subst hs
    exact ⟨_, rfl, HR.out, Keep.ofBelow HB.out (Nat.le_refl _), fun h0 => absurd h0 HZ.out, fun _ => rfl⟩

set_option maxRecDepth 10000 in
theorem triedLn (q : Nat) (fn1 fn2 : FuncId) (cap1 cap2 : Array Value) (s s' : K.RS) (V : World → Value → Prop) (hV : Stable V) (w : World) (h : Rr w q s)
    (ht : ∀ w1, Below w.heap.size w w1 → Takes w1 q fn2 cap2 s' V) (he : ∀ args w, (callFunc fn2 args).run Tryz.prog w = .ok (.enter fn2 args) w) :
    Calls Tryz.prog 131 #[.agg #[.func (.func fn1) #[] cap1, .func (.func fn2) #[] cap2], .pointer (some ⟨q, 0, none⟩)] w (Took q s' V (.slice none 0 0) w) := by
  have hmf : ∀ (fn : Fn) (first cap : Array Value) (w : World), (Instr.makeFunc fn first cap).run Tryz.prog w = .ok (.func fn first cap) w := fun _ _ _ _ => rfl
  have HT := hide ht
  have HV := hide hV
  have HH := hide h
  clear ht hV h
  go_enter_defers Tryz.func131, Tryz.ntmps131
  go_wp2_with fail
  have hq : q < w.heap.size := by obtain ⟨a, c, hb, _⟩ := HH.out.ex; exact (Array.getElem?_eq_some_iff.1 hb).1
  have hba := ((Below.refl w.heap.size w).alloc (Nat.le_refl _) (.cells #[.func (.func fn1) #[] cap1, .func (.func fn2) #[] cap2] 114)).alloc (by simp) (.cells #[.pointer (some ⟨q, 0, none⟩)] 100)
  have hrb := heap_alloc_new (w.alloc (.cells #[.func (.func fn1) #[] cap1, .func (.func fn2) #[] cap2] 114)) (.cells #[.pointer (some ⟨q, 0, none⟩)] 100)
  generalize hwa : (w.alloc (.cells #[.func (.func fn1) #[] cap1, .func (.func fn2) #[] cap2] 114)).alloc (.cells #[.pointer (some ⟨q, 0, none⟩)] 100) = wa at *
  have hrb2 : wa.heap[w.heap.size + 1]? = some (.cells #[.pointer (some ⟨q, 0, none⟩)] 100 (0, 0)) := by simpa using hrb
  have HKA := hide (Keep.ofBelow (S := fun k => k = q) hba (Nat.le_refl _))
  refine (HT.out wa hba).mono ?_
  clear hba hrb hwa
  rintro en w1 ⟨hk, ⟨h0, v, rfl, hr, hv⟩ | ⟨h0, e, s1, rfl, hr, hf⟩⟩
  · have hrb1 := hk.blk hrb2 (by show ¬ _ = _; omega)
    have hc1 : w1.cell? ⟨w.heap.size + 1, 0, none⟩ = some (.pointer (some ⟨q, 0, none⟩)) := by rw [cell_of_row _ _ _ _ _ _ hrb1]; rfl
    have HK := hide (HKA.out.more hk)
    have HR := hide hr
    have HVV := hide hv
    clear hk hr hv hrb1 hrb2
    go_wp2
    refine leaves_cons (f := 170) (args := #[.pointer (some ⟨w.heap.size + 1, 0, none⟩)]) (by simp) (by simp [go_sem]) ?_
    refine (idleLn q (w.heap.size + 1) _ hc1).mono ?_
    rintro e u' w'' ⟨rfl, rfl, rfl⟩
    exact ⟨_, results_tmp rfl _ _ _, v, rfl, HR.out.below (Below.refl _ _).drew, HK.out.more (Keep.drew _ _), fun _ => HV.out _ _ _ HVV.out (Below.refl _ _).drew, fun hn => absurd h0 hn⟩
  · have hrb1 := hk.blk hrb2 (by show ¬ _ = _; omega)
    have hc1 : w1.cell? ⟨w.heap.size + 1, 0, none⟩ = some (.pointer (some ⟨q, 0, none⟩)) := by rw [cell_of_row _ _ _ _ _ _ hrb1]; rfl
    refine leaves_cons (f := 170) (args := #[.pointer (some ⟨w.heap.size + 1, 0, none⟩)]) (by simp) (by simp [go_sem]) ?_
    refine (catchLn q (w.heap.size + 1) s1 e [] _ hr hc1).mono ?_
    rintro e2 u' w'' ⟨rfl, rfl, hr2, hk2⟩
    rw [hf] at hr2
    exact ⟨_, results_tmp rfl _ _ _, _, rfl, hr2, (HKA.out.more hk).more hk2, fun hz => absurd hz h0, fun _ => rfl⟩

set_option maxRecDepth 10000 in
theorem TakeLn (q : Nat) (fn1 fn2 : FuncId) (cap1 cap2 : Array Value) (s s' : K.RS) (V : World → Value → Prop) (hV : Stable V) (w : World) (h : Rr w q s)
    (ht : s.fault = 0 → ∀ w1, Below w.heap.size w w1 → Takes w1 q fn2 cap2 s' V) (hn : s.fault ≠ 0 → s' = s) (he : ∀ args w, (callFunc fn2 args).run Tryz.prog w = .ok (.enter fn2 args) w) :
    Calls Tryz.prog 62 #[.agg #[.func (.func fn1) #[] cap1, .func (.func fn2) #[] cap2], .pointer (some ⟨q, 0, none⟩)] w (Took q s' V (.slice none 0 0) w) := by
  have hba := (Below.refl w.heap.size w).alloc (Nat.le_refl _) (.cells #[.func (.func fn1) #[] cap1, .func (.func fn2) #[] cap2] 114)
  have hra := h.below hba
  have HT := hide ht
  have HV := hide hV
  have HN := hide hn
  have HR := hide hra
  have HB := hide hba
  have HE := hide he
  have hq : q < w.heap.size := by obtain ⟨a, c, hb, _⟩ := h.ex; exact (Array.getElem?_eq_some_iff.1 hb).1
  obtain ⟨a, c, _, _, c2, _⟩ := hra.see
  clear ht hV hn h hra hba he
  by_cases hz : s.fault = 0
  · have HZ := hide hz
    have c2' : (w.alloc (.cells #[.func (.func fn1) #[] cap1, .func (.func fn2) #[] cap2] 114)).cell? ⟨q, 2, none⟩ = some (.int .i64 0) := by rw [c2, hz]; rfl
    have hcf := heap_alloc_new w (.cells #[.func (.func fn1) #[] cap1, .func (.func fn2) #[] cap2] 114)
    clear hz c2
    go_enter Tryz.func62, Tryz.ntmps62
    go_wp2_with fail
    refine (wholeLn fn1 fn2 cap1 cap2 _).mono ?_
    rintro e w1 ⟨rfl, hb1⟩
    have hblk := (Keep.ofBelow (S := fun _ => False) hb1 (Nat.le_refl _)).blk hcf (fun h => h)
    have d0 : w1.cell? ⟨w.heap.size, 0, none⟩ = some (.func (.func fn1) #[] cap1) := by rw [cell_of_row _ _ _ _ _ _ hblk]; rfl
    have d1 : w1.cell? ⟨w.heap.size, 1, none⟩ = some (.func (.func fn2) #[] cap2) := by rw [cell_of_row _ _ _ _ _ _ hblk]; rfl
    have HB1 := hide (HB.out.trans (hb1.mono HB.out.size))
    have HR1 := hide (HR.out.below hb1)
    clear hb1 hblk c2' hcf
    go_wp2_with fail
    refine (triedLn q fn1 fn2 cap1 cap2 s s' V HV.out w1 HR1.out (fun w2 hb2 => HT.out HZ.out w2 (further HB1.out hb2)) HE.out).mono ?_
    rintro e w2 ⟨v, rfl, hr2, hk2, hv, hnv⟩
    obtain ⟨_, _, _, _, e2, _⟩ := hr2.see
    have HR2 := hide hr2
    have HK2 := hide ((Keep.ofBelow (S := fun k => k = q) HB1.out (Nat.le_refl _)).more hk2)
    have HVV := hide hv
    have HNV := hide hnv
    clear hr2 hk2 hv hnv
    by_cases hz' : s'.fault = 0
    · have e2' : w2.cell? ⟨q, 2, none⟩ = some (.int .i64 0) := by rw [e2, hz']; rfl
      have HZ' := hide hz'
      clear e2 hz'
      go_wp2
      go_ret
      exact ⟨v, rfl, HR2.out, HK2.out, HVV.out, HNV.out⟩
    · have hzz : (((s'.fault : Nat) : Int) == 0) = false := by simpa using hz'
      have HZ' := hide hz'
      clear hz'
      go_wp2
      go_ret
      exact ⟨_, rfl, HR2.out, HK2.out, fun h0 => absurd h0 HZ'.out, fun _ => rfl⟩
  · have hzz : (((s.fault : Nat) : Int) == 0) = false := by simpa using hz
    have HZ := hide hz
    clear hz
    go_enter Tryz.func62, Tryz.ntmps62
    go_wp2
    go_ret
    have hs := HN.out HZ.out
    subst hs
    exact ⟨_, rfl, HR.out, Keep.ofBelow HB.out (Nat.le_refl _), fun h0 => absurd h0 HZ.out, fun _ => rfl⟩

end Go.Proofs.YtbjcckfhfbjchaaGreat
