/- Package pack: Bytes; Make; Numbers. -/
import Derived.Test.YteaokgolnhdloaaPPut
namespace Go.Proofs.Yteaokgolnhdloaa
open Go.RowKit

/-- the blocks of D read as they did -/
def Agree (D : Nat → Prop) (w w1 : World) : Prop := ∀ k, D k → k < w.heap.size ∧ w1.heap[k]? = w.heap[k]?

theorem Agree.lt {D : Nat → Prop} {w w1 : World} (h : Agree D w w1) {k : Nat} (hk : D k) : k < w1.heap.size := by
  obtain ⟨h1, h2⟩ := h k hk
  rcases Nat.lt_or_ge k w1.heap.size with h' | h'
  · exact h'
  · rw [Array.getElem?_eq_none h', Array.getElem?_eq_getElem h1] at h2; cases h2
theorem Agree.keep {D S : Nat → Prop} {w w1 w2 : World} (h : Agree D w w1) (hk : Keep S w1 w2) (hS : ∀ k, D k → ¬ S k) : Agree D w w2 :=
  fun k hd => ⟨(h k hd).1, (hk.block k (h.lt hd) (hS k hd)).trans (h k hd).2⟩
theorem Agree.cell {D : Nat → Prop} {w w1 : World} (h : Agree D w w1) {p : Addr} {v : Value} (hc : w.cell? p = some v) (hp : D p.block) : w1.cell? p = some v :=
  (World.cell?_of_block (w := w) (h p.block hp).2).trans hc
theorem Agree.below {w w1 : World} (h : Below w.heap.size w w1) : Agree (fun k => k < w.heap.size) w w1 := fun k hk => ⟨hk, h.block k hk⟩
theorem Agree.refl {D : Nat → Prop} {w : World} (h : ∀ k, D k → k < w.heap.size) : Agree D w w := fun k hk => ⟨h k hk, rfl⟩
theorem Agree.trans {D : Nat → Prop} {a b c : World} (h : Agree D a b) (k : Agree D b c) : Agree D a c := fun i hi => ⟨(h i hi).1, (k i hi).2.trans (h i hi).2⟩
theorem Agree.mono {D E : Nat → Prop} {a b : World} (h : Agree D a b) (hE : ∀ k, E k → D k) : Agree E a b := fun k hk => h k (hE k hk)

/-- what a put does with a value, in whatever world in which the blocks of D read as in w -/
def PutsG (D : Nat → Prop) (w : World) (fn : FuncId) (cap : Array Value) (x : Value) (f : K.WS → K.WS) : Prop :=
  ∀ p S w1, Agree D w w1 → (∀ k, D k → ¬ S k) → Puts S w1 p fn cap x f

theorem PutsG.mono {D E : Nat → Prop} {w w2 : World} {fn : FuncId} {cap : Array Value} {x : Value} {f : K.WS → K.WS} (h : PutsG D w fn cap x f) (hE : ∀ k, D k → E k) (ha : Agree D w w2) : PutsG E w2 fn cap x f :=
  fun p S w1 h1 h2 => h p S w1 (ha.trans (h1.mono hE)) fun k hk => h2 k (hE k hk)

theorem putW_zero {f : K.WS → K.WS} {s : K.WS} (h : s.fault = 0) : putW f s = f s := by unfold putW; rw [if_pos h]

theorem callFunc_enter {fn : FuncId} {f : Func} (h : Try.prog.funcs[fn]? = some f) (h1 : (f.name == "runtime.NumGoroutine") = false) (h2 : f.body.isNone = false) (args : Array Value) (w : World) : (callFunc fn args).run Try.prog w = .ok (.enter fn args) w := by
  simp [callFunc, h]
  rw [if_neg (by simpa using h1), if_neg (fun hb => by rw [hb] at h2; cases h2)]

theorem BytesI (fn1 fn2 : FuncId) (cap1 cap2 : Array Value) (x : Value) (f : K.WS → K.WS) (most : Int) (s2 : K.WS) (hs2 : f ⟨[], room most, 0⟩ = s2) (w : World) (hp : PutsG (fun k => k < w.heap.size) w fn1 cap1 x f)
    (he : ∀ args w, (callFunc fn1 args).run Try.prog w = .ok (.enter fn1 args) w) :
    Calls Try.prog 32 #[.agg #[.func (.func fn1) #[] cap1, .func (.func fn2) #[] cap2], x, .int .i64 most] w fun en w' =>
      ∃ v, en = .returned (.tuple #[v, .int .i64 (s2.fault : Nat)]) ∧ w'.ownsRow w.heap.size 5 1 v (told s2).length (B8 (told s2)) ∧ Below w.heap.size w w' ∧ Fine (told s2) := by
  have HB := hide ((Below.refl w.heap.size w).alloc (Nat.le_refl _) (.cells #[.func (.func fn1) #[] cap1, .func (.func fn2) #[] cap2] 76))
  have HP := hide hp
  have HE := hide he
  have HS2 := hide hs2
  clear hp he hs2
  go_enter Try.func32, Try.ntmps32
  go_wp2_with fail
  refine (NewWriter_any most _).mono ?_
  rintro e w1 ⟨rfl, h1⟩
  have HH := hide h1
  have hc := heap_alloc_new w (.cells #[.func (.func fn1) #[] cap1, .func (.func fn2) #[] cap2] 76)
  generalize hwa : w.alloc (.cells #[.func (.func fn1) #[] cap1, .func (.func fn2) #[] cap2] 76) = wa at *
  have hsz : wa.heap.size = w.heap.size + 1 := by rw [← hwa]; simp
  have hblk := h1.keep.blk hc (by show ¬ _ ≤ _; omega)
  have c0 : w1.cell? ⟨w.heap.size, 0, none⟩ = some (.func (.func fn1) #[] cap1) := by rw [cell_of_row _ _ _ _ _ _ hblk]; rfl
  have c1 : w1.cell? ⟨w.heap.size, 1, none⟩ = some (.func (.func fn2) #[] cap2) := by rw [cell_of_row _ _ _ _ _ _ hblk]; rfl
  have HSZ := hide hsz
  clear h1 hc hblk hsz
  generalize hbb : wa.heap.size = B at *
  have HBB := hide hbb
  clear hbb hwa
  go_wp2_with fail
  refine (PutI (fun k => B ≤ k) wa B fn1 fn2 cap1 cap2 x f ⟨[], room most, 0⟩ _ HH.out (HP.out _ _ _ (Agree.below HB.out) (fun k hk => by show ¬ B ≤ k; have := HSZ.out; have : k < w.heap.size := hk; omega)) HE.out).mono ?_
  rintro e w2 ⟨rfl, h2⟩
  rw [putW_zero rfl, HS2.out] at h2
  have H2 := hide h2
  clear h2
  go_wp2_with fail
  refine (Done_any _ wa B _ _ H2.out).mono ?_
  rintro e w3 ⟨v, rfl, ho, hb, hfn⟩
  have hb2 : Below w.heap.size w w2 := HB.out.trans (H2.out.keep.below (by have := HSZ.out; have := HBB.out; omega) (fun i hi => by have : B ≤ i := hi; have := HSZ.out; omega))
  have HO := hide (ownsRow_base ho hb2.size)
  have HBL := hide (further hb2 hb)
  have HFN := hide hfn
  clear ho hb hb2 hfn
  go_wp2
  go_ret2
  exact ⟨v, rfl, HO.out, HBL.out, HFN.out⟩

theorem BytesLs (fn1 fn2 : FuncId) (cap1 cap2 : Array Value) (x : Value) (f : K.WS → K.WS) (most : Int) (s2 : K.WS) (hs2 : f ⟨[], room most, 0⟩ = s2) (w : World) (hp : PutsG (fun k => k < w.heap.size) w fn1 cap1 x f)
    (he : ∀ args w, (callFunc fn1 args).run Try.prog w = .ok (.enter fn1 args) w) :
    Calls Try.prog 35 #[.agg #[.func (.func fn1) #[] cap1, .func (.func fn2) #[] cap2], x, .int .i64 most] w fun en w' =>
      ∃ v, en = .returned (.tuple #[v, .int .i64 (s2.fault : Nat)]) ∧ w'.ownsRow w.heap.size 5 1 v (told s2).length (B8 (told s2)) ∧ Below w.heap.size w w' ∧ Fine (told s2) := by
  have HB := hide ((Below.refl w.heap.size w).alloc (Nat.le_refl _) (.cells #[.func (.func fn1) #[] cap1, .func (.func fn2) #[] cap2] 85))
  have HP := hide hp
  have HE := hide he
  have HS2 := hide hs2
  clear hp he hs2
  go_enter Try.func35, Try.ntmps35
  go_wp2_with fail
  refine (NewWriter_any most _).mono ?_
  rintro e w1 ⟨rfl, h1⟩
  have HH := hide h1
  have hc := heap_alloc_new w (.cells #[.func (.func fn1) #[] cap1, .func (.func fn2) #[] cap2] 85)
  generalize hwa : w.alloc (.cells #[.func (.func fn1) #[] cap1, .func (.func fn2) #[] cap2] 85) = wa at *
  have hsz : wa.heap.size = w.heap.size + 1 := by rw [← hwa]; simp
  have hblk := h1.keep.blk hc (by show ¬ _ ≤ _; omega)
  have c0 : w1.cell? ⟨w.heap.size, 0, none⟩ = some (.func (.func fn1) #[] cap1) := by rw [cell_of_row _ _ _ _ _ _ hblk]; rfl
  have c1 : w1.cell? ⟨w.heap.size, 1, none⟩ = some (.func (.func fn2) #[] cap2) := by rw [cell_of_row _ _ _ _ _ _ hblk]; rfl
  have HSZ := hide hsz
  clear h1 hc hblk hsz
  generalize hbb : wa.heap.size = B at *
  have HBB := hide hbb
  clear hbb hwa
  go_wp2_with fail
  refine (PutLs (fun k => B ≤ k) wa B fn1 fn2 cap1 cap2 x f ⟨[], room most, 0⟩ _ HH.out (HP.out _ _ _ (Agree.below HB.out) (fun k hk => by show ¬ B ≤ k; have := HSZ.out; have : k < w.heap.size := hk; omega)) HE.out).mono ?_
  rintro e w2 ⟨rfl, h2⟩
  rw [putW_zero rfl, HS2.out] at h2
  have H2 := hide h2
  clear h2
  go_wp2_with fail
  refine (Done_any _ wa B _ _ H2.out).mono ?_
  rintro e w3 ⟨v, rfl, ho, hb, hfn⟩
  have hb2 : Below w.heap.size w w2 := HB.out.trans (H2.out.keep.below (by have := HSZ.out; have := HBB.out; omega) (fun i hi => by have : B ≤ i := hi; have := HSZ.out; omega))
  have HO := hide (ownsRow_base ho hb2.size)
  have HBL := hide (further hb2 hb)
  have HFN := hide hfn
  clear ho hb hb2 hfn
  go_wp2
  go_ret2
  exact ⟨v, rfl, HO.out, HBL.out, HFN.out⟩

theorem BytesLb (fn1 fn2 : FuncId) (cap1 cap2 : Array Value) (x : Value) (f : K.WS → K.WS) (most : Int) (s2 : K.WS) (hs2 : f ⟨[], room most, 0⟩ = s2) (w : World) (hp : PutsG (fun k => k < w.heap.size) w fn1 cap1 x f)
    (he : ∀ args w, (callFunc fn1 args).run Try.prog w = .ok (.enter fn1 args) w) :
    Calls Try.prog 25 #[.agg #[.func (.func fn1) #[] cap1, .func (.func fn2) #[] cap2], x, .int .i64 most] w fun en w' =>
      ∃ v, en = .returned (.tuple #[v, .int .i64 (s2.fault : Nat)]) ∧ w'.ownsRow w.heap.size 5 1 v (told s2).length (B8 (told s2)) ∧ Below w.heap.size w w' ∧ Fine (told s2) := by
  have HB := hide ((Below.refl w.heap.size w).alloc (Nat.le_refl _) (.cells #[.func (.func fn1) #[] cap1, .func (.func fn2) #[] cap2] 28))
  have HP := hide hp
  have HE := hide he
  have HS2 := hide hs2
  clear hp he hs2
  go_enter Try.func25, Try.ntmps25
  go_wp2_with fail
  refine (NewWriter_any most _).mono ?_
  rintro e w1 ⟨rfl, h1⟩
  have HH := hide h1
  have hc := heap_alloc_new w (.cells #[.func (.func fn1) #[] cap1, .func (.func fn2) #[] cap2] 28)
  generalize hwa : w.alloc (.cells #[.func (.func fn1) #[] cap1, .func (.func fn2) #[] cap2] 28) = wa at *
  have hsz : wa.heap.size = w.heap.size + 1 := by rw [← hwa]; simp
  have hblk := h1.keep.blk hc (by show ¬ _ ≤ _; omega)
  have c0 : w1.cell? ⟨w.heap.size, 0, none⟩ = some (.func (.func fn1) #[] cap1) := by rw [cell_of_row _ _ _ _ _ _ hblk]; rfl
  have c1 : w1.cell? ⟨w.heap.size, 1, none⟩ = some (.func (.func fn2) #[] cap2) := by rw [cell_of_row _ _ _ _ _ _ hblk]; rfl
  have HSZ := hide hsz
  clear h1 hc hblk hsz
  generalize hbb : wa.heap.size = B at *
  have HBB := hide hbb
  clear hbb hwa
  go_wp2_with fail
  refine (PutLb (fun k => B ≤ k) wa B fn1 fn2 cap1 cap2 x f ⟨[], room most, 0⟩ _ HH.out (HP.out _ _ _ (Agree.below HB.out) (fun k hk => by show ¬ B ≤ k; have := HSZ.out; have : k < w.heap.size := hk; omega)) HE.out).mono ?_
  rintro e w2 ⟨rfl, h2⟩
  rw [putW_zero rfl, HS2.out] at h2
  have H2 := hide h2
  clear h2
  go_wp2_with fail
  refine (Done_any _ wa B _ _ H2.out).mono ?_
  rintro e w3 ⟨v, rfl, ho, hb, hfn⟩
  have hb2 : Below w.heap.size w w2 := HB.out.trans (H2.out.keep.below (by have := HSZ.out; have := HBB.out; omega) (fun i hi => by have : B ≤ i := hi; have := HSZ.out; omega))
  have HO := hide (ownsRow_base ho hb2.size)
  have HBL := hide (further hb2 hb)
  have HFN := hide hfn
  clear ho hb hb2 hfn
  go_wp2
  go_ret2
  exact ⟨v, rfl, HO.out, HBL.out, HFN.out⟩

end Go.Proofs.Yteaokgolnhdloaa
