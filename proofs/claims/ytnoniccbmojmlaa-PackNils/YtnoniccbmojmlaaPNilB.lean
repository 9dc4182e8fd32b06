/- Package pack: Bytes by a form that is not whole. -/
import Derived.Test.YtnoniccbmojmlaaPNilC
namespace Go.Proofs.Ytnoniccbmojmlaa
open Go.RowKit

theorem told_fail (m : Nat) : told (K.WS.fail ⟨[], m, 0⟩ 22) = [] := by
  unfold told K.WS.fail
  simp
theorem fault_fail (m : Nat) : (K.WS.fail ⟨[], m, 0⟩ 22).fault = 22 := by
  unfold K.WS.fail
  simp

theorem BytesNot (u v x : Value) (hu : Unwhole u v) (most : Int) (w : World) :
    Calls Try.prog 8 #[.agg #[u, v], x, .int .i64 most] w fun en w' => ∃ a c, en = .returned (.tuple #[.slice a 0 c, .int .i64 22]) ∧ Below w.heap.size w w' := by
  have HB := hide ((Below.refl w.heap.size w).alloc (Nat.le_refl _) (.cells #[u, v] 29))
  have HU := hide hu
  have hc := heap_alloc_new w (.cells #[u, v] 29)
  have HW : ∀ wa, wa = w.alloc (.cells #[u, v] 29) → wa.heap.size = w.heap.size + 1 := fun wa e => by rw [e]; simp
  generalize hrm : room most = rm
  have HRM := hide hrm
  clear hrm
  rcases hu with ⟨rfl, rfl⟩ | ⟨fn, cap, rfl, rfl⟩ | ⟨fn, cap, rfl, rfl⟩
  all_goals
    go_enter Try.func8, Try.ntmps8
    go_wp2_with fail
    refine (NewWriter_any most _).mono ?_
    rintro e w1 ⟨rfl, h1⟩
    rw [HRM.out] at h1
    have hsz := HW _ rfl
    clear HW
    generalize w.alloc _ = wa at *
    have HH := hide h1
    have hblk := h1.keep.blk hc (by show ¬ _ ≤ _; omega)
    have c0 := cell_of_row _ _ 0 _ _ _ hblk
    have c1 := cell_of_row _ _ 1 _ _ _ hblk
    clear h1 hc hblk
    have HSZ := hide hsz
    clear hsz
    generalize hbb : wa.heap.size = B at *
    have HBB := hide hbb
    clear hbb
    go_wp2_with fail
    refine (PutNot (fun k => B ≤ k) wa B _ _ x HU.out ⟨[], rm, 0⟩ _ HH.out rfl).mono ?_
    rintro e w2 ⟨rfl, h2⟩
    have H2 := hide h2
    have HS2 := hide (told_fail rm)
    have hs1 := fault_fail rm
    clear h2
    generalize K.WS.fail ⟨[], rm, 0⟩ 22 = s2 at *
    go_wp2_with fail
    refine (Done_any _ wa B _ _ H2.out).mono ?_
    rintro e w3 ⟨v, rfl, ho, hb, hfn⟩
    have hb2 : Below w.heap.size w w2 := HB.out.trans (H2.out.keep.below (by have := HSZ.out; have := HBB.out; omega) (fun i hi => by have : B ≤ i := hi; have := HSZ.out; omega))
    have HBL := hide (further hb2 hb)
    obtain ⟨a, c, rfl, _⟩ := ownsRow_rd ho hfn.1 (by have := hfn.2; omega)
    rw [HS2.out, hs1]
    clear ho hb hb2 hfn hs1
    go_wp2
    go_ret2
    exact ⟨a, c, rfl, HBL.out⟩

end Go.Proofs.Ytnoniccbmojmlaa
