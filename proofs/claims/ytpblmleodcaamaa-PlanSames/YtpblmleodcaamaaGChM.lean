/- Check of plans that are the same. -/
import Derived.Test.YtpblmleodcaamaaGBck
import Derived.Test.YtpblmleodcaamaaGBdM
namespace Go.Proofs.Ytpblmleodcaamaa
namespace Gr
open Go.RowKit

theorem Alk.sim {x y : No} (h : Alk x y) : Sim x y := ⟨h.2.2.1, h.1, h.2.1⟩
theorem Alk.fOk {x y : No} (h : Alk x y) : fOk y.q = fOk x.q := by
  obtain ⟨_, _, _, h1, h2, h3, h4, h5, h6, h7⟩ := h
  unfold Gr.fOk
  rw [h1, h2, h3, h4, h5, h6, h7]
def Alks (xs ys : List No) : Prop := xs.length = ys.length ∧ ∀ (i : Nat) (x y : No), xs[i]? = some x → ys[i]? = some y → Alk x y
theorem Alks.sims {xs ys : List No} (h : Alks xs ys) : Sims xs ys := ⟨h.1, fun k x y hx hy => (h.2 k x y hx hy).sim⟩
theorem cN_alk {n : Nat} : ∀ {xs ys : List No} {i : Nat} {seen : List ByteArray}, Alks xs ys → cN n i seen ys = cN n i seen xs := by
  intro xs
  induction xs with
  | nil =>
    intro ys i seen h
    have : ys = [] := List.eq_nil_of_length_eq_zero h.1.symm
    rw [this]
  | cons x xs ih =>
    intro ys i seen h
    cases ys with
    | nil => exact absurd h.1 (by simp)
    | cons y ys =>
      have h0 := h.2 0 x y rfl rfl
      have h1 : Alks xs ys := ⟨by have := h.1; simpa using this, fun k a b ha hb => h.2 (k + 1) a b (by simpa using ha) (by simpa using hb)⟩
      unfold cN
      rw [ih h1, h0.fOk, h0.sim.eOk, h0.2.2.1]
theorem chk_alk {nm : ByteArray} {dl : Int} {xs ys : List No} (h : Alks xs ys) : chk nm dl ys = chk nm dl xs := by
  unfold chk
  rw [h.sims.cW, cN_alk h, h.sims.cyc, h.1]
theorem AlkP.alks {nm nm' : ByteArray} {dl dl' : Int} {xs ys : List No} (h : AlkP nm dl xs nm' dl' ys) : Alks xs ys := h.2.2
theorem map_sz {ys : List No} {qs : List Nd} {M : Nat} (h : ys.map (·.q) = qs) (hs : ∀ q ∈ qs, q.nm.size ≤ M) : ∀ y ∈ ys, y.q.nm.size ≤ M := fun y hy => hs y.q (by rw [← h]; exact List.mem_map.2 ⟨y, hy, rfl⟩)
end Gr
end Go.Proofs.Ytpblmleodcaamaa
