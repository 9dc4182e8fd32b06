/- What Below tells, and its document: one list. -/
import Derived.Test.YtpblmleodcaamaaGObM
import Derived.Test.YtpblmleodcaamaaGRfW
namespace Go.Proofs.Ytpblmleodcaamaa
namespace Gr
open Go.RowKit

def IsB (nd : Int) (nm : ByteArray) (dl : Int) (xs : List No) (l : List Nat) : Prop := (belC nm dl xs nd ≠ 0 → l = []) ∧ (belC nm dl xs nd = 0 → l = bel xs nd.toNat xs.length)
theorem IsB.uniq {nd : Int} {nm : ByteArray} {dl : Int} {xs : List No} {l m : List Nat} (h : IsB nd nm dl xs l) (g : IsB nd nm dl xs m) : l = m := by
  by_cases e : belC nm dl xs nd = 0
  · rw [h.2 e, g.2 e]
  · rw [h.1 e, g.1 e]
theorem IsB.len {nd : Int} {nm : ByteArray} {dl : Int} {xs : List No} {l : List Nat} (h : IsB nd nm dl xs l) : l.length ≤ 64 := by
  by_cases e : belC nm dl xs nd = 0
  · have e2 : (chk nm dl xs).2 = 0 := Classical.byContradiction fun h2 => by
      unfold belC at e
      rw [if_pos h2] at e
      exact h2 e
    obtain ⟨_, _, _, hv, _⟩ := chk_ok (nm := nm) (dl := dl) (xs := xs) e2
    rw [h.2 e]
    exact Nat.le_trans (bel_len _ _ _) hv.1
  · rw [h.1 e]; exact Nat.zero_le _
theorem Sims.ng {xs ys : List No} (h : Sims xs ys) : ng ys = ng xs := by
  funext i
  unfold Gr.ng
  by_cases hi : i < xs.length
  · have hx : xs[i]? = some (xs[i]'hi) := List.getElem?_eq_getElem _
    have hy : ys[i]? = some (ys[i]'(by rw [← h.1]; exact hi)) := List.getElem?_eq_getElem _
    have hs := h.2 i _ _ hx hy
    rw [hx, hy]
    simp only
    rw [hs.2.1]
  · have h1 := h.1
    rw [List.getElem?_eq_none (by omega), List.getElem?_eq_none (by omega)]
theorem belC_alk {nm : ByteArray} {dl nd : Int} {xs ys : List No} (h : Alks ys xs) : belC nm dl ys nd = belC nm dl xs nd := by
  unfold belC
  rw [chk_alk (nm := nm) (dl := dl) h, h.1]
theorem IsB.alks {nd : Int} {nm : ByteArray} {dl : Int} {xs ys : List No} (h : Alks ys xs) {l : List Nat} : IsB nd nm dl ys l ↔ IsB nd nm dl xs l := by
  unfold IsB bel
  rw [belC_alk h, h.sims.ng, h.1]
theorem below_ls (nd : Int) (nm : ByteArray) (dl : Int) (s : Option Addr × Nat × Nat) (xs : List No) (B : Nat) (w : World) (hP : RdP B w s xs) (hB : B ≤ w.heap.size) (hs : Sz nm xs) :
    Calls Try.prog 18 #[.agg #[.string nm, .int .i64 dl, .slice s.1 s.2.1 s.2.2], .int .i64 nd] w (LsE (IsB nd nm dl xs) (belC nm dl xs nd) w) :=
  (below_any nm dl s xs nd B w hP hB hs).mono fun e w' ⟨l, v, h1, h2, h3, h4, h5⟩ => by
    obtain ⟨a, c, rfl⟩ := ownsRow_shape h2
    exact ⟨l, a, c, h1, h2, ⟨h3, h4⟩, h5⟩
theorem refBelow_ls (nd : Int) (nm : ByteArray) (dl : Int) (s : Option Addr × Nat × Nat) (xs : List No) (B : Nat) (w : World) (hP : RdP B w s xs) (hB : B ≤ w.heap.size) (hs : Sz nm xs) :
    Calls Try.prog 19 #[.agg #[.string nm, .int .i64 dl, .slice s.1 s.2.1 s.2.2], .int .i64 nd] w (LsE (IsB nd nm dl xs) (belC nm dl xs nd) w) :=
  (refBelow_any nm dl s xs nd B w hP hB hs).mono fun e w' ⟨l, v, h1, h2, h3, h4, h5⟩ => by
    obtain ⟨a, c, rfl⟩ := ownsRow_shape h2
    exact ⟨l, a, c, h1, h2, ⟨h3, h4⟩, h5⟩
end Gr
end Go.Proofs.Ytpblmleodcaamaa
