/- The first example: the mathematics. -/
import Derived.Test.YtpblmleodcaamaaGLaw
namespace Go.Proofs.Ytpblmleodcaamaa
namespace Gr
open Go.RowKit

def nA : ByteArray := ⟨#[97]⟩
def nB : ByteArray := ⟨#[98]⟩
def nC : ByteArray := ⟨#[99]⟩
def nP : ByteArray := ⟨#[112]⟩
/-- the nodes of the first example -/
def ex (p q r : Nat) : List No := [⟨⟨nA, 0, 2, 10, 0, 4, 8, 0, (none, 0, 0), (none, 0, 0)⟩, [], []⟩, ⟨⟨nB, 0, 2, 10, 0, 4, 8, 0, (some ⟨p, 0, none⟩, 1, 1), (none, 0, 0)⟩, [0], []⟩, ⟨⟨nC, 0, 2, 10, 0, 4, 8, 0, (some ⟨q, 0, none⟩, 1, 1), (some ⟨r, 0, none⟩, 1, 1)⟩, [0], [1]⟩]
theorem ex_eg (p q r : Nat) : eg (ex p q r) = fun i => match i with | 1 => [0] | 2 => [0, 1] | _ => [] := by
  funext i
  match i with
  | 0 => rfl
  | 1 => rfl
  | 2 => rfl
  | i + 3 => rfl
theorem ex_ng (p q r : Nat) : ng (ex p q r) = fun i => match i with | 1 => [0] | 2 => [0] | _ => [] := by
  funext i
  match i with
  | 0 => rfl
  | 1 => rfl
  | 2 => rfl
  | i + 3 => rfl
theorem wt_less {E : Nat → List Nat} (h : ∀ i e, e ∈ E i → e < i) : ∀ (k : Nat) {a b : Nat}, wt E k a b → b < a
  | 0, _, _, g => h _ _ g
  | k + 1, _, _, ⟨x, g1, g2⟩ => by have := h _ _ g1; have := wt_less h k g2; omega
theorem ex_less (p q r : Nat) : ∀ i e, e ∈ eg (ex p q r) i → e < i := by
  intro i e h
  rw [ex_eg] at h
  match i with
  | 0 => simp at h
  | 1 => simp at h; omega
  | 2 => simp at h; omega
  | i + 3 => simp at h
theorem ex_cyc (p q r : Nat) : cyc (ex p q r) = 0 := cyc_eq (.inl ⟨rfl, fun x h => by obtain ⟨k, hk⟩ := h; have := wt_less (ex_less p q r) k hk; omega⟩)
theorem ex_cW (p q r : Nat) : cW nP 100 (ex p q r) = 0 := by rfl
theorem ex_cN (p q r : Nat) : cN 3 0 [] (ex p q r) = (0, 0) := by
  have a : isNm nA = true := rfl
  have b : isNm nB = true := rfl
  have c : isNm nC = true := rfl
  have d1 : nA ≠ nB := fun h => by have := congrArg (fun x => x.data.toList) h; simp [nA, nB] at this
  have d2 : nA ≠ nC := fun h => by have := congrArg (fun x => x.data.toList) h; simp [nA, nC] at this
  have d3 : nB ≠ nC := fun h => by have := congrArg (fun x => x.data.toList) h; simp [nB, nC] at this
  simp [cN, ex, a, b, c, d1, d2, d3, fOk, eOk, lOk, wI]
theorem ex_chk (p q r : Nat) : chk nP 100 (ex p q r) = (0, 0) := by
  unfold chk
  rw [ex_cW, if_neg (by simp), show (ex p q r).length = 3 from rfl, ex_cN, if_neg (by simp), ex_cyc, if_neg (by simp)]
theorem ex_ord {p q r : Nat} {l : List Nat} (h : Ord (eg (ex p q r)) 3 l) (hl : l.length = 3) : l = [0, 1, 2] := by
  refine h.uniq ?_ (by rw [hl]; rfl)
  rw [ex_eg]
  have o0 := (Ord.nil (fun i => match i with | 1 => [0] | 2 => [0, 1] | _ => []) 3).snoc (x := 0) (by simp) (by omega) ⟨by simp, by simp⟩ (fun j hj => by omega)
  have o1 := o0.snoc (x := 1) (by simp) (by omega) ⟨by simp, by simp⟩ (fun j hj hf => hf.1 (by rw [show j = 0 by omega]; simp))
  have o2 := o1.snoc (x := 2) (by simp) (by omega) ⟨by simp, by simp⟩ (fun j hj hf => hf.1 (by rcases (show j = 0 ∨ j = 1 by omega) with rfl | rfl <;> simp))
  exact o2
theorem ex_bel (p q r : Nat) : bel (ex p q r) 0 3 = [1, 2] := by
  have h0 : ¬ Waits (ng (ex p q r)) 0 0 := fun h => by obtain ⟨k, hk⟩ := h.mono (F := eg (ex p q r)) (fun _ _ => ng_eg); have := wt_less (ex_less p q r) k hk; omega
  have h1 : Waits (ng (ex p q r)) 1 0 := Waits.edge (by rw [ex_ng]; simp)
  have h2 : Waits (ng (ex p q r)) 2 0 := Waits.edge (by rw [ex_ng]; simp)
  rw [bel_yes (i := 2) h2, bel_yes (i := 1) h1, bel_no (i := 0) h0]
  rfl
theorem ex_belC (p q r : Nat) : belC nP 100 (ex p q r) 0 = 0 := by
  unfold belC
  rw [ex_chk, if_neg (by simp), if_pos (by simp [ex])]
end Gr
end Go.Proofs.Ytpblmleodcaamaa
