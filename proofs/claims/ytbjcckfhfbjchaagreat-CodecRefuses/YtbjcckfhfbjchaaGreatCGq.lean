/- Codec: the laws' operations may be (mathematics). -/
import Derived.Test.YtbjcckfhfbjchaaGreatCGp
namespace Go.Proofs.YtbjcckfhfbjchaaGreat
namespace Cd
open Go.RowKit Go.Deep

/-- the operation of kind k that is made -/
def opk (k : Int) (q : De) : Ov :=
  if k = 1 then { ov0 1 with pl := plv q.rs q.nu, ky := q.tx.take 40 }
  else if k = 2 then { ov0 2 with la := pkk q.nu 16, wo := pkk q.wo 1099511627777 }
  else if k = 3 then { ov0 3 with tk := 1 + pkk q.nu 1099511627776 }
  else if k = 4 then { ov0 4 with tk := 1 + pkk q.nu 1099511627776, ry := q.tx.take 40 }
  else if k = 5 then { ov0 5 with tk := 1 + pkk q.nu 1099511627776 }
  else if k = 6 then { ov0 6 with ru := 1 + pkk q.nu 1099511627776 }
  else if k = 7 then { ov0 7 with ru := 1 + pkk q.nu 1099511627776 }
  else if k = 8 then { ov0 8 with lu := q.lu }
  else { ov0 9 with ti := pkk q.nu 4611686018427387905 }
def opv (q : De) : Ov := opk (1 + pkk q.ki 9) q
theorem opv_ki (q : De) : 1 ≤ 1 + pkk q.ki 9 ∧ 1 + pkk q.ki 9 ≤ 9 := by
  have := pkk_lt (c := q.ki) (n := 9) (by decide)
  omega
theorem take_lt {l : List Nat} (h : ∀ d ∈ l, d < 256) (n : Nat) : ∀ d ∈ l.take n, d < 256 := fun d hd => h d (List.mem_of_mem_take hd)
theorem take_40 (l : List Nat) : (l.take 40).length ≤ 40 := by rw [List.length_take]; omega
theorem nf1 (p : Pv) (ky : List Nat) : nf { ov0 1 with pl := p, ky := ky } = { ov0 1 with pl := p, ky := ky } := rfl
theorem nf2 (a b : Int) : nf { ov0 2 with la := a, wo := b } = { ov0 2 with la := a, wo := b } := rfl
theorem nf3 (a : Int) : nf { ov0 3 with tk := a } = { ov0 3 with tk := a } := rfl
theorem nf4 (a : Int) (r : List Nat) : nf { ov0 4 with tk := a, ry := r } = { ov0 4 with tk := a, ry := r } := rfl
theorem nf5 (a : Int) : nf { ov0 5 with tk := a } = { ov0 5 with tk := a } := rfl
theorem nf6 (a : Int) : nf { ov0 6 with ru := a } = { ov0 6 with ru := a } := rfl
theorem nf7 (a : Int) : nf { ov0 7 with ru := a } = { ov0 7 with ru := a } := rfl
theorem nf8 (a : Nat) : nf { ov0 8 with lu := a } = { ov0 8 with lu := a } := rfl
theorem nf9 (a : Int) : nf { ov0 9 with ti := a } = { ov0 9 with ti := a } := rfl
theorem ok1 {p : Pv} {ky : List Nat} (hm : may p = true) (hp : PvK p) (h1 : ky.length ≤ 40) (h2 : ∀ x ∈ ky, x < 256) : OvK { ov0 1 with pl := p, ky := ky } := by
  refine ⟨⟨⟨by show (1 : Int) ≤ 1; decide, by show (1 : Int) ≤ 9; decide⟩, nf1 p ky, fun j hj => ?_, by show 0 < _; decide⟩, hp, h2, (fun x hx => by cases hx), Nat.le_trans h1 (by decide), by show 0 ≤ 64; decide, by show (0 : Int) ≤ _; decide, by show (0 : Int) ≤ _; decide, by show (0 : Int) ≤ _; decide, by show (0 : Int) ≤ _; decide, by show (0 : Int) ≤ _; decide⟩
  rcases (show j = 0 ∨ j = 1 by have hj : j ∈ [0, 1] := hj; simpa using hj) with rfl | rfl
  · exact hm
  · exact h1
theorem ok2 {a b : Int} (ha : 0 ≤ a ∧ a < 16) (hb : 0 ≤ b ∧ b < 1099511627777) : OvK { ov0 2 with la := a, wo := b } := by
  refine ⟨⟨⟨by show (1 : Int) ≤ 2; decide, by show (2 : Int) ≤ 9; decide⟩, nf2 a b, fun j hj => ?_, by show 0 < _; decide⟩, pvK_nil, (fun x hx => by cases hx), (fun x hx => by cases hx), by show 0 ≤ 64; decide, by show 0 ≤ 64; decide, by show a ≤ _; omega, by show b ≤ _; omega, by show (0 : Int) ≤ _; decide, by show (0 : Int) ≤ _; decide, by show (0 : Int) ≤ _; decide⟩
  rcases (show j = 2 ∨ j = 3 by have hj : j ∈ [2, 3] := hj; simpa using hj) with rfl | rfl
  · exact ⟨ha.1, by show a ≤ 15; omega⟩
  · exact ⟨hb.1, by show b ≤ _; omega⟩
theorem ok3 {a : Int} (ha : 1 ≤ a ∧ a ≤ 1099511627776) : OvK { ov0 3 with tk := a } := by
  refine ⟨⟨⟨by show (1 : Int) ≤ 3; decide, by show (3 : Int) ≤ 9; decide⟩, nf3 a, fun j hj => ?_, by show 0 < _; decide⟩, pvK_nil, (fun x hx => by cases hx), (fun x hx => by cases hx), by show 0 ≤ 64; decide, by show 0 ≤ 64; decide, by show (0 : Int) ≤ _; decide, by show (0 : Int) ≤ _; decide, by show a ≤ _; omega, by show (0 : Int) ≤ _; decide, by show (0 : Int) ≤ _; decide⟩
  obtain rfl : j = 4 := by have hj : j ∈ [4] := hj; simpa using hj
  exact ha
theorem ok4 {a : Int} {r : List Nat} (ha : 1 ≤ a ∧ a ≤ 1099511627776) (h1 : r.length ≤ 40) (h2 : ∀ x ∈ r, x < 256) : OvK { ov0 4 with tk := a, ry := r } := by
  refine ⟨⟨⟨by show (1 : Int) ≤ 4; decide, by show (4 : Int) ≤ 9; decide⟩, nf4 a r, fun j hj => ?_, by show 0 < _; decide⟩, pvK_nil, (fun x hx => by cases hx), h2, by show 0 ≤ 64; decide, Nat.le_trans h1 (by decide), by show (0 : Int) ≤ _; decide, by show (0 : Int) ≤ _; decide, by show a ≤ _; omega, by show (0 : Int) ≤ _; decide, by show (0 : Int) ≤ _; decide⟩
  rcases (show j = 4 ∨ j = 5 by have hj : j ∈ [4, 5] := hj; simpa using hj) with rfl | rfl
  · exact ha
  · exact Nat.le_trans h1 (by decide)
theorem ok5 {a : Int} (ha : 1 ≤ a ∧ a ≤ 1099511627776) : OvK { ov0 5 with tk := a } := by
  refine ⟨⟨⟨by show (1 : Int) ≤ 5; decide, by show (5 : Int) ≤ 9; decide⟩, nf5 a, fun j hj => ?_, by show 0 < _; decide⟩, pvK_nil, (fun x hx => by cases hx), (fun x hx => by cases hx), by show 0 ≤ 64; decide, by show 0 ≤ 64; decide, by show (0 : Int) ≤ _; decide, by show (0 : Int) ≤ _; decide, by show a ≤ _; omega, by show (0 : Int) ≤ _; decide, by show (0 : Int) ≤ _; decide⟩
  obtain rfl : j = 4 := by have hj : j ∈ [4] := hj; simpa using hj
  exact ha
theorem ok6 {a : Int} (ha : 1 ≤ a ∧ a ≤ 1099511627776) : OvK { ov0 6 with ru := a } := by
  refine ⟨⟨⟨by show (1 : Int) ≤ 6; decide, by show (6 : Int) ≤ 9; decide⟩, nf6 a, fun j hj => ?_, by show 0 < _; decide⟩, pvK_nil, (fun x hx => by cases hx), (fun x hx => by cases hx), by show 0 ≤ 64; decide, by show 0 ≤ 64; decide, by show (0 : Int) ≤ _; decide, by show (0 : Int) ≤ _; decide, by show (0 : Int) ≤ _; decide, by show a ≤ _; omega, by show (0 : Int) ≤ _; decide⟩
  obtain rfl : j = 6 := by have hj : j ∈ [6] := hj; simpa using hj
  exact ha
theorem ok7 {a : Int} (ha : 1 ≤ a ∧ a ≤ 1099511627776) : OvK { ov0 7 with ru := a } := by
  refine ⟨⟨⟨by show (1 : Int) ≤ 7; decide, by show (7 : Int) ≤ 9; decide⟩, nf7 a, fun j hj => ?_, by show 0 < _; decide⟩, pvK_nil, (fun x hx => by cases hx), (fun x hx => by cases hx), by show 0 ≤ 64; decide, by show 0 ≤ 64; decide, by show (0 : Int) ≤ _; decide, by show (0 : Int) ≤ _; decide, by show (0 : Int) ≤ _; decide, by show a ≤ _; omega, by show (0 : Int) ≤ _; decide⟩
  obtain rfl : j = 6 := by have hj : j ∈ [6] := hj; simpa using hj
  exact ha
theorem ok8 {a : Nat} (ha : a < 18446744073709551616) : OvK { ov0 8 with lu := a } := by
  refine ⟨⟨⟨by show (1 : Int) ≤ 8; decide, by show (8 : Int) ≤ 9; decide⟩, nf8 a, fun j hj => ?_, ha⟩, pvK_nil, (fun x hx => by cases hx), (fun x hx => by cases hx), by show 0 ≤ 64; decide, by show 0 ≤ 64; decide, by show (0 : Int) ≤ _; decide, by show (0 : Int) ≤ _; decide, by show (0 : Int) ≤ _; decide, by show (0 : Int) ≤ _; decide, by show (0 : Int) ≤ _; decide⟩
  obtain rfl : j = 7 := by have hj : j ∈ [7] := hj; simpa using hj
  trivial
theorem ok9 {a : Int} (ha : 0 ≤ a ∧ a < 4611686018427387905) : OvK { ov0 9 with ti := a } := by
  refine ⟨⟨⟨by show (1 : Int) ≤ 9; decide, by show (9 : Int) ≤ 9; decide⟩, nf9 a, fun j hj => ?_, by show 0 < _; decide⟩, pvK_nil, (fun x hx => by cases hx), (fun x hx => by cases hx), by show 0 ≤ 64; decide, by show 0 ≤ 64; decide, by show (0 : Int) ≤ _; decide, by show (0 : Int) ≤ _; decide, by show (0 : Int) ≤ _; decide, by show (0 : Int) ≤ _; decide, by show a ≤ _; omega⟩
  obtain rfl : j = 8 := by have hj : j ∈ [8] := hj; simpa using hj
  exact ⟨ha.1, by show a ≤ _; omega⟩
theorem opv_k (q : De) (hb : ∀ d ∈ q.tx, d < 256) (hl : q.lu < 18446744073709551616) : OvK (opv q) := by
  have hk := opv_ki q
  have c := pkk_lt (c := q.nu) (n := 1099511627776) (by decide)
  unfold opv
  generalize 1 + pkk q.ki 9 = k at *
  rcases (by omega : k = 1 ∨ k = 2 ∨ k = 3 ∨ k = 4 ∨ k = 5 ∨ k = 6 ∨ k = 7 ∨ k = 8 ∨ k = 9) with rfl | rfl | rfl | rfl | rfl | rfl | rfl | rfl | rfl
  · exact ok1 (plv_may _ _) (plv_k _ _) (take_40 _) (take_lt hb 40)
  · exact ok2 (pkk_lt (by decide)) (pkk_lt (by decide))
  · exact ok3 (by omega)
  · exact ok4 (by omega) (take_40 _) (take_lt hb 40)
  · exact ok5 (by omega)
  · exact ok6 (by omega)
  · exact ok7 (by omega)
  · exact ok8 hl
  · exact ok9 (pkk_lt (by decide))
end Cd
end Go.Proofs.YtbjcckfhfbjchaaGreat
