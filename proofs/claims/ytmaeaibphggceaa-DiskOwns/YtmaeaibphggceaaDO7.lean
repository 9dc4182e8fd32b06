/- DiskOwns: what is read of the four rows; marks of them. -/
import Derived.Test.YtmaeaibphggceaaDO6
namespace Go.Proofs.Ytmaeaibphggceaa
open Go.RowKit Go.Lib

variable {B : Nat} {w w' : World} {c : Nat → Nat} {jr je : Nat} {v : Value} {vs : List Value}
theorem Fo.intAt {L : List (List Int)} (h : Fo 3 27 B w c jr je v vs (L.map Zv)) {j : Nat} {l : List Int} (hl : L[j]? = some l) (hn : l.length ≤ 1099511627776) (hb : ∀ x ∈ l, -9223372036854775808 ≤ x ∧ x ≤ 9223372036854775807) :
    ∃ g cap a' c', v = .slice (some ⟨g, 0, none⟩) L.length cap ∧ w.cell? ⟨g, j, none⟩ = some (.slice a' l.length c') ∧ Rz w a' l.length l ∧ (a' = none → c' = 0) := by
  have hj : j < L.length := (List.getElem?_eq_some_iff.1 hl).1
  have hj' : j < vs.length := by rw [h.len, List.length_map]; exact hj
  have hu : vs[j]? = some vs[j] := List.getElem?_eq_getElem hj'
  have hr := h.row
  rw [List.length_map] at hr
  obtain ⟨g, cap, e⟩ := Ob.own_form hr (by omega)
  have ho := h.own j _ (Zv l) hu (by rw [List.getElem?_map, hl]; rfl)
  rw [Zv_len] at ho
  obtain ⟨a', c', e', hz, h0⟩ := rz_of ho hb (by omega)
  subst e
  have hc := hr.cells (g := g) rfl j _ hu
  rw [Addr.add_lit, Nat.zero_add, e'] at hc
  exact ⟨g, cap, a', c', rfl, hc, hz, h0⟩
theorem Fo.byteAt {L : List (List Nat)} (h : Fo 5 26 B w c jr je v vs (L.map B8)) {j : Nat} {l : List Nat} (hl : L[j]? = some l) (hn : l.length ≤ 67108864) (hb : ∀ d ∈ l, d < 256) :
    ∃ g cap a' c', v = .slice (some ⟨g, 0, none⟩) L.length cap ∧ w.cell? ⟨g, j, none⟩ = some (.slice a' l.length c') ∧ Rd w a' l.length l ∧ (a' = none → c' = 0) := by
  have hj : j < L.length := (List.getElem?_eq_some_iff.1 hl).1
  have hj' : j < vs.length := by rw [h.len, List.length_map]; exact hj
  have hu : vs[j]? = some vs[j] := List.getElem?_eq_getElem hj'
  have hr := h.row
  rw [List.length_map] at hr
  obtain ⟨g, cap, e⟩ := Ob.own_form hr (by omega)
  have ho := h.own j _ (B8 l) hu (by rw [List.getElem?_map, hl]; rfl)
  rw [B8_length] at ho
  obtain ⟨a', c', e', hz, h0, _⟩ := ownsRow_rd ho hb (by omega)
  subst e
  have hc := hr.cells (g := g) rfl j _ hu
  rw [Addr.add_lit, Nat.zero_add, e'] at hc
  exact ⟨g, cap, a', c', rfl, hc, hz, h0⟩
theorem Fo.stay {et st : TypeId} {Ls : List (List Value)} (h : Fo et st B w c jr je v vs Ls) (k : Keep (fun _ => False) w w') : Fo et st B w' c jr je v vs Ls := h.keep k (fun _ f => f.elim) fun _ _ => ⟨id, id⟩
theorem Fo.sv {et st : TypeId} {Ls : List (List Value)} (h : Fo et st B w c jr je v vs Ls) {b : Nat} (hb : Sv vs b) : c b = je ∧ B ≤ b := by
  obtain ⟨i, u, hu, e⟩ := hb
  obtain ⟨l, _, ho⟩ := h.at_ i hu
  exact ⟨h.ce i u hu b e, (ho.lt b e).1⟩
theorem Fo.intsOwn {L : List (List Int)} (h : Fo 3 27 B w c jr je v vs (L.map Zv)) (hl : ∀ l ∈ L, l.length ≤ 1099511627776) (hn : L.length ≤ 4398046511104) :
    Calls Try.prog 14 #[v] w fun e w' => e = .returned (.bool true) ∧ Keep (Sv vs) w w' := by
  have hr := h.row
  rw [List.length_map] at hr
  exact ints_list w hr (by rw [h.len, List.length_map]) (fun i u l h1 h2 => by
    have := h.own i u (Zv l) h1 (by rw [List.getElem?_map, h2]; rfl)
    rw [Zv_len] at this
    exact this) h.ap hl hn
theorem Fo.bytesOwn {L : List (List Nat)} (h : Fo 5 26 B w c jr je v vs (L.map B8)) (hl : ∀ l ∈ L, l.length ≤ 1099511627776) (hn : L.length ≤ 4398046511104) :
    Calls Try.prog 15 #[v] w fun e w' => e = .returned (.bool true) ∧ Keep (Sv vs) w w' := by
  have hr := h.row
  rw [List.length_map] at hr
  exact bytes_list w hr (by rw [h.len, List.length_map]) (fun i u l h1 h2 => by
    have := h.own i u (B8 l) h1 (by rw [List.getElem?_map, h2]; rfl)
    rw [B8_length] at this
    exact this) h.ap hl hn
theorem Lst.small {t : St} {L : List (Int × List Nat)} (h : Lst t L) (ok : Ok t) : ∀ x ∈ L, x.2.length < 281474976710656 := fun x hx => by
  have e := (h.2 x.1 x.2).1 hx
  have := ok.len x.1 x.2 (by unfold St.held; rw [e])
  omega
end Go.Proofs.Ytmaeaibphggceaa
