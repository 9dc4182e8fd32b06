/- DiskOwns: the loop over the disks: what List and Read tell, put behind the rows. -/
import Derived.Test.YtmaeaibphggceaaDO7
namespace Go.Proofs.Ytmaeaibphggceaa
open Go.RowKit Go.Lib

theorem ownsRow_up {w : World} {b B : Nat} {e : TypeId} {s : Nat} {v : Value} {n : Nat} {xs : List Value} (h : w.ownsRow b e s v n xs) (hg : ∀ g, v.ownBlock = some g → B ≤ g) : w.ownsRow B e s v n xs := by
  refine ⟨h.1, ?_⟩
  rcases h.2 with h' | ⟨g, cap, cur, rfl, _, h3⟩
  · exact .inl h'
  · exact .inr ⟨g, cap, cur, rfl, hg g rfl, h3⟩
theorem list_on (S : Nat → Prop) (w : World) (p : Nat) (t : St) (h : DAt S w p t) (ok : Ok t) (hd : t.down = false) :
    Calls Try.prog 12 #[.pointer (some ⟨p, 0, none⟩)] w fun e w' => ∃ a c ks, e = .returned (.tuple #[.slice a ks.length c, .int .i64 0]) ∧ KeyOk t ks ∧ w'.ownsRow w.heap.size 3 1 (.slice a ks.length c) ks.length (Zv ks) ∧ Keep (fun _ => False) w w' := by
  refine (list_any S w p t h ok).mono ?_
  rintro e w' ⟨v, ks, rfl, h1, h2, ho, hk⟩
  obtain ⟨a, c, rfl⟩ := ownsRow_shape ho
  refine ⟨a, c, ks, by rw [hd]; rfl, KeyOk.of ok h1 fun k => ?_, ho, hk⟩
  rw [h2 k, hd]
  simp
theorem read_on (S : Nat → Prop) (w : World) (p : Nat) (t : St) (k : Int) (h : DAt S w p t) (ok : Ok t) (hd : t.down = false) (hk : t.there k ≠ none) (hb : 1 ≤ k ∧ k ≤ 1099511627776) :
    Calls Try.prog 13 #[.pointer (some ⟨p, 0, none⟩), .int .i64 k] w fun e w' => ∃ a c, e = .returned (.tuple #[.slice a (t.bytes k).length c, .int .i64 0]) ∧ w'.ownsRow w.heap.size 5 1 (.slice a (t.bytes k).length c) (t.bytes k).length (B8 (t.bytes k)) ∧ (∀ d ∈ t.bytes k, d < 256) ∧ (t.bytes k).length ≤ 67108864 ∧ Keep (fun _ => False) w w' := by
  refine (read_any S w p t k h ok (by omega) (by omega)).mono ?_
  rintro e w' ⟨v, rfl, hr, hkp, hg⟩
  rw [hd] at hr
  have hr : Row w' v (t.bytes k) := hr
  obtain ⟨l, hl⟩ := Option.ne_none_iff_exists'.1 hk
  obtain ⟨a, c, rfl⟩ := ownsRow_shape hr.1
  refine ⟨a, c, by simp [St.find, hd, hl], ownsRow_up hr.1 hg, hr.2, ?_, hkp⟩
  have := ok.len k l (by unfold St.held; rw [hl])
  rw [St.bytes, hl]
  exact this
variable {w8 w w' : World} {B : Nat} {c : Nat → Nat} {v1 v2 v3 v4 : Value} {L1 L2 : List (List Int)} {R1 R2 : List (List Nat)} {vw : Value} {ks : List Int}
theorem Four.stay (h : Four B w8 w c v1 v2 v3 v4 L1 L2 R1 R2) (k : Keep (fun _ => False) w w') : Four B w8 w' c v1 v2 v3 v4 L1 L2 R1 R2 := by
  obtain ⟨⟨a, ha⟩, ⟨b, hb⟩, ⟨d, hd⟩, ⟨e, he⟩, hk⟩ := h
  exact ⟨⟨a, ha.stay k⟩, ⟨b, hb.stay k⟩, ⟨d, hd.stay k⟩, ⟨e, he.stay k⟩, hk.more (k.mono fun _ f => f.elim)⟩
/-- the four rows, and the list of numbers that is gone through -/
structure Lse (w8 w : World) (c : Nat → Nat) (v1 v2 v3 v4 : Value) (L1 L2 : List (List Int)) (R1 R2 : List (List Nat)) (vw : Value) (ks : List Int) : Prop where
  f : Four w8.heap.size w8 w c v1 v2 v3 v4 L1 L2 R1 R2
  cw : Col c vw 21
  ow : w.ownsRow w8.heap.size 3 1 vw ks.length (Zv ks)
theorem Lse.stay (h : Lse w8 w c v1 v2 v3 v4 L1 L2 R1 R2 vw ks) (k : Keep (fun _ => False) w w') : Lse w8 w' c v1 v2 v3 v4 L1 L2 R1 R2 vw ks := ⟨h.f.stay k, h.cw, ownsRow_keep h.ow k fun _ _ f => f⟩
theorem Lse.ext (h : Lse w8 w c v1 v2 v3 v4 L1 L2 R1 R2 vw ks) (k : Keep (fun _ => False) w w') (x : Nat) : Lse w8 w' (ext c w.heap.size x) v1 v2 v3 v4 L1 L2 R1 R2 vw ks := ⟨h.f.ext k x, h.cw.ext h.ow, ownsRow_keep h.ow k fun _ _ f => f⟩
theorem Lse.base (h : Lse w8 w c v1 v2 v3 v4 L1 L2 R1 R2 vw ks) : w8.heap.size ≤ w.heap.size := h.f.k.size
theorem col_apart {x y : Nat} {v u : Value} (h1 : Col c v x) (h2 : Col c u y) (hne : x ≠ y) : ∀ k, u.ownBlock = some k → ¬ v.ownBlock = some k := fun k e e' => hne ((h1 k e').symm.trans (h2 k e))
theorem Lse.push1 (h : Lse w8 w c v1 v2 v3 v4 L1 L2 R1 R2 vw ks) {x : Nat} (hx : 8 < x ∧ x ≠ 21) {u : Value} {l : List Int} (hu : w.ownsRow w8.heap.size 3 1 u l.length (Zv l)) (hcu : Col c u x) : ∃ vs, w.ownsRow w8.heap.size 27 1 v1 L1.length vs ∧ ∀ v' w', w'.ownsRow w8.heap.size 27 1 v' (L1.length + 1) (vs ++ [u]) → Keep (fun b => v1.ownBlock = some b) w w' → NewBlk w v1 v' → Lse w8 w' (pus c w.heap.size 1 2 x) v' v2 v3 v4 (L1 ++ [l]) L2 R1 R2 vw ks := by
  obtain ⟨vs, hr, hf⟩ := h.f.push1 hx.1 hu hcu
  obtain ⟨_, hc⟩ := h.f.fa
  exact ⟨vs, hr, fun v' w' h1 h2 h3 => ⟨hf v' w' h1 h2 h3, h.cw.push (fun e => hx.2 e.symm) h.ow, ownsRow_keep h.ow h2 (col_apart hc.cr h.cw (by decide))⟩⟩
theorem Lse.push2 (h : Lse w8 w c v1 v2 v3 v4 L1 L2 R1 R2 vw ks) {x : Nat} (hx : 8 < x ∧ x ≠ 21) {u : Value} {l : List Int} (hu : w.ownsRow w8.heap.size 3 1 u l.length (Zv l)) (hcu : Col c u x) : ∃ vs, w.ownsRow w8.heap.size 27 1 v2 L2.length vs ∧ ∀ v' w', w'.ownsRow w8.heap.size 27 1 v' (L2.length + 1) (vs ++ [u]) → Keep (fun b => v2.ownBlock = some b) w w' → NewBlk w v2 v' → Lse w8 w' (pus c w.heap.size 3 4 x) v1 v' v3 v4 L1 (L2 ++ [l]) R1 R2 vw ks := by
  obtain ⟨vs, hr, hf⟩ := h.f.push2 hx.1 hu hcu
  obtain ⟨_, hc⟩ := h.f.fb
  exact ⟨vs, hr, fun v' w' h1 h2 h3 => ⟨hf v' w' h1 h2 h3, h.cw.push (fun e => hx.2 e.symm) h.ow, ownsRow_keep h.ow h2 (col_apart hc.cr h.cw (by decide))⟩⟩
theorem Lse.push3 (h : Lse w8 w c v1 v2 v3 v4 L1 L2 R1 R2 vw ks) {x : Nat} (hx : 8 < x ∧ x ≠ 21) {u : Value} {l : List Nat} (hu : w.ownsRow w8.heap.size 5 1 u l.length (B8 l)) (hcu : Col c u x) : ∃ vs, w.ownsRow w8.heap.size 26 1 v3 R1.length vs ∧ ∀ v' w', w'.ownsRow w8.heap.size 26 1 v' (R1.length + 1) (vs ++ [u]) → Keep (fun b => v3.ownBlock = some b) w w' → NewBlk w v3 v' → Lse w8 w' (pus c w.heap.size 5 6 x) v1 v2 v' v4 L1 L2 (R1 ++ [l]) R2 vw ks := by
  obtain ⟨vs, hr, hf⟩ := h.f.push3 hx.1 hu hcu
  obtain ⟨_, hc⟩ := h.f.fc
  exact ⟨vs, hr, fun v' w' h1 h2 h3 => ⟨hf v' w' h1 h2 h3, h.cw.push (fun e => hx.2 e.symm) h.ow, ownsRow_keep h.ow h2 (col_apart hc.cr h.cw (by decide))⟩⟩
theorem Lse.push4 (h : Lse w8 w c v1 v2 v3 v4 L1 L2 R1 R2 vw ks) {x : Nat} (hx : 8 < x ∧ x ≠ 21) {u : Value} {l : List Nat} (hu : w.ownsRow w8.heap.size 5 1 u l.length (B8 l)) (hcu : Col c u x) : ∃ vs, w.ownsRow w8.heap.size 26 1 v4 R2.length vs ∧ ∀ v' w', w'.ownsRow w8.heap.size 26 1 v' (R2.length + 1) (vs ++ [u]) → Keep (fun b => v4.ownBlock = some b) w w' → NewBlk w v4 v' → Lse w8 w' (pus c w.heap.size 7 8 x) v1 v2 v3 v' L1 L2 R1 (R2 ++ [l]) vw ks := by
  obtain ⟨vs, hr, hf⟩ := h.f.push4 hx.1 hu hcu
  obtain ⟨_, hc⟩ := h.f.fd
  exact ⟨vs, hr, fun v' w' h1 h2 h3 => ⟨hf v' w' h1 h2 h3, h.cw.push (fun e => hx.2 e.symm) h.ow, ownsRow_keep h.ow h2 (col_apart hc.cr h.cw (by decide))⟩⟩
/-- between two rounds of the loop over a disk's numbers -/
structure Inn (w8 : World) (v1 v2 v3 v4 : Value) (L : List (List Int)) (N : Nat) (vw : Value) (ks : List Int) (w : World) : Prop where
  ex : ∃ c R, Lse w8 w c v1 v2 v3 v4 L L R R vw ks ∧ R.length ≤ N ∧ ∀ b ∈ R, b.length ≤ 67108864 ∧ ∀ d ∈ b, d < 256
theorem Inn.out {i N : Nat} {L : List (List Int)} (h : Inn w8 v1 v2 v3 v4 (L ++ [ks]) N vw ks w) (hN : N ≤ (i + 1) * 1099511627776) (hL : L.length = i) (hb : ∀ l ∈ L, l.length ≤ 1099511627776 ∧ ∀ x ∈ l, -9223372036854775808 ≤ x ∧ x ≤ 9223372036854775807)
    (hk : ks.length ≤ 1099511627776 ∧ ∀ x ∈ ks, -9223372036854775808 ≤ x ∧ x ≤ 9223372036854775807) : ∃ c L' R', Loo w8 (i + 1) v1 v2 v3 v4 c L' R' ((i + 1) * 1099511627776) w := by
  obtain ⟨c, R, hS, hR, hRb⟩ := h.ex
  refine ⟨c, L ++ [ks], R, hS.f, by rw [List.length_append, hL]; rfl, Nat.le_trans hR hN, fun l hl => ?_, hRb⟩
  rcases List.mem_append.1 hl with h | h
  · exact hb l h
  · rw [List.mem_singleton.1 h]; exact hk
theorem Inn.begin_ {R : List (List Nat)} {L : List (List Int)} {N : Nat} (hS : Lse w8 w c v1 v2 v3 v4 L L R R vw ks) (hR : R.length ≤ N) (hRb : ∀ b ∈ R, b.length ≤ 67108864 ∧ ∀ d ∈ b, d < 256) : Inn w8 v1 v2 v3 v4 L (N + 0) vw ks w := ⟨c, R, hS, hR, hRb⟩
theorem Inn.more {c' : Nat → Nat} {R : List (List Nat)} {L : List (List Int)} {N : Nat} {b : List Nat} (hS : Lse w8 w c' v1 v2 v3 v4 L L (R ++ [b]) (R ++ [b]) vw ks) (hR : R.length ≤ N) (hRb : ∀ b ∈ R, b.length ≤ 67108864 ∧ ∀ d ∈ b, d < 256) (hb : b.length ≤ 67108864 ∧ ∀ d ∈ b, d < 256) : Inn w8 v1 v2 v3 v4 L (N + 1) vw ks w := by
  refine ⟨c', R ++ [b], hS, by rw [List.length_append]; exact Nat.add_le_add_right hR 1, fun x hx => ?_⟩
  rcases List.mem_append.1 hx with h | h
  · exact hRb x h
  · rw [List.mem_singleton.1 h]; exact hb
theorem rz_val {B : Nat} {a : Option Addr} {c : Nat} {l : List Int} (h : w.ownsRow B 3 1 (.slice a l.length c) l.length (Zv l)) (hd : ∀ x ∈ l, -9223372036854775808 ≤ x ∧ x ≤ 9223372036854775807) (hs : l.length ≤ 1099511627776) : Rz w a l.length l ∧ (a = none → c = 0) := by
  obtain ⟨a', c', e, h1, h2⟩ := rz_of h hd (by omega)
  injection e with e1 _ e3
  subst e1 e3
  exact ⟨h1, h2⟩
theorem rd_val {B : Nat} {a : Option Addr} {c : Nat} {l : List Nat} (h : w.ownsRow B 5 1 (.slice a l.length c) l.length (B8 l)) (hd : ∀ d ∈ l, d < 256) (hs : l.length ≤ 67108864) : Rd w a l.length l ∧ (a = none → c = 0) := by
  obtain ⟨a', c', e, h1, h2, _⟩ := ownsRow_rd h hd (by omega)
  injection e with e1 _ e3
  subst e1 e3
  exact ⟨h1, h2⟩
theorem row_cellZ {B f m cap j : Nat} {l : List Int} {x : Int} (h : w.ownsRow B 3 1 (.slice (some ⟨f, 0, none⟩) m cap) m (Zv l)) (hj : l[j]? = some x) : w.cell? ⟨f, j, none⟩ = some (.int .i64 x) := by
  have := h.cells (g := f) rfl j (.int .i64 x) (by simp [Zv, hj])
  rw [Addr.add_lit, Nat.zero_add] at this
  exact this
theorem KeyOk.wide {t : St} (h : KeyOk t ks) : ks.length ≤ 1099511627776 ∧ ∀ x ∈ ks, -9223372036854775808 ≤ x ∧ x ≤ 9223372036854775807 := ⟨h.2.2.1, fun x hx => by have := h.2.2.2 x hx; omega⟩
end Go.Proofs.Ytmaeaibphggceaa
