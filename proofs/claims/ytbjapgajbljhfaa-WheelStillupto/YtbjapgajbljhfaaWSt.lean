/- Package wheel: a wheel in memory: its own block, its map, its entries, linked row by row. -/
import Derived.Test.YtbjapgajbljhfaaWMap
import Derived.Test.YtbjapgajbljhfaaWMod
namespace Go.Proofs.Ytbjapgajbljhfaa
namespace Wh
open Go.RowKit

/-- a pointer to an entry, or none -/
def ptr (at_ : Nat → Nat) : Option Nat → Value
  | none => .pointer none
  | some id => .pointer (some ⟨at_ id, 0, none⟩)

/-- where the cells of a slot lie -/
def so (l i : Nat) : Nat := 3 + (l * 64 + i) * 2
theorem so_lt {l i : Nat} (hl : l < 11) (hi : i < 64) : so l i + 1 < 1411 := by unfold so; omega
theorem so_inj {l i l' i' : Nat} (hi : i < 64) (hi' : i' < 64) (h : so l i = so l' i') : l = l' ∧ i = i' := by unfold so at h; omega
theorem so_ne {l i l' i' : Nat} (h : so l i = so l' i' + 1) : False := by unfold so at h; omega

/-- the wheel's own block -/
def WCells (cs : Array Value) (m : Nat) (at_ : Nat → Nat) (row : Nat → Nat → List Nat) (n last : Nat) : Prop :=
  cs.size = 1411 ∧ cs[0]? = some (.int .i64 n) ∧ cs[1]? = some (.int .i64 last) ∧ cs[2]? = some (.map (some m)) ∧
    ∀ l i, l < 11 → i < 64 → cs[so l i]? = some (ptr at_ (row l i).head?) ∧ cs[so l i + 1]? = some (ptr at_ (row l i).getLast?)

/-- an entry's block -/
def ecells (s : St) (id : Nat) (b e : Value) : Array Value := #[.int .i64 id, .int .i64 (s.due id), s.what id, b, e]
def Ent (te : TypeId) (w : World) (at_ : Nat → Nat) (s : St) (id : Nat) (b e : Value) : Prop := w.heap[at_ id]? = some (.cells (ecells s id b e) te (0, 0))

structure WIn (tw te : TypeId) (S : Nat → Prop) (w : World) (P m : Nat) (at_ : Nat → Nat) (row : Nat → Nat → List Nat) (s : St) : Prop where
  wb : ∃ cs, w.heap[P]? = some (.cells cs tw (0, 0)) ∧ WCells cs m at_ row s.now s.last
  lnk : ∀ l i xs ys id, row l i = xs ++ id :: ys → Ent te w at_ s id (ptr at_ xs.getLast?) (ptr at_ ys.head?)
  mp : ∃ f, MapIs w m f ∧ ∀ k v, f k = some v ↔ ∃ id, id ∈ s.ids ∧ k = ((id : Nat) : Int) ∧ v = ptr at_ (some id)
  inj : ∀ a ∈ s.ids, ∀ b ∈ s.ids, at_ a = at_ b → a = b
  ent : ∀ id ∈ s.ids, ∃ cs, w.heap[at_ id]? = some (.cells cs te (0, 0))
  own : ∀ id ∈ s.ids, S (at_ id)
  sp : S P
  sm : S m

/-- a wheel in memory -/
def WAt (tw te : TypeId) (S : Nat → Prop) (w : World) (P : Nat) (s : St) : Prop := Ok s ∧ ∃ m at_, WIn tw te S w P m at_ s.row s

section
variable {tw te : TypeId} {S : Nat → Prop} {w w' : World} {P m : Nat} {at_ : Nat → Nat} {row : Nat → Nat → List Nat} {s : St}

theorem WIn.ltP (h : WIn tw te S w P m at_ row s) : P < w.heap.size := by obtain ⟨cs, h, _⟩ := h.wb; exact (Array.getElem?_eq_some_iff.1 h).1
theorem WIn.ltm (h : WIn tw te S w P m at_ row s) : m < w.heap.size := by obtain ⟨f, h, _⟩ := h.mp; exact h.lt
theorem WIn.lte (h : WIn tw te S w P m at_ row s) {id : Nat} (hid : id ∈ s.ids) : at_ id < w.heap.size := by obtain ⟨cs, h⟩ := h.ent id hid; exact (Array.getElem?_eq_some_iff.1 h).1
theorem WIn.ePm (h : WIn tw te S w P m at_ row s) : P ≠ m := fun e => by
  obtain ⟨cs, h1, _⟩ := h.wb
  obtain ⟨f, h2, _⟩ := h.mp
  obtain ⟨es, c, h3⟩ := h2.blk
  rw [e, h3] at h1
  cases h1
theorem WIn.eem (h : WIn tw te S w P m at_ row s) {id : Nat} (hid : id ∈ s.ids) : at_ id ≠ m := fun e => by
  obtain ⟨cs, h1⟩ := h.ent id hid
  obtain ⟨f, h2, _⟩ := h.mp
  obtain ⟨es, c, h3⟩ := h2.blk
  rw [e, h3] at h1
  cases h1
theorem WIn.eeP (h : WIn tw te S w P m at_ row s) (ht : te ≠ tw) {id : Nat} (hid : id ∈ s.ids) : at_ id ≠ P := fun e => by
  obtain ⟨cs, h1⟩ := h.ent id hid
  obtain ⟨cs', h2, _⟩ := h.wb
  rw [e, h2] at h1
  injection h1 with h1
  injection h1 with _ h1
  exact ht h1.symm

theorem WIn.drew (h : WIn tw te S w P m at_ row s) : WIn tw te S w.drew P m at_ row s :=
  ⟨h.wb, h.lnk, (by obtain ⟨f, h1, h2⟩ := h.mp; exact ⟨f, h1.of_blk rfl, h2⟩), h.inj, h.ent, h.own, h.sp, h.sm⟩

/-- what touches none of its blocks leaves it -/
theorem WIn.stay (h : WIn tw te S w P m at_ row s) {T : Nat → Prop} (hk : Keep T w w') (hT : ∀ k, k < w.heap.size → S k → ¬ T k) (hrow : ∀ l i id, id ∈ row l i → id ∈ s.ids) : WIn tw te S w' P m at_ row s where
  wb := by
    obtain ⟨cs, h1, h2⟩ := h.wb
    exact ⟨cs, hk.blk h1 (hT P h.ltP h.sp), h2⟩
  lnk l i xs ys id e := by
    have hm := hrow l i id (by rw [e]; simp)
    exact hk.blk (h.lnk l i xs ys id e) (hT _ (h.lte hm) (h.own id hm))
  mp := by
    obtain ⟨f, h1, h2⟩ := h.mp
    exact ⟨f, h1.keep hk (hT m h.ltm h.sm), h2⟩
  inj := h.inj
  ent id hid := by
    obtain ⟨cs, h1⟩ := h.ent id hid
    exact ⟨cs, hk.blk h1 (hT _ (h.lte hid) (h.own id hid))⟩
  own := h.own
  sp := h.sp
  sm := h.sm

theorem WAt.stay {s : St} (h : WAt tw te S w P s) {T : Nat → Prop} (hk : Keep T w w') (hT : ∀ k, k < w.heap.size → S k → ¬ T k) : WAt tw te S w' P s := by
  obtain ⟨h0, m, at_, h1⟩ := h
  exact ⟨h0, m, at_, h1.stay hk hT fun l i id hid => (mem_row.1 hid).1⟩
theorem WAt.new {s : St} (h : WAt tw te S w P s) (hk : Keep (fun _ => False) w w') : WAt tw te S w' P s := h.stay hk fun _ _ _ h => h
theorem WAt.mono {T : Nat → Prop} {s : St} (h : WAt tw te S w P s) (hT : ∀ k, S k → T k) : WAt tw te T w P s := by
  obtain ⟨h0, m, at_, h1⟩ := h
  exact ⟨h0, m, at_, ⟨h1.wb, h1.lnk, h1.mp, h1.inj, h1.ent, fun id hid => hT _ (h1.own id hid), hT _ h1.sp, hT _ h1.sm⟩⟩

/-- the wheel's own cells, as they are read -/
theorem WIn.cnow (h : WIn tw te S w P m at_ row s) : w.cell? ⟨P, 0, none⟩ = some (.int .i64 s.now) := by obtain ⟨cs, h1, h2⟩ := h.wb; exact cell_blk h1 0 h2.2.1
theorem WIn.clast (h : WIn tw te S w P m at_ row s) : w.cell? ⟨P, 1, none⟩ = some (.int .i64 s.last) := by obtain ⟨cs, h1, h2⟩ := h.wb; exact cell_blk h1 1 h2.2.2.1
theorem WIn.cmap (h : WIn tw te S w P m at_ row s) : w.cell? ⟨P, 2, none⟩ = some (.map (some m)) := by obtain ⟨cs, h1, h2⟩ := h.wb; exact cell_blk h1 2 h2.2.2.2.1
theorem WIn.cfst (h : WIn tw te S w P m at_ row s) {l i : Nat} (hl : l < 11) (hi : i < 64) : w.cell? ⟨P, so l i, none⟩ = some (ptr at_ (row l i).head?) := by obtain ⟨cs, h1, h2⟩ := h.wb; exact cell_blk h1 _ (h2.2.2.2.2 l i hl hi).1
theorem WIn.clst (h : WIn tw te S w P m at_ row s) {l i : Nat} (hl : l < 11) (hi : i < 64) : w.cell? ⟨P, so l i + 1, none⟩ = some (ptr at_ (row l i).getLast?) := by obtain ⟨cs, h1, h2⟩ := h.wb; exact cell_blk h1 _ (h2.2.2.2.2 l i hl hi).2
theorem WIn.fz (h : WIn tw te S w P m at_ row s) (j : Nat) : w.frozen? ⟨P, j, none⟩ = false := by obtain ⟨cs, h1, h2⟩ := h.wb; exact frozen_blk h1 j
theorem Ent.c {id : Nat} {b e : Value} (h : Ent te w at_ s id b e) (j : Nat) {v : Value} (hv : (ecells s id b e)[j]? = some v) : w.cell? ⟨at_ id, j, none⟩ = some v := cell_blk h j hv
theorem Ent.c0 {id : Nat} {b e : Value} (h : Ent te w at_ s id b e) : w.cell? ⟨at_ id, 0, none⟩ = some (.int .i64 (id : Nat)) := cell_blk h 0 rfl
theorem Ent.c1 {id : Nat} {b e : Value} (h : Ent te w at_ s id b e) : w.cell? ⟨at_ id, 1, none⟩ = some (.int .i64 (s.due id : Nat)) := cell_blk h 1 rfl
theorem Ent.c2 {id : Nat} {b e : Value} (h : Ent te w at_ s id b e) : w.cell? ⟨at_ id, 2, none⟩ = some (s.what id) := cell_blk h 2 rfl
theorem Ent.c3 {id : Nat} {b e : Value} (h : Ent te w at_ s id b e) : w.cell? ⟨at_ id, 3, none⟩ = some b := cell_blk h 3 rfl
theorem Ent.c4 {id : Nat} {b e : Value} (h : Ent te w at_ s id b e) : w.cell? ⟨at_ id, 4, none⟩ = some e := cell_blk h 4 rfl
theorem Ent.fz {id : Nat} {b e : Value} (h : Ent te w at_ s id b e) (j : Nat) : w.frozen? ⟨at_ id, j, none⟩ = false := frozen_blk h j
end

end Wh
end Go.Proofs.Ytbjapgajbljhfaa
