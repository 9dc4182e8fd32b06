/- Builders: their methods' contracts at this program, out of Join's. -/
import Derived.Test.YtnhmmplheihojaaGreatDoorShelf
import Derived.Shelf.Strings.BuilderK
import Derived.Test.YtnhmmplheihojaaGreatDoorWBase
namespace Go.Proofs.YtnhmmplheihojaaGreatDoor
namespace U
open Go.RowKit Go.Shelf

/-- Join's numbering, and WriteByte's number beside it -/
def renB : Ren := ⟨fun | 167 => 65 | n => Tryz.lays156_ren.f n, Tryz.lays156_ren.t, Tryz.lays156_ren.g⟩
set_option maxRecDepth 100000 in
theorem extraB : Builder.Extra Tryz.prog renB where
  sizeBuilder := Tryz.Builder_Extra_156.sizeBuilder
  liesBuilder := Tryz.Builder_Extra_156.liesBuilder
  t5 := Tryz.Builder_Extra_156.t5
  a5 := Tryz.Builder_Extra_156.a5
  z5 := Tryz.Builder_Extra_156.z5
  v5 := Tryz.Builder_Extra_156.v5
  infoByte := Tryz.Builder_Extra_156.infoByte
  cellsByte := Tryz.Builder_Extra_156.cellsByte
  sizeByte := Tryz.Builder_Extra_156.sizeByte
  neB5 := Tryz.Builder_Extra_156.neB5
theorem lays166 : Lays.n166 Tryz.prog Tryz.lays156_ren := { Tryz.lays156 with }
set_option maxRecDepth 100000 in
theorem lays167 : Lays.n167 Tryz.prog renB := { Tryz.lays156 with f167 := Tryz.func65.trans (congrArg some (by kernel_rfl)), t5 := Tryz.Builder_Extra_156.t5, a5 := Tryz.Builder_Extra_156.a5, z5 := Tryz.Builder_Extra_156.z5, v5 := Tryz.Builder_Extra_156.v5 }
/-- a builder, and the bytes that it holds -/
def Bd (w : World) (b : Nat) (l : List UInt8) : Prop := Lib.IsBuilderF 92 5 b b (Lib.byteCells l) w
/-- a frame: all but a builder and rows of bytes -/
def Oth (b : Nat) (w w' : World) : Prop := w.heap.size ≤ w'.heap.size ∧ Lib.OthersKept 5 (some b) w w'
theorem Oth.refl (b : Nat) (w : World) : Oth b w w := ⟨Nat.le_refl _, Lib.OthersKept.refl _ _ _⟩
theorem Oth.trans {b : Nat} {x y z : World} (h : Oth b x y) (k : Oth b y z) : Oth b x z := ⟨Nat.le_trans h.1 k.1, h.2.trans k.2⟩
theorem Oth.below {b : Nat} {x y : World} (h : Below x.heap.size x y) : Oth b x y := ⟨h.size, fun k _ hk _ _ => (h.block k (Array.getElem?_eq_some_iff.1 hk).1).trans hk⟩
theorem Oth.blk {b : Nat} {w w' : World} (h : Oth b w w') {k : Nat} {cs : Array Value} {t : TypeId} {fz : Nat × Nat} (hk : w.heap[k]? = some (.cells cs t fz)) (hb : k ≠ b) (ht : t ≠ 5) : w'.heap[k]? = some (.cells cs t fz) :=
  h.2 k _ hk (fun e => hb (Option.some.inj e)) (fun c fz' e => by injection e with _ e; exact ht e)
theorem Bd.keep {w w' : World} {b : Nat} {l : List UInt8} (h : Bd w b l) (k : Below w.heap.size w w') : Bd w' b l := by
  have key : ∀ p, Lib.BuilderAtF 92 5 b b p (Lib.byteCells l) w → Lib.BuilderAtF 92 5 b b p (Lib.byteCells l) w' := by
    rintro p ⟨h1, v, h2, h3, h4⟩
    refine ⟨h1, v, (k.block b (Array.getElem?_eq_some_iff.1 h2).1).trans h2, ?_, h4⟩
    refine ⟨h3.1, ?_⟩
    rcases h3.2 with h5 | ⟨g, cap, cur, fz, e1, e2, e3, e4⟩
    · exact .inl h5
    · exact .inr ⟨g, cap, cur, fz, e1, e2, (k.block g (Array.getElem?_eq_some_iff.1 e3).1).trans e3, e4⟩
  exact h.imp (key _) (key _)
theorem Bd.lt {w : World} {b : Nat} {l : List UInt8} (h : Bd w b l) : b < w.heap.size := h.elim (fun h => h.lt) (fun h => h.lt)
theorem bd_new (w : World) : Bd (w.alloc (.cells #[.pointer none, .slice none 0 0] 92)) w.heap.size [] :=
  .inl ⟨Nat.le_refl _, _, heap_alloc_new _ _, World.ownsRowF_nil _ _ _ _, by simp [Value.ownBlock]⟩
theorem writeString (b : Nat) (l : List UInt8) (s : ByteArray) (w : World) (h : Bd w b l) (hlen : l.length + s.size ≤ 140737488355328) :
    Calls Tryz.prog 63 #[.pointer (some ⟨b, 0, none⟩), .string s] w fun e w' => e = .returned (.tuple #[.int .i64 s.size, .nilIface]) ∧ Bd w' b (l ++ s.data.toList) ∧ Below b w w' ∧ Oth b w w' := by
  refine (Any.Builder_WriteString_k lays166 Tryz.Builder_Extra_156 b b (Lib.byteCells l) s w h (by rw [Lib.byteCells_length]; exact hlen) (Nat.le_of_lt h.lt)).mono ?_
  rintro e w' ⟨rfl, h1, h2, h3⟩
  refine ⟨rfl, .inr ?_, h2, h2.size, h3⟩
  rw [Lib.byteCells_append, ← Lib.strCells_eq]
  exact h1
theorem writeByte (b : Nat) (l : List UInt8) (c : UInt8) (w : World) (h : Bd w b l) (hlen : l.length + 1 ≤ 140737488355328) :
    Calls Tryz.prog 65 #[.pointer (some ⟨b, 0, none⟩), .int .u8 (c.toNat : Int)] w fun e w' => e = .returned .nilIface ∧ Bd w' b (l ++ [c]) ∧ Below b w w' ∧ Oth b w w' := by
  refine (Any.Builder_WriteByte_k lays167 extraB b b (Lib.byteCells l) (c.toNat : Int) w h (by rw [Lib.byteCells_length]; exact hlen) (Nat.le_of_lt h.lt)).mono ?_
  rintro e w' ⟨rfl, h1, h2, h3⟩
  refine ⟨rfl, .inr ?_, h2, h2.size, h3⟩
  rw [Lib.byteCells_append]
  exact h1
theorem builderString (b : Nat) (l : List UInt8) (w : World) (h : Bd w b l) :
    Calls Tryz.prog 41 #[.pointer (some ⟨b, 0, none⟩)] w fun e w' => e = .returned (.string ⟨l.toArray⟩) ∧ Below b w w' := by
  refine (Any.Builder_String_any_k Tryz.lays169 Tryz.Builder_Extra_169 b b l w h (Nat.le_of_lt h.lt)).mono ?_
  rintro e w' ⟨rfl, h1, h2, h3⟩
  exact ⟨rfl, h2⟩
end U
end Go.Proofs.YtnhmmplheihojaaGreatDoor
