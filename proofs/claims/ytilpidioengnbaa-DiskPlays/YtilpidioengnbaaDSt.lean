/- Package disk: a disk, as the document has it, and in memory. -/
import Derived.Test.YtilpidioengnbaaDLay
namespace Go.Proofs.Ytilpidioengnbaa
open Go.RowKit Go.Lib

/-- what the map of those open to loss says of one -/
def pastOf (t s : Option (List Nat)) (v : Value) : Option Value :=
  if t = s then none else some (match t, s with
    | some _, none => .agg #[.bool false, .int .i64 0, .slice none 0 0]
    | some _, some m => .agg #[.bool true, .int .i64 (m.length : Nat), .slice none 0 0]
    | none, _ => .agg #[.bool true, .int .i64 0, v])

/-- the disk's own block -/
def dcells (s : St) (bt bo : Nat) : Array Value := #[.int .i64 (s.cap : Nat), .int .i64 (s.used : Nat), .map (some bt), .map (some bo), .bool s.left.isSome, .int .i64 (s.left.getD 0 : Nat), .bool s.down]

structure DIn (S : Nat → Prop) (w : World) (p : Nat) (s : St) (bt bo : Nat) (val : Int → Value) : Prop where
  blk : w.heap[p]? = some (.cells (dcells s bt bo) 68 (0, 0))
  mt : MapIs w bt (fun k => (s.there k).map fun _ => val k)
  mo : MapIs w bo (fun k => pastOf (s.there k) (s.safe k) (val k))
  ne : bt ≠ bo
  row : ∀ k l, s.held k = some l → Row w (val k) l
  one : ∀ k k' g, s.held k ≠ none → s.held k' ≠ none → (val k).ownBlock = some g → (val k').ownBlock = some g → k = k'
  own : ∀ k g, s.held k ≠ none → (val k).ownBlock = some g → S g
  sp : S p
  st : S bt
  so : S bo

def DAt (S : Nat → Prop) (w : World) (p : Nat) (s : St) : Prop := ∃ bt bo val, DIn S w p s bt bo val

theorem DIn.stay {S T : Nat → Prop} {w w' : World} {p : Nat} {s : St} {bt bo : Nat} {val : Int → Value} (h : DIn S w p s bt bo val) (hk : Keep T w w') (hT : ∀ i, i < w.heap.size → S i → ¬ T i) : DIn S w' p s bt bo val where
  blk := hk.blk h.blk (hT p (Array.getElem?_eq_some_iff.1 h.blk).1 h.sp)
  mt := h.mt.keep hk (hT bt h.mt.lt h.st)
  mo := h.mo.keep hk (hT bo h.mo.lt h.so)
  ne := h.ne
  row k l hl := (h.row k l hl).keep hk fun g hg => hT g ((h.row k l hl).1.lt g hg).2 (h.own k g (by rw [hl]; simp) hg)
  one := h.one
  own := h.own
  sp := h.sp
  st := h.st
  so := h.so
theorem DAt.stay {S T : Nat → Prop} {w w' : World} {p : Nat} {s : St} (h : DAt S w p s) (hk : Keep T w w') (hT : ∀ i, i < w.heap.size → S i → ¬ T i) : DAt S w' p s := by
  obtain ⟨bt, bo, val, h⟩ := h
  exact ⟨bt, bo, val, h.stay hk hT⟩
theorem DAt.mono {S T : Nat → Prop} {w : World} {p : Nat} {s : St} (h : DAt S w p s) (hT : ∀ i, S i → T i) : DAt T w p s := by
  obtain ⟨bt, bo, val, h⟩ := h
  exact ⟨bt, bo, val, ⟨h.blk, h.mt, h.mo, h.ne, h.row, h.one, fun k g h1 h2 => hT g (h.own k g h1 h2), hT _ h.sp, hT _ h.st, hT _ h.so⟩⟩

/-- the cells of a block -/
theorem cell_blk {w : World} {p : Nat} {cs : Array Value} {t : TypeId} (h : w.heap[p]? = some (.cells cs t (0, 0))) (j : Nat) {v : Value} (hv : cs[j]? = some v) : w.cell? ⟨p, j, none⟩ = some v := by
  rw [World.cell?, h]
  simpa using hv
theorem frozen_blk {w : World} {p : Nat} {cs : Array Value} {t : TypeId} (h : w.heap[p]? = some (.cells cs t (0, 0))) (j : Nat) : w.frozen? ⟨p, j, none⟩ = false := by
  simp [World.frozen?, h]
theorem set_blk {w : World} {p : Nat} {cs : Array Value} {t : TypeId} (h : w.heap[p]? = some (.cells cs t (0, 0))) (j : Nat) (v : Value) : (w.setCell ⟨p, j, none⟩ v).heap[p]? = some (.cells (cs.setIfInBounds j v) t (0, 0)) := by
  simp [World.setCell, Array.getElem?_modify, h]
theorem keep_cell (w : World) (p j : Nat) (v : Value) : Keep (fun k => k = p) w (w.setCell ⟨p, j, none⟩ v) := Keep.setCell (S := fun k => k = p) w (p := ⟨p, j, none⟩) rfl v

section
variable {S : Nat → Prop} {w : World} {p : Nat} {s : St} {bt bo : Nat} {val : Int → Value}
theorem DIn.c0 (h : DIn S w p s bt bo val) : w.cell? ⟨p, 0, none⟩ = some (.int .i64 (s.cap : Nat)) := cell_blk h.blk 0 rfl
theorem DIn.c1 (h : DIn S w p s bt bo val) : w.cell? ⟨p, 1, none⟩ = some (.int .i64 (s.used : Nat)) := cell_blk h.blk 1 rfl
theorem DIn.c2 (h : DIn S w p s bt bo val) : w.cell? ⟨p, 2, none⟩ = some (.map (some bt)) := cell_blk h.blk 2 rfl
theorem DIn.c3 (h : DIn S w p s bt bo val) : w.cell? ⟨p, 3, none⟩ = some (.map (some bo)) := cell_blk h.blk 3 rfl
theorem DIn.c4 (h : DIn S w p s bt bo val) : w.cell? ⟨p, 4, none⟩ = some (.bool s.left.isSome) := cell_blk h.blk 4 rfl
theorem DIn.c5 (h : DIn S w p s bt bo val) : w.cell? ⟨p, 5, none⟩ = some (.int .i64 (s.left.getD 0 : Nat)) := cell_blk h.blk 5 rfl
theorem DIn.c6 (h : DIn S w p s bt bo val) : w.cell? ⟨p, 6, none⟩ = some (.bool s.down) := cell_blk h.blk 6 rfl
theorem DIn.fz (h : DIn S w p s bt bo val) (j : Nat) : w.frozen? ⟨p, j, none⟩ = false := frozen_blk h.blk j
theorem DIn.pt (h : DIn S w p s bt bo val) : p ≠ bt := fun e => by
  obtain ⟨es, c, hb⟩ := h.mt.blk
  have := h.blk
  rw [e, hb] at this
  cases this
theorem DIn.po (h : DIn S w p s bt bo val) : p ≠ bo := fun e => by
  obtain ⟨es, c, hb⟩ := h.mo.blk
  have := h.blk
  rw [e, hb] at this
  cases this
theorem row_blk {v : Value} {l : List Nat} {g : Nat} (h : Row w v l) (hg : v.ownBlock = some g) : ∃ cs, w.heap[g]? = some (.cells cs 5 (0, 0)) := by
  rcases h.parts with ⟨rfl, _⟩ | ⟨g', cap, cur, rfl, h1, _⟩
  · cases hg
  · injection hg with hg
    subst hg
    exact ⟨_, h1⟩
theorem DIn.gne (h : DIn S w p s bt bo val) {k : Int} {l : List Nat} (hl : s.held k = some l) {g : Nat} (hg : (val k).ownBlock = some g) : g ≠ p ∧ g ≠ bt ∧ g ≠ bo := by
  obtain ⟨cs, hc⟩ := row_blk (h.row k l hl) hg
  refine ⟨fun e => ?_, fun e => ?_, fun e => ?_⟩
  · have := h.blk
    rw [← e, hc] at this
    simp at this
  · obtain ⟨es, c, hb⟩ := h.mt.blk
    rw [← e, hc] at hb
    cases hb
  · obtain ⟨es, c, hb⟩ := h.mo.blk
    rw [← e, hc] at hb
    cases hb
end

end Go.Proofs.Ytilpidioengnbaa
