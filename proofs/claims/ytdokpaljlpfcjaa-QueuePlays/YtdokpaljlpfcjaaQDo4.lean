/- Chapter 8's laws: the document's queue: the runs of Push's and Remove's appends. -/
import Derived.Test.YtdokpaljlpfcjaaQDo3
namespace Go.Proofs.Ytdokpaljlpfcjaa
namespace Qu
open Go.RowKit

theorem low0 {w w1 w2 : World} {U : Nat → Prop} (h : Keep (fun _ => False) w w1) (k : Keep U w1 w2) (hU : ∀ b, U b → w.heap.size ≤ b) : Keep (fun _ => False) w w2 :=
  ⟨k.os.trans h.os, k.tape.trans h.tape, k.output.trans h.output, Nat.le_trans h.size k.size, fun b hb _ => (k.block b (Nat.lt_of_lt_of_le hb h.size) fun hu => by have := hU b hu; omega).trans (h.block b hb fun f => f)⟩
/-- a copy of things behind an empty row -/
theorem copy_run {w1 wB : World} {src : Value} {n : Nat} {ys : List Value} (hs : Src wB src n ys) (h1 : ∀ u ∈ ys, u.oneCell' = true) (hn : n ≤ 65536) (kB : Keep (fun _ => False) w1 wB) {E : Nat} (hE : wB.heap[E]? = some (.cells #[] 76 (0, 0))) (hEn : w1.heap.size ≤ E) :
    ∃ va vc wC, (Builtin.append_ #[47, 47] 47 #[.slice (some ⟨E, 0, none⟩) 0 0, src]).run Try.prog wB = .ok (.slice va n vc) wC ∧ wC.ownsRow 0 76 2 (.slice va n vc) n ys ∧ Keep (fun _ => False) w1 wC ∧ Keep (fun k => k = E) wB wC ∧ ∀ k, (Value.slice va n vc).ownBlock = some k → w1.heap.size ≤ k := by
  obtain ⟨v', wC, hrun, ho, hk, nb⟩ := app_run (own_emptyAt hE) hs h1 (by omega) 47
  rw [Nat.zero_add, List.nil_append] at ho
  obtain ⟨va, vc, rfl, _⟩ := ownsRow_sh ho
  have hk' : Keep (fun k => k = E) wB wC := hk.mono fun k (e : some E = some k) => by injection e with e; exact e.symm
  refine ⟨va, vc, wC, hrun, ho, low0 kB hk' fun b e => by omega, hk', fun k e => ?_⟩
  rcases nb with e' | e'
  · rw [e'] at e
    have e : some E = some k := e
    injection e with e
    omega
  · rw [e'] at e
    injection e with e
    have := kB.size
    omega
/-- things behind that copy -/
theorem more_run {w1 wD : World} {va : Option Addr} {n vc : Nat} {xs : List Value} (ho : wD.ownsRow 0 76 2 (.slice va n vc) n xs) (kD : Keep (fun _ => False) w1 wD) (hown : ∀ k, (Value.slice va n vc).ownBlock = some k → w1.heap.size ≤ k) {src : Value} {m : Nat} {ys : List Value} (hs : Src wD src m ys) (h1 : ∀ u ∈ ys, u.oneCell' = true) (hn : n + m ≤ 131072) :
    ∃ xa xc wF, (Builtin.append_ #[47, 47] 47 #[.slice va n vc, src]).run Try.prog wD = .ok (.slice xa (n + m) xc) wF ∧ wF.ownsRow 0 76 2 (.slice xa (n + m) xc) (n + m) (xs ++ ys) ∧ Keep (fun _ => False) w1 wF ∧ ∀ k, (Value.slice xa (n + m) xc).ownBlock = some k → w1.heap.size ≤ k := by
  obtain ⟨v', wF, hrun, ho', hk, nb⟩ := app_run ho hs h1 hn 47
  obtain ⟨xa, xc, rfl, _⟩ := ownsRow_sh ho'
  refine ⟨xa, xc, wF, hrun, ho', low0 kD hk fun b e => hown b e, fun k e => ?_⟩
  rcases nb with e' | e'
  · rw [e'] at e
    exact hown k e
  · rw [e'] at e
    injection e with e
    have := kD.size
    omega
/-- one thing, in a block of two cells -/
theorem Src.item {w : World} {I L : Nat} {k : Int} (h : w.heap[I]? = some (.cells #[.int .i64 (L : Nat), .string (tx k)] 76 (0, 0))) : Src w (.slice (some ⟨I, 0, none⟩) 1 1) 1 (itm [(L, k)]) := by
  refine .inr ⟨I, 0, 1, rfl, rfl, fun j u hu => ?_⟩
  rw [Nat.zero_add]
  exact cell_blk h j (by simpa [itm, nv] using hu)
/-- the row of a queue of the document's lies elsewhere -/
theorem DqIn.ne {S : Nat → Prop} {w : World} {P : Nat} {v : Value} {s : St Int} (h : DqIn S w P v s) : v.ownBlock ≠ some P := fun e => by
  rcases h.row.2 with ⟨rfl, _⟩ | ⟨g, cap, cur, rfl, _, hg, _⟩
  · cases e
  · have e : some g = some P := e
    injection e with e
    subst e
    rw [h.blk] at hg
    injection hg with hg
    injection hg with _ hg
    exact absurd hg (by decide)
/-- a number more was given -/
theorem DqIn.count {S : Nat → Prop} {w : World} {P : Nat} {v : Value} {s : St Int} (h : DqIn S w P v s) (n : Nat) : DqIn S (w.setCell ⟨P, 1, none⟩ (nv n)) P v { s with last := n } ∧ Keep S w (w.setCell ⟨P, 1, none⟩ (nv n)) :=
  ⟨⟨(set_blk h.blk 1 (nv n)).trans rfl, ownsRow_kp h.row (keep_cell w P 1 (nv n)) fun g e (e' : g = P) => h.ne (e' ▸ e), h.sp, h.sv⟩, Keep.setCell _ (show S P from h.sp) _⟩
theorem DqIn.drew {S : Nat → Prop} {w : World} {P : Nat} {v : Value} {s : St Int} (h : DqIn S w P v s) (n : Nat) : DqIn S (w.drewN n) P v s := ⟨h.blk, h.row, h.sp, h.sv⟩
end Qu
end Go.Proofs.Ytdokpaljlpfcjaa
