/- Package pack: memory: which blocks stay, bytes that are read, rows of the call's own, writers and readers in memory. -/
import Derived.Test.YtbjcckfhfbjchaaGreatChecked
import Derived.Test.YtbjcckfhfbjchaaGreatPMath
import Derived.WalkKit
import Derived.Laws.BitsAllLaws
import Derived.Laws.AppendOwnNone
import Derived.Laws.CopyOwn
import Derived.Deep.OwnRows
import Derived.Below
namespace Go.Proofs.YtbjcckfhfbjchaaGreat
open Go.RowKit

theorem hide {p : Prop} (h : p) : Hid p := h
theorem ret_int {k : IntKind} {a b : Int} (h : a = b) : Ending.returned (.int k a) = .returned (.int k b) := by rw [h]

/-- all blocks but those of S stay -/
structure Keep (S : Nat → Prop) (w w' : World) : Prop where
  os : w'.os = w.os
  tape : w'.tape = w.tape
  output : w'.output = w.output
  size : w.heap.size ≤ w'.heap.size
  block : ∀ k, k < w.heap.size → ¬ S k → w'.heap[k]? = w.heap[k]?

theorem Keep.refl (S : Nat → Prop) (w : World) : Keep S w w := ⟨rfl, rfl, rfl, Nat.le_refl _, fun _ _ _ => rfl⟩
theorem Keep.trans {S T : Nat → Prop} {a b c : World} (h : Keep S a b) (k : Keep T b c) (hT : ∀ i, T i → S i ∨ a.heap.size ≤ i) : Keep S a c :=
  ⟨k.os.trans h.os, k.tape.trans h.tape, k.output.trans h.output, Nat.le_trans h.size k.size, fun i hi hn => (k.block i (Nat.lt_of_lt_of_le hi h.size) (fun ht => (hT i ht).elim hn (fun h' => by omega))).trans (h.block i hi hn)⟩
theorem Keep.more {S : Nat → Prop} {a b c : World} (h : Keep S a b) (k : Keep S b c) : Keep S a c := h.trans k fun _ h => .inl h
theorem Keep.mono {S T : Nat → Prop} {a b : World} (h : Keep S a b) (hT : ∀ i, S i → T i) : Keep T a b := ⟨h.os, h.tape, h.output, h.size, fun k hk hn => h.block k hk fun hs => hn (hT k hs)⟩
theorem Keep.ofBelow {S : Nat → Prop} {a b : World} {B : Nat} (h : Below B a b) (hB : a.heap.size ≤ B) : Keep S a b := ⟨h.os, h.tape, h.output, h.size, fun k hk _ => h.block k (by omega)⟩
theorem Keep.below {S : Nat → Prop} {a b : World} {B : Nat} (h : Keep S a b) (hB : B ≤ a.heap.size) (hS : ∀ i, S i → B ≤ i) : Below B a b := ⟨h.os, h.tape, h.output, h.size, fun k hk => h.block k (by omega) fun hs => by have := hS k hs; omega⟩
theorem Keep.alloc (S : Nat → Prop) (w : World) (o : Obj) : Keep S w (w.alloc o) := ⟨rfl, rfl, rfl, by simp, fun k hk _ => Below.heap_alloc _ _ _ hk⟩
theorem Keep.drew (S : Nat → Prop) (w : World) : Keep S w w.drew := ⟨rfl, rfl, rfl, Nat.le_refl _, fun _ _ _ => rfl⟩
theorem Keep.setCell {S : Nat → Prop} (w : World) {p : Addr} (hp : S p.block) (u : Value) : Keep S w (w.setCell p u) := ⟨rfl, rfl, rfl, by simp [World.setCell], fun k _ hn => Below.heap_setCell _ _ _ _ fun e => hn (e ▸ hp)⟩
theorem Keep.grown {S : Nat → Prop} {w w' : World} {row : Option Nat} (h : w.grownBy w' row) (hr : ∀ k, row = some k → S k) : Keep S w w' := ⟨h.os, h.tape, h.output, h.size, fun k hk hn => h.block k hk fun e => hn (hr k e.symm)⟩
theorem Keep.grownNew {S : Nat → Prop} {a w w' : World} {row : Option Nat} (h : Keep S a w) (hg : w.grownBy w' row) (hr : ∀ k, row = some k → S k ∨ a.heap.size ≤ k) : Keep S a w' :=
  h.trans (T := fun k => row = some k) (Keep.grown hg fun _ e => e) hr
theorem Keep.cell {S : Nat → Prop} {w w' : World} (h : Keep S w w') {p : Addr} {v : Value} (hc : w.cell? p = some v) (hp : ¬ S p.block) : w'.cell? p = some v :=
  (World.cell?_of_block (w := w) (h.block p.block (block_lt_of_cell hc) hp)).trans hc
theorem Keep.blk {S : Nat → Prop} {w w' : World} (h : Keep S w w') {p : Nat} {o : Obj} (hc : w.heap[p]? = some o) (hp : ¬ S p) : w'.heap[p]? = some o :=
  (h.block p (Array.getElem?_eq_some_iff.1 hc).1 hp).trans hc

/-- bytes as cells -/
def B8 (l : List Nat) : List Value := l.map fun (d : Nat) => Value.int .u8 (d : Int)
theorem B8_length (l : List Nat) : (B8 l).length = l.length := by simp [B8]
theorem B8_one (l : List Nat) : ∀ v ∈ B8 l, v.oneCell' = true := by
  intro v hv
  simp only [B8, List.mem_map] at hv
  obtain ⟨d, _, rfl⟩ := hv
  rfl
theorem B8_at (l : List Nat) (i : Nat) (h : i < l.length) : (B8 l)[i]? = some (.int .u8 ((l.getD i 0 : Nat) : Int)) := by simp [B8, h]
theorem B8_append (a b : List Nat) : B8 (a ++ b) = B8 a ++ B8 b := by simp [B8]

/-- What a slice of bytes reads: n bytes l from an address on (or none at all). -/
def Rd (w : World) (a : Option Addr) (n : Nat) (l : List Nat) : Prop :=
  n = l.length ∧ n < 281474976710656 ∧ (∀ d ∈ l, d < 256) ∧ (n = 0 ∨ ∃ b off, a = some ⟨b, off, none⟩ ∧ ∀ i, i < n → w.cell? ⟨b, off + i, none⟩ = some (.int .u8 ((l.getD i 0 : Nat) : Int)))

theorem Rd.stay {w w' : World} {a : Option Addr} {n : Nat} {l : List Nat} {S : Nat → Prop} (h : Rd w a n l) (hk : Keep S w w') (hS : ∀ b off, a = some ⟨b, off, none⟩ → ¬ S b) : Rd w' a n l := by
  obtain ⟨h1, h2, h3, h4⟩ := h
  refine ⟨h1, h2, h3, ?_⟩
  rcases h4 with h4 | ⟨b, off, rfl, h4⟩
  · exact .inl h4
  · exact .inr ⟨b, off, rfl, fun i hi => hk.cell (h4 i hi) (hS b off rfl)⟩
theorem Rd.below {w w' : World} {a : Option Addr} {n : Nat} {l : List Nat} {B : Nat} (h : Rd w a n l) (hB : w.heap.size ≤ B) (hb : Below B w w') : Rd w' a n l :=
  h.stay (S := fun _ => False) (Keep.ofBelow hb hB) fun _ _ _ h => h
theorem Rd.keep {w w' : World} {a : Option Addr} {n : Nat} {l : List Nat} (h : Rd w a n l) (hb : Below w.heap.size w w') : Rd w' a n l := h.below (Nat.le_refl _) hb
theorem further {w0 w w' : World} (h : Below w0.heap.size w0 w) (hb : Below w.heap.size w w') : Below w0.heap.size w0 w' := h.trans (hb.mono h.size)

theorem Rd.cells {w : World} {ad : Addr} {n : Nat} {l : List Nat} (h : Rd w (some ad) n l) : ∀ j u, (B8 l)[j]? = some u → w.cell? (ad.add j) = some u := by
  obtain ⟨h1, _, _, h4⟩ := h
  intro j u hu
  have hj : j < l.length := by
    rcases Nat.lt_or_ge j l.length with h' | h'
    · exact h'
    · rw [List.getElem?_eq_none (by rw [B8_length]; exact h')] at hu; cases hu
  rcases h4 with h4 | ⟨b, off, e, h4⟩
  · omega
  · injection e with e; subst e
    rw [B8_at l j hj] at hu
    injection hu with hu; subst hu
    have hadd : (⟨b, off, none⟩ : Addr).add j = ⟨b, off + j, none⟩ := by unfold Addr.add; split <;> simp_all
    rw [hadd]
    exact h4 j (by omega)

theorem info_u8 : (Tryz.prog.info? 5).map (fun i => (i.zero, i.size, i.bytes)) = some (some (.int .u8 0), 1, 1) := by kernel_rfl

theorem ownsRow_base {w : World} {b b' : Nat} {e : TypeId} {size : Nat} {v : Value} {n : Nat} {xs : List Value} (h : w.ownsRow b e size v n xs) (hb : b' ≤ b) : w.ownsRow b' e size v n xs := by
  refine ⟨h.1, ?_⟩
  rcases h.2 with h' | ⟨g, cap, cur, h1, h2, h3⟩
  · exact .inl h'
  · exact .inr ⟨g, cap, cur, h1, Nat.le_trans hb h2, h3⟩

theorem ownsRow_shape {w : World} {b : Nat} {e : TypeId} {size : Nat} {v : Value} {n : Nat} {xs : List Value} (h : w.ownsRow b e size v n xs) : ∃ a c, v = .slice a n c := by
  rcases h.2 with ⟨rfl, rfl⟩ | ⟨g, cap, cur, h1, h2, h3⟩
  · exact ⟨_, _, rfl⟩
  · exact ⟨_, _, h1⟩

/-- where the row of a slice lies behind an append: where it lay, or in a new block -/
def NewBlk (w : World) (v v' : Value) : Prop := v'.ownBlock = v.ownBlock ∨ ∀ k, v'.ownBlock = some k → w.heap.size ≤ k

/-- append to a row of the call's own -/
theorem wpList_append_own2 {P : Program} {w : World} {ops : Array Oper} {rest : List Oper} {o : Oper} {a : Act} {Q : Exit → Act → World → Prop} (hgd : o.guard = none) (s x : Operand) (t : TypeId)
    (ho : o.op = .call { callee := .builtin .append, args := #[s, x], argTypes := #[t, t] })
    (base : Nat) (e : TypeId) (i : TypeInfo) (z : Value) (size bytes : Nat) (ht : P.underlying t = some (.slice e)) (hi : P.info? e = some i) (hz : i.zero = some z)
    (hsize : i.size = size) (hby : i.bytes = bytes) (hzs : z.cells.size = size) (hsz : 0 < size)
    (v : Value) (n : Nat) (xs : List Value) (hs : a.eval s = v) (hown : w.ownsRow base e size v n xs)
    (ad : Addr) (m c : Nat) (news : List Value) (hx : a.eval x = .slice (some ad) m c) (hl : news.length = m * size) (hnews : ∀ j u, news[j]? = some u → w.cell? (ad.add j) = some u) (h1 : ∀ u ∈ news, u.oneCell' = true)
    (h63 : n + m ≤ maxLen) (hbytes : (n + m) * bytes ≤ 140737488355328) (hbase : base ≤ w.heap.size)
    (h : ∀ v' w', w'.ownsRow base e size v' (n + m) (xs ++ news) → w.grownBy w' v.ownBlock → NewBlk w v v' → wpList P ops Q rest (a.put o.dst v') w') : wpList P ops Q (o :: rest) a w := by
  rcases hown.2 with ⟨rfl, rfl⟩ | ⟨g, cap, cur, rfl, hbg, hg, hnc, hcm, hcs, htake⟩
  · have hxs : xs = [] := List.eq_nil_of_length_eq_zero (by simpa using hown.1)
    subst hxs
    refine wpList_append_own w hgd s x t ho w.heap.size e i z size bytes ht hi hz hsize hby hzs hsz _ 0 [] hs (World.ownsRow_nil w _ e size) ad m c news hx hl hnews h1 h63 hbytes (Nat.le_refl _) ?_
    intro v' w' h2 h3 h4
    exact h v' w' (ownsRow_base h2 hbase) h3 (.inr fun k hk => (h2.lt k hk).1)
  · by_cases hroom : n + m ≤ cap
    · refine wpList_append_fits w hgd s x t ho base e i size ht hi hsize g n cap xs hs hown ad m c news hx hl hnews h1 hroom ?_
      intro w' h2 h3
      exact h _ w' h2 h3 (.inl rfl)
    · refine wpList_append_grows w hgd s x t ho e i z size bytes ht hi hz hsize hby hzs hsz (some ⟨g, 0, none⟩) n cap xs hs (fun e => by cases e) hown.1 (fun b hb => by injection hb with hb; subst hb; exact hown.cells rfl) ad m c news hx hl hnews h1 (by omega) h63 hbytes ?_
      intro v' w' h2 h3
      exact h v' w' (ownsRow_base h2 hbase) ⟨h3.os, h3.tape, h3.output, h3.size, fun k hk _ => h3.block k hk (by simp)⟩ (.inr fun k hk => (h2.lt k hk).1)

/-- bytes appended to a row of the call's own -/
theorem wpList_append_rd {w : World} {ops : Array Oper} {rest : List Oper} {o : Oper} {ac : Act} {Q : Exit → Act → World → Prop} (hgd : o.guard = none) (s x : Operand)
    (ho : o.op = .call { callee := .builtin .append, args := #[s, x], argTypes := #[24, 24] })
    (v : Value) (xs : List Nat) (base : Nat) (hs : ac.eval s = v) (hown : w.ownsRow base 5 1 v xs.length (B8 xs))
    (a : Option Addr) (n c : Nat) (l : List Nat) (hx : ac.eval x = .slice a n c) (hr : Rd w a n l) (h0 : a = none → c = 0)
    (hsz : xs.length + n ≤ 140737488355328) (hbase : base ≤ w.heap.size)
    (h : ∀ v' w', w'.ownsRow base 5 1 v' (xs ++ l).length (B8 (xs ++ l)) → w.grownBy w' v.ownBlock → NewBlk w v v' → wpList Tryz.prog ops Q rest (ac.put o.dst v') w') : wpList Tryz.prog ops Q (o :: rest) ac w := by
  obtain ⟨i0, hi, hz0, hz1, hz2⟩ := info_parts info_u8
  cases a with
  | none =>
    have hn : n = 0 := hr.2.2.2.elim id (fun ⟨b, off, e, _⟩ => by cases e)
    subst hn
    rw [h0 rfl] at hx
    have hl : l = [] := List.eq_nil_of_length_eq_zero hr.1.symm
    subst hl
    refine wpList_append_own_none hgd s x 24 ho base 5 i0 1 Tryz.underlying24 hi v xs.length (B8 xs) hs hown hx ?_
    refine h v w (by simpa using hown) ⟨rfl, rfl, rfl, Nat.le_refl _, fun _ _ _ => rfl⟩ (.inl rfl)
  | some ad =>
    refine wpList_append_own2 hgd s x 24 ho base 5 i0 (.int .u8 0) 1 1 Tryz.underlying24 hi hz0 hz1 hz2 rfl (by decide) v xs.length (B8 xs) hs hown ad n c (B8 l) hx (by rw [B8_length, hr.1]; simp) hr.cells (B8_one l) (by unfold maxLen; omega) (by omega) hbase ?_
    intro v' w' h1 h2 h3
    refine h v' w' ?_ h2 h3
    rw [← B8_append] at h1
    rw [List.length_append, ← hr.1]
    exact h1

/-- what a row of the call's own reads -/
theorem ownsRow_rd {w : World} {base : Nat} {v : Value} {l : List Nat} (h : w.ownsRow base 5 1 v l.length (B8 l)) (hd : ∀ d ∈ l, d < 256) (hs : l.length < 281474976710656) :
    ∃ a c, v = .slice a l.length c ∧ Rd w a l.length l ∧ (a = none → c = 0) ∧ l.length ≤ c ∧ (∀ ad, a = some ad → ∃ g, ad = ⟨g, 0, none⟩ ∧ base ≤ g) := by
  rcases h.2 with ⟨rfl, h0⟩ | ⟨g, cap, cur, rfl, hb, hg, hc, _, hcs, htk⟩
  · exact ⟨none, 0, by rw [h0], ⟨rfl, hs, hd, .inl h0⟩, fun _ => rfl, by omega, (fun ad e => by cases e)⟩
  · refine ⟨_, cap, rfl, ⟨rfl, hs, hd, .inr ⟨g, 0, rfl, fun i hi => ?_⟩⟩, (fun e => by cases e), hc, (fun ad e => ⟨g, (by injection e with e; exact e.symm), hb⟩)⟩
    have := h.cells (g := g) rfl i (.int .u8 ((l.getD i 0 : Nat) : Int)) (B8_at l i hi)
    rw [Addr.add_lit] at this
    exact this

/-- the blocks of a writer: its own, and the row that it has laid in -/
def Wset (p : Nat) (v : Value) (k : Nat) : Prop := k = p ∨ v.ownBlock = some k

/-- a writer in memory -/
structure Wr (w : World) (p : Nat) (v : Value) (s : K.WS) : Prop where
  blk : w.heap[p]? = some (.cells #[v, .int .i64 (s.most : Nat), .int .i64 (s.fault : Nat)] 128 (0, 0))
  row : w.ownsRow 0 5 1 v s.laid.length (B8 s.laid)
  byt : ∀ d ∈ s.laid, d < 256
  len : s.laid.length ≤ s.most
  top : s.most ≤ 16777216

theorem Wr.ne {w : World} {p : Nat} {v : Value} {s : K.WS} (h : Wr w p v s) : v.ownBlock ≠ some p := by
  intro e
  rcases h.row.2 with ⟨rfl, _⟩ | ⟨g, cap, cur, rfl, _, hg, _⟩
  · cases e
  · simp only [Value.ownBlock, Option.some.injEq] at e
    subst e
    rw [h.blk] at hg
    simp at hg

theorem Wr.keep {w w' : World} {p : Nat} {v : Value} {s : K.WS} (h : Wr w p v s) {S : Nat → Prop} (hk : Keep S w w') (hS : ∀ k, Wset p v k → ¬ S k) : Wr w' p v s := by
  refine ⟨hk.blk h.blk (hS p (.inl rfl)), ?_, h.byt, h.len, h.top⟩
  refine ⟨h.row.1, ?_⟩
  rcases h.row.2 with h' | ⟨g, cap, cur, rfl, hb, hg, rest⟩
  · exact .inl h'
  · exact .inr ⟨g, cap, cur, rfl, hb, hk.blk hg (hS g (.inr rfl)), rest⟩

/-- a writer at p, in a world that came of w0 by what writing does -/
structure WAt (S : Nat → Prop) (w0 : World) (p : Nat) (s : K.WS) (w : World) : Prop where
  keep : Keep S w0 w
  wr : ∃ v, Wr w p v s ∧ ∀ k, Wset p v k → S k ∨ w0.heap.size ≤ k

/-- whatever else is done, the writer's blocks untouched -/
theorem WAt.other {S : Nat → Prop} {w0 : World} {p : Nat} {s : K.WS} {w w' : World} (h : WAt S w0 p s w) {T : Nat → Prop} (hk : Keep T w w') (hT : ∀ k, T k → w.heap.size ≤ k) : WAt S w0 p s w' := by
  obtain ⟨v, hv, hs⟩ := h.wr
  refine ⟨h.keep.trans hk fun i hi => .inr (Nat.le_trans h.keep.size (hT i hi)), v, hv.keep hk fun k hw ht => ?_, hs⟩
  have := hT k ht
  rcases hw with rfl | hw
  · have := (Array.getElem?_eq_some_iff.1 hv.blk).1; omega
  · have := (hv.row.lt k hw).2; omega

theorem WAt.below {S : Nat → Prop} {w0 : World} {p : Nat} {s : K.WS} {w w' : World} (h : WAt S w0 p s w) (hb : Below w.heap.size w w') : WAt S w0 p s w' :=
  h.other (T := fun _ => False) (Keep.ofBelow hb (Nat.le_refl _)) fun _ h => h.elim

/-- a reader in memory: bytes of its own -/
structure Rr (w : World) (q : Nat) (s : K.RS) : Prop where
  ex : ∃ a c, w.heap[q]? = some (.cells #[.slice a s.data.length c, .int .i64 (s.taken : Nat), .int .i64 (s.fault : Nat)] 136 (0, 0)) ∧ Rd w a s.data.length s.data ∧ (a = none → c = 0) ∧ s.data.length ≤ c ∧ (∀ b off, a = some ⟨b, off, none⟩ → b < q)
  tak : s.taken ≤ s.data.length
  top : s.data.length ≤ 16777216

theorem Rr.stay {w w' : World} {q : Nat} {s : K.RS} (h : Rr w q s) {S : Nat → Prop} (hk : Keep S w w') (hq : ∀ k, k ≤ q → ¬ S k) : Rr w' q s := by
  obtain ⟨a, c, h1, h2, h3, h4, h5⟩ := h.ex
  exact ⟨⟨a, c, hk.blk h1 (hq q (Nat.le_refl _)), h2.stay hk fun b off e => hq b (Nat.le_of_lt (h5 b off e)), h3, h4, h5⟩, h.tak, h.top⟩
theorem Rr.lt {w : World} {q : Nat} {s : K.RS} (h : Rr w q s) : q < w.heap.size := by
  obtain ⟨a, c, h1, _⟩ := h.ex
  exact (Array.getElem?_eq_some_iff.1 h1).1
theorem Rr.keep {w w' : World} {q : Nat} {s : K.RS} (h : Rr w q s) {S : Nat → Prop} (hk : Keep S w w') (hq : ∀ k, k < w.heap.size → ¬ S k) : Rr w' q s :=
  h.stay hk fun k hk => hq k (Nat.lt_of_le_of_lt hk h.lt)

end Go.Proofs.YtbjcckfhfbjchaaGreat
