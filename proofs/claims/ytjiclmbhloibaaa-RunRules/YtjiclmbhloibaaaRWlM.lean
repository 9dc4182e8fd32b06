/- RunRules: what stands between its steps. -/
import Derived.Test.YtjiclmbhloibaaaRRuM
import Derived.Test.YtjiclmbhloibaaaRSam
import Derived.Test.YtjiclmbhloibaaaRAwk
import Derived.Test.YtjiclmbhloibaaaRSma
import Derived.Test.YtjiclmbhloibaaaROpd
import Derived.Test.YtjiclmbhloibaaaRPlp
import Derived.Test.YtjiclmbhloibaaaRStp
namespace Go.Proofs.Ytjiclmbhloibaaa
namespace Rn
open Go.RowKit Gr

theorem RunAt.less {T U : Nat → Prop} {w : World} {P G : Nat} {nm : ByteArray} {dl : Int} {s : Option Addr × Nat × Nat} {xs : List No} {R : Rs} (h : RunAt U w P G nm dl s xs R) (hT : ∀ k, T k → U k) (hP : T P) (hG : T G) : RunAt T w P G nm dl s xs R :=
  ⟨h.blk, h.prt, fun i p hi => by obtain ⟨m, hm⟩ := h.pts i p hi; exact ⟨m, hm.cells, hm.rd, hm.off.mono hT, hm.cap⟩, h.pln, ⟨h.offp.1.mono hT, fun x hx => ⟨(h.offp.2 x hx).1.mono hT, (h.offp.2 x hx).2.mono hT⟩⟩, h.len, h.ne, hP, hG, h.val, h.n1⟩
/-- the run, and what was told of it, in memory; w1: the world from which on nothing below is touched -/
structure Fr (T : Nat → Prop) (w1 : World) (P G : Nat) (nm : ByteArray) (dl : Int) (s : Option Addr × Nat × Nat) (xs : List No) (R : Rs) (v : Value) (ps : List Pt) (w : World) : Prop where
  run : RunAt T w P G nm dl s xs R
  td : ∃ b, TdAt b w v ps
  bel : Below w1.heap.size w1 w
  hi : w1.heap.size ≤ P ∧ w1.heap.size ≤ G
  lt : ∀ k, T k → k < w.heap.size
section
variable {T : Nat → Prop} {w1 w w' : World} {P G : Nat} {nm : ByteArray} {dl : Int} {s : Option Addr × Nat × Nat} {xs : List No} {R R' : Rs} {v : Value} {ps : List Pt}
theorem Fr.new (h : Fr T w1 P G nm dl s xs R v ps w) (k : Keep (fun _ => False) w w') : Fr T w1 P G nm dl s xs R v ps w' :=
  ⟨h.run.new k, by obtain ⟨b, hb⟩ := h.td; exact ⟨b, hb.keep k (fun _ _ f => f.elim)⟩, h.bel.trans (k.below h.bel.size fun _ f => f.elim), h.hi, fun i hi => Nat.lt_of_lt_of_le (h.lt i hi) k.size⟩
theorem Fr.step (h : Fr T w1 P G nm dl s xs R v ps w) (k : Keep (fun k => k = P ∨ k = G) w w') (hr : RunAt T w' P G nm dl s xs R') : Fr T w1 P G nm dl s xs R' v ps w' := by
  refine ⟨hr, ?_, h.bel.trans (k.below h.bel.size fun i hi => ?_), h.hi, fun i hi => Nat.lt_of_lt_of_le (h.lt i hi) k.size⟩
  · obtain ⟨b, hb⟩ := h.td
    obtain ⟨c, h1⟩ := h.run.blk
    obtain ⟨c2, h2⟩ := h.run.prt
    refine ⟨b, hb.keep k fun i cur hi => ?_⟩
    rcases hi with rfl | rfl
    · rw [h1]
      exact ⟨fun e => (by injection e with e; injection e with _ e _; exact absurd e (by decide)), fun e => (by injection e with e; injection e with _ e _; exact absurd e (by decide))⟩
    · rw [h2]
      exact ⟨fun e => (by injection e with e; injection e with _ e _; exact absurd e (by decide)), fun e => (by injection e with e; injection e with _ e _; exact absurd e (by decide))⟩
  · have := h.hi; omega
/-- a block that runs may write, of another type, is written -/
theorem Fr.put (h : Fr T w1 P G nm dl s xs R v ps w) {D : Nat} {cs : Array Value} (hD : w.heap[D]? = some (.cells cs 31 (0, 0))) (hT : T D) (hw : w1.heap.size ≤ D) (hP : D ≠ P) (hG : D ≠ G) (k : Keep (fun k => k = D) w w') : Fr T w1 P G nm dl s xs R v ps w' := by
  refine ⟨h.run.keep k fun i hi => ?_, ?_, h.bel.trans (k.below h.bel.size fun i hi => by omega), h.hi, fun i hi => Nat.lt_of_lt_of_le (h.lt i hi) k.size⟩
  · subst hi; exact .inr ⟨hT, hP, hG⟩
  · obtain ⟨b, hb⟩ := h.td
    refine ⟨b, hb.keep k fun i cur hi => ?_⟩
    subst hi
    rw [hD]
    exact ⟨fun e => (by injection e with e; injection e with _ e _; exact absurd e (by decide)), fun e => (by injection e with e; injection e with _ e _; exact absurd e (by decide))⟩
theorem Fr.wide (h : Fr T w1 P G nm dl s xs R v ps w) (k : Keep (fun _ => False) w w') {D : Nat} (hD : w.heap.size ≤ D) (hD2 : D < w'.heap.size) : Fr (fun i => T i ∨ i = D) w1 P G nm dl s xs R v ps w' := by
  have h2 := h.new k
  exact ⟨(h.run.wide (U := fun i => T i ∨ i = D) (fun i hi => hi.imp id fun e => by omega) (.inl h.run.tp) (.inl h.run.tg)).new k, h2.td, h2.bel, h2.hi, fun i hi => by
    rcases hi with hi | hi
    · exact h2.lt i hi
    · omega⟩
theorem Fr.less {D : Nat} (h : Fr (fun i => T i ∨ i = D) w1 P G nm dl s xs R v ps w) (hP : T P) (hG : T G) : Fr T w1 P G nm dl s xs R v ps w :=
  ⟨h.run.less (fun _ hk => .inl hk) hP hG, h.td, h.bel, h.hi, fun i hi => h.lt i (.inl hi)⟩
theorem Fr.told (h : Fr T w1 P G nm dl s xs R v ps w) (k : Keep (fun _ => False) w w') {b : Nat} {v' : Value} {qs : List Pt} (ht : TdAt b w' v' qs) : Fr T w1 P G nm dl s xs R v' qs w' := by
  have h2 := h.new k
  exact ⟨h2.run, ⟨b, ht⟩, h2.bel, h2.hi, h2.lt⟩
theorem Fr.rdt (h : Fr T w1 P G nm dl s xs R v ps w) (hb : ∀ p ∈ ps, (∀ d ∈ p.rs, d < 256) ∧ p.rs.length ≤ 1000) : ∃ a c, v = .slice a ps.length c ∧ RdT w (a, ps.length, c) ps := by
  obtain ⟨b, h⟩ := h.td
  exact h.rd hb
end
/-- what stands behind a step of the script: D: the change's box, O: the step's -/
structure Md (T : Nat → Prop) (D O : Nat) (q : Sp) (w1 : World) (P G : Nat) (nm : ByteArray) (dl : Int) (s : Option Addr × Nat × Nat) (xs : List No) (out : (Chg × Int × Int) × Rs) (v : Value) (ps : List Pt) (w : World) : Prop where
  fr : Fr (fun i => T i ∨ i = D) w1 P G nm dl s xs out.2 v ps w
  op : w.heap[O]? = some (.cells #[.int .i64 q.k, .int .i64 q.on, .int .i64 q.to, .int .i64 q.i, .slice q.ra q.res.length q.rc] 45 (0, 0))
  ch : ∃ (d sk r : Option Addr × Nat × Nat) (st : Int), w.heap[D]? = some (.cells #[.slice d.1 d.2.1 d.2.2, .slice sk.1 sk.2.1 sk.2.2, .slice r.1 r.2.1 r.2.2, .int .i64 st] 31 (0, 0)) ∧ LsX (fun i => T i ∨ i = D) w d out.1.1.dead
section
variable {T : Nat → Prop} {w1 w w' : World} {D O P G : Nat} {q : Sp} {nm : ByteArray} {dl : Int} {s : Option Addr × Nat × Nat} {xs : List No} {R : Rs} {v : Value} {ps : List Pt} {out : (Chg × Int × Int) × Rs}
theorem Md.new (h : Md T D O q w1 P G nm dl s xs out v ps w) (k : Keep (fun _ => False) w w') : Md T D O q w1 P G nm dl s xs out v ps w' := by
  refine ⟨h.fr.new k, k.blk h.op (fun f => f), ?_⟩
  obtain ⟨d, sk, r, st, h1, h2, h3⟩ := h.ch
  exact ⟨d, sk, r, st, k.blk h1 (fun f => f), (h2.new k).mono k.size, h3⟩
theorem Md.put (h : Fr (fun i => T i ∨ i = D) w1 P G nm dl s xs R v ps w) (hop : w.heap[O]? = some (.cells #[.int .i64 q.k, .int .i64 q.on, .int .i64 q.to, .int .i64 q.i, .slice q.ra q.res.length q.rc] 45 (0, 0)))
    {cs : Array Value} (hD : w.heap[D]? = some (.cells cs 31 (0, 0))) (hcs : cs.size = 4) (hw : w1.heap.size ≤ D) {o : (Chg × Int) × Rs} (hr : RunAt (fun i => T i ∨ i = D) w' P G nm dl s xs o.2) (k : Keep (fun k => k = P ∨ k = G) w w')
    {d sk r : Option Addr × Nat × Nat} {st : Int} (hd : LsX (fun i => T i ∨ i = D) w' d o.1.1.dead) : Md T D O q w1 P G nm dl s xs ((o.1.1, 0, o.1.2), o.2) v ps (put4 w' D (.slice d.1 d.2.1 d.2.2) (.slice sk.1 sk.2.1 sk.2.2) (.slice r.1 r.2.1 r.2.2) (.int .i64 st)) := by
  obtain ⟨c1, hb1⟩ := h.run.blk
  obtain ⟨c2, hb2⟩ := h.run.prt
  have n1 : D ≠ P := fun e => by subst e; rw [hb1] at hD; injection hD with e; injection e with _ e _; exact absurd e (by decide)
  have n2 : D ≠ G := fun e => by subst e; rw [hb2] at hD; injection hD with e; injection e with _ e _; exact absurd e (by decide)
  have n3 : O ≠ P := fun e => by subst e; rw [hb1] at hop; injection hop with e; injection e with _ e _; exact absurd e (by decide)
  have n4 : O ≠ G := fun e => by subst e; rw [hb2] at hop; injection hop with e; injection e with _ e _; exact absurd e (by decide)
  have n5 : O ≠ D := fun e => by subst e; rw [hD] at hop; injection hop with e; injection e with _ e _; exact absurd e (by decide)
  have hD' := k.blk hD (fun f => by rcases f with f | f; exact n1 f; exact n2 f)
  have hO' := k.blk hop (fun f => by rcases f with f | f; exact n3 f; exact n4 f)
  have kp := put4_keep w' D (.slice d.1 d.2.1 d.2.2) (.slice sk.1 sk.2.1 sk.2.2) (.slice r.1 r.2.1 r.2.2) (.int .i64 st)
  obtain ⟨x0, x1, x2, x3, rfl⟩ : ∃ x0 x1 x2 x3, cs = #[x0, x1, x2, x3] := by
    obtain ⟨l⟩ := cs
    match l, hcs with
    | [x0, x1, x2, x3], _ => exact ⟨x0, x1, x2, x3, rfl⟩
  refine ⟨(h.step k hr).put hD' (.inr rfl) hw n1 n2 kp, kp.blk hO' n5, d, sk, r, st, put4_blk hD' _ _ _ _, rdz_keep kp (fun i hi => .inr ⟨.inr hi, fun e => n1 (hi ▸ e), fun e => n2 (hi ▸ e)⟩) hd.2 hd.1, hd.2⟩
theorem Md.still (h : Fr (fun i => T i ∨ i = D) w1 P G nm dl s xs R v ps w) (hop : w.heap[O]? = some (.cells #[.int .i64 q.k, .int .i64 q.on, .int .i64 q.to, .int .i64 q.i, .slice q.ra q.res.length q.rc] 45 (0, 0)))
    (hD : w.heap[D]? = some (.cells #[.slice none 0 0, .slice none 0 0, .slice none 0 0, .int .i64 0] 31 (0, 0))) (a b : Int) : Md T D O q w1 P G nm dl s xs ((Chg.none, a, b), R) v ps w :=
  ⟨h, hop, (none, 0, 0), (none, 0, 0), (none, 0, 0), 0, hD, ls_nil _ _⟩
theorem Md.lease (h : Fr (fun i => T i ∨ i = D) w1 P G nm dl s xs R v ps w) (hop : w.heap[O]? = some (.cells #[.int .i64 q.k, .int .i64 q.on, .int .i64 q.to, .int .i64 q.i, .slice q.ra q.res.length q.rc] 45 (0, 0)))
    (hD : w.heap[D]? = some (.cells #[.slice none 0 0, .slice none 0 0, .slice none 0 0, .int .i64 0] 31 (0, 0))) {R' : Rs} (hr : RunAt (fun i => T i ∨ i = D) w' P G nm dl s xs R') (k : Keep (fun k => k = G) w w') (a b : Int) : Md T D O q w1 P G nm dl s xs ((Chg.none, a, b), R') v ps w' := by
  obtain ⟨c2, hb2⟩ := h.run.prt
  have n2 : D ≠ G := fun e => by subst e; rw [hb2] at hD; injection hD with e; injection e with _ e _; exact absurd e (by decide)
  have n4 : O ≠ G := fun e => by subst e; rw [hb2] at hop; injection hop with e; injection e with _ e _; exact absurd e (by decide)
  exact Md.still (h.step (k.mono fun _ e => .inr e) hr) (k.blk hop n4) (k.blk hD n2) a b
/-- what a step's call leaves for the store of its change -/
def SpE (T : Nat → Prop) (D O : Nat) (q : Sp) (w1 : World) (P G : Nat) (nm : ByteArray) (dl : Int) (s : Option Addr × Nat × Nat) (xs : List No) (o : (Chg × Int) × Rs) (v : Value) (ps : List Pt) (e : Ending) (w' : World) : Prop :=
  ∃ d sk r : Option Addr × Nat × Nat, e = .returned (.tuple #[.agg #[.slice d.1 d.2.1 d.2.2, .slice sk.1 sk.2.1 sk.2.2, .slice r.1 r.2.1 r.2.2, .int .i64 o.1.1.stt], .int .i64 o.1.2]) ∧ w'.heap[D]? = some (.cells #[.slice none 0 0, .slice none 0 0, .slice none 0 0, .int .i64 0] 31 (0, 0)) ∧
    (w'.cell? ⟨O, 3, none⟩ = some (.int .i64 q.i) ∧ w'.cell? ⟨O, 4, none⟩ = some (.slice q.ra q.res.length q.rc)) ∧
    Md T D O q w1 P G nm dl s xs ((o.1.1, 0, o.1.2), o.2) v ps (put4 w' D (.slice d.1 d.2.1 d.2.2) (.slice sk.1 sk.2.1 sk.2.2) (.slice r.1 r.2.1 r.2.2) (.int .i64 o.1.1.stt))
theorem stp_md (h : Fr (fun i => T i ∨ i = D) w1 P G nm dl s xs R v ps w) (hop : w.heap[O]? = some (.cells #[.int .i64 q.k, .int .i64 q.on, .int .i64 q.to, .int .i64 q.i, .slice q.ra q.res.length q.rc] 45 (0, 0)))
    (hD : w.heap[D]? = some (.cells #[.slice none 0 0, .slice none 0 0, .slice none 0 0, .int .i64 0] 31 (0, 0))) (hw : w1.heap.size ≤ D) {o : (Chg × Int) × Rs} {e : Ending} (hs : Stp (fun i => T i ∨ i = D) w P G nm dl s xs o e w') : SpE T D O q w1 P G nm dl s xs o v ps e w' := by
  obtain ⟨v', rfl, ⟨d, sk, r, rfl, ld, _, _⟩, hr, k⟩ := hs
  have M := Md.put h hop hD rfl hw hr k (d := d) (sk := sk) (r := r) (st := o.1.1.stt) ld
  obtain ⟨c1, hb1⟩ := h.run.blk
  obtain ⟨c2, hb2⟩ := h.run.prt
  have n1 : D ≠ P := fun e => by subst e; rw [hb1] at hD; injection hD with e; injection e with _ e _; exact absurd e (by decide)
  have n2 : D ≠ G := fun e => by subst e; rw [hb2] at hD; injection hD with e; injection e with _ e _; exact absurd e (by decide)
  have n3 : O ≠ P := fun e => by subst e; rw [hb1] at hop; injection hop with e; injection e with _ e _; exact absurd e (by decide)
  have n4 : O ≠ G := fun e => by subst e; rw [hb2] at hop; injection hop with e; injection e with _ e _; exact absurd e (by decide)
  have hD' := k.blk hD (fun f => by rcases f with f | f; exact n1 f; exact n2 f)
  have hO' := k.blk hop (fun f => by rcases f with f | f; exact n3 f; exact n4 f)
  exact ⟨d, sk, r, rfl, hD', ⟨cell_blk hO' 3 rfl, cell_blk hO' 4 rfl⟩, M⟩
end
/-- what a copy of a small plan gives -/
structure Cp (nm : ByteArray) (dl : Int) (xs ys : List No) (s : Option Addr × Nat × Nat) (w : World) : Prop where
  rd : RdP w.heap.size w s ys
  cap : CapP ys
  sz : Sz nm ys
  ln : ∀ y ∈ ys, y.nl.length ≤ 20000 ∧ y.al.length ≤ 20000
  er : ys.map er = xs.map er
  chk : chk nm dl ys = chk nm dl xs
theorem mem_er {xs ys : List No} (h : ys.map er = xs.map er) {y : No} (hy : y ∈ ys) : ∃ x ∈ xs, y.nl = x.nl ∧ y.al = x.al ∧ y.q.nm = x.q.nm := by
  have : er y ∈ xs.map er := by rw [← h]; exact List.mem_map_of_mem hy
  obtain ⟨x, hx, ex⟩ := List.mem_map.1 this
  exact ⟨x, hx, (show (er y).nl = (er x).nl from congrArg No.nl ex.symm), (show (er y).al = (er x).al from congrArg No.al ex.symm), (show (er y).q.nm = (er x).q.nm from congrArg (fun z : No => z.q.nm) ex.symm)⟩
theorem cp_of {nm : ByteArray} {dl : Int} {xs ys : List No} {a : Option Addr} {n c B : Nat} {w : World} (h : NdX B w (.slice a n c) ys) (he : ys.map er = xs.map er) (hl : xs.length ≤ 20000) (hz : ∀ x ∈ xs, x.nl.length ≤ 20000 ∧ x.al.length ≤ 20000) (hs : Sz nm xs) : Cp nm dl xs ys (a, n, c) w := by
  have hyl : ys.length = xs.length := by have := congrArg List.length he; simpa using this
  have ln : ∀ y ∈ ys, y.nl.length ≤ 20000 ∧ y.al.length ≤ 20000 := fun y hy => by
    obtain ⟨x, hx, e1, e2, _⟩ := mem_er he hy
    rw [e1, e2]; exact hz x hx
  refine ⟨(h.rd (by omega) fun y hy => by have := ln y hy; omega).1, fun y hy => ?_, ⟨hs.1, fun y hy => ?_⟩, ln, he, ?_⟩
  · have := ln y hy
    exact ⟨(own_int_rd (h.2 y hy).1 (by omega)).2.2, (own_int_rd (h.2 y hy).2 (by omega)).2.2⟩
  · obtain ⟨x, hx, _, _, e⟩ := mem_er he hy
    rw [e]; exact hs.2 x hx
  · rw [← chk_er nm dl ys, he, chk_er]
theorem ng_er {xs ys : List No} (h : ys.map er = xs.map er) : ng ys = ng xs := funext fun i => by
  have h1 : (ys.map er)[i]? = (xs.map er)[i]? := by rw [h]
  rw [List.getElem?_map, List.getElem?_map] at h1
  unfold ng
  cases hy : ys[i]? with
  | none => cases hx : xs[i]? with
    | none => rfl
    | some x => rw [hy, hx] at h1; cases h1
  | some y => cases hx : xs[i]? with
    | none => rw [hy, hx] at h1; cases h1
    | some x =>
      rw [hy, hx] at h1
      have e : er y = er x := Option.some.inj h1
      have e2 : y.nl = x.nl := (show (er y).nl = (er x).nl from congrArg No.nl e)
      simp only [e2]
theorem below_of {nm : ByteArray} {dl : Int} {xs ys : List No} {s : Option Addr × Nat × Nat} {w : World} (h : Cp nm dl xs ys s w) (hck : (Gr.chk nm dl xs).2 = 0) (nd : Int) (h0 : 0 ≤ nd ∧ nd < xs.length) :
    Calls Try.prog 23 #[.agg #[.string nm, .int .i64 dl, .slice s.1 s.2.1 s.2.2], .int .i64 nd] w fun e w' => ∃ ba bc, e = .returned (.tuple #[.slice ba (bel xs nd.toNat xs.length).length bc, .int .i64 0]) ∧ RdZ w'.heap.size w' (ba, (bel xs nd.toNat xs.length).length, bc) ((bel xs nd.toNat xs.length).map fun x : Nat => (x : Int)) ∧ Keep (fun _ => False) w w' := by
  have hyl : ys.length = xs.length := by have := congrArg List.length h.er; simpa using this
  have e0 : belC nm dl ys nd = 0 := by
    unfold belC
    rw [h.chk, if_neg (by simpa using hck), if_pos ⟨h0.1, by rw [hyl]; exact h0.2⟩]
  have hb : bel ys nd.toNat ys.length = bel xs nd.toNat xs.length := by unfold bel; rw [ng_er h.er, hyl]
  have h64 := (chk_ok hck).2.2.2.1.1
  refine (below_any nm dl s ys nd _ w h.rd (Nat.le_refl _) h.sz).mono ?_
  rintro e w' ⟨l, v, rfl, ho, _, hl, k⟩
  have hl := (hl e0).trans hb
  subst hl
  obtain ⟨ba, bc, rfl, hr⟩ := ownsRow_rd ho (by have := bel_len xs nd.toNat xs.length; omega)
  exact ⟨ba, bc, by rw [e0]; rfl, hr, k⟩
end Rn
end Go.Proofs.Ytjiclmbhloibaaa
