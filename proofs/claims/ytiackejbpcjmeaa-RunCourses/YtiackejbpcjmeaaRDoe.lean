/- The laws' does: a step of a run. -/
import Derived.Test.YtiackejbpcjmeaaROpd
import Derived.Test.YtiackejbpcjmeaaRStp
import Derived.Test.YtiackejbpcjmeaaRPlp
import Derived.Deep.CutRange
namespace Go.Proofs.Ytiackejbpcjmeaa
namespace Rn
open Go.RowKit Gr

theorem RunAt.les {T U : Nat → Prop} {w : World} {P G : Nat} {nm : ByteArray} {dl : Int} {s : Option Addr × Nat × Nat} {xs : List No} {R : Rs} (h : RunAt U w P G nm dl s xs R) (hT : ∀ k, T k → U k) (hP : T P) (hG : T G) : RunAt T w P G nm dl s xs R :=
  ⟨h.blk, h.prt, fun i p hi => by obtain ⟨m, hm⟩ := h.pts i p hi; exact ⟨m, hm.cells, hm.rd, hm.off.mono hT, hm.cap⟩, h.pln, ⟨h.offp.1.mono hT, fun x hx => ⟨(h.offp.2 x hx).1.mono hT, (h.offp.2 x hx).2.mono hT⟩⟩, h.len, h.ne, hP, hG, h.val, h.n1⟩
theorem LsX.less {T U : Nat → Prop} {w : World} {s : Option Addr × Nat × Nat} {l : List Nat} (h : LsX U w s l) (hT : ∀ k, T k → U k) : LsX T w s l := ⟨h.1, h.2.mono hT⟩
/-- what a step of the laws' leaves and tells -/
def DoE (T : Nat → Prop) (w : World) (P G : Nat) (nm : ByteArray) (dl : Int) (s : Option Addr × Nat × Nat) (xs : List No) (out : (Chg × Int × Int) × Rs) (e : Ending) (w' : World) : Prop :=
  ∃ v, e = .returned (.tuple #[v, .int .i64 out.1.2.1, .int .i64 out.1.2.2]) ∧ ChgAt T w' v out.1.1 ∧ RunAt T w' P G nm dl s xs out.2 ∧ Keep (fun k => k = P ∨ k = G) w w'
theorem res_chg3 {fn : Func} {p u v : Tmp} (h : fn.results = #[.cell p 45, .tmp u, .tmp v]) (tmps : Array Value) (w : World) (g : Nat) (a b c d : Value) (hp : tmps.getD p undef = .pointer (some ⟨g, 0, none⟩)) (hg : w.heap[g]? = some (.cells #[a, b, c, d] 45 (0, 0))) :
    (results fn tmps).run Try.prog w = .ok (.tuple #[.agg #[a, b, c, d], tmps.getD u undef, tmps.getD v undef]) w := by
  have hp' : tmps[p]?.getD undef = .pointer (some ⟨g, 0, none⟩) := by simpa using hp
  simp [results, h, hp', asAddr, run_loadVar_row w g 45 45 #[a, b, c, d] (0, 0) _ hg Try.underlying45 rfl (by rw [info_chg]; rfl)]
/-- the change is laid into its cell -/
theorem doe_end {T U : Nat → Prop} {w w5 : World} {P G D : Nat} {nm : ByteArray} {dl : Int} {s : Option Addr × Nat × Nat} {xs : List No} {R : Rs} (hT : ∀ k, T k → k < w.heap.size) (hP : T P) (hG : T G) (hD : w.heap.size ≤ D) (hU : ∀ k, T k → U k) (hUD : U D) {x0 x1 x2 x3 : Value} (hblk : w5.heap[D]? = some (.cells #[x0, x1, x2, x3] 45 (0, 0))) (h : RunAt U w5 P G nm dl s xs R)
    {d k r : Option Addr × Nat × Nat} {c : Chg} (hd : LsX U w5 d c.dead) (hk : LsX U w5 k c.skip) (hr : LsX U w5 r c.rdy) (hK : Keep (fun k => k = P ∨ k = G ∨ w.heap.size ≤ k) w w5) :
    (put4 w5 D (.slice d.1 d.2.1 d.2.2) (.slice k.1 k.2.1 k.2.2) (.slice r.1 r.2.1 r.2.2) (.int .i64 c.stt)).heap[D]? = some (.cells #[.slice d.1 d.2.1 d.2.2, .slice k.1 k.2.1 k.2.2, .slice r.1 r.2.1 r.2.2, .int .i64 c.stt] 45 (0, 0)) ∧ ChgAt T (put4 w5 D (.slice d.1 d.2.1 d.2.2) (.slice k.1 k.2.1 k.2.2) (.slice r.1 r.2.1 r.2.2) (.int .i64 c.stt)) (.agg #[.slice d.1 d.2.1 d.2.2, .slice k.1 k.2.1 k.2.2, .slice r.1 r.2.1 r.2.2, .int .i64 c.stt]) c ∧ RunAt T (put4 w5 D (.slice d.1 d.2.1 d.2.2) (.slice k.1 k.2.1 k.2.2) (.slice r.1 r.2.1 r.2.2) (.int .i64 c.stt)) P G nm dl s xs R ∧ Keep (fun k => k = P ∨ k = G) w (put4 w5 D (.slice d.1 d.2.1 d.2.2) (.slice k.1 k.2.1 k.2.2) (.slice r.1 r.2.1 r.2.2) (.int .i64 c.stt)) := by
  have hPl := hT P hP
  have hGl := hT G hG
  have kk := put4_keep w5 D (.slice d.1 d.2.1 d.2.2) (.slice k.1 k.2.1 k.2.2) (.slice r.1 r.2.1 r.2.2) (.int .i64 c.stt)
  have hS : ∀ i, i = D → U i := fun i hi => by subst hi; exact hUD
  refine ⟨put4_blk hblk _ _ _ _, ⟨d, k, r, rfl, (hd.keep kk fun i hi => .inr (hS i hi)).less hU, (hk.keep kk fun i hi => .inr (hS i hi)).less hU, (hr.keep kk fun i hi => .inr (hS i hi)).less hU⟩, (h.keep kk fun i hi => .inr ⟨hS i hi, fun e => by omega, fun e => by omega⟩).les hU hP hG, ?_⟩
  have k2 := hK.more (kk.mono fun i hi => .inr (.inr (by omega)))
  exact ⟨k2.os, k2.tape, k2.output, k2.size, fun j hj hn => k2.block j hj fun hs => by
    rcases hs with h | h | h
    · exact hn (.inl h)
    · exact hn (.inr h)
    · omega⟩
/-- what a call of a step leaves for its end: E is the box of its change -/
theorem stp_doe {T : Nat → Prop} {w wb : World} {P G D : Nat} {nm : ByteArray} {dl : Int} {s : Option Addr × Nat × Nat} {xs : List No} (hT : ∀ k, T k → k < w.heap.size) (hP : T P) (hG : T G) (hD : w.heap.size ≤ D) (hblk : wb.heap[D]? = some (.cells #[.slice none 0 0, .slice none 0 0, .slice none 0 0, .int .i64 0] 45 (0, 0))) (kb : Keep (fun _ => False) w wb) {o : (Chg × Int) × Rs} {e : Ending} {w4 : World} (hs : Stp (fun k => T k ∨ k = D) wb P G nm dl s xs o e w4) :
    ∃ d k r : Option Addr × Nat × Nat, e = .returned (.tuple #[.agg #[.slice d.1 d.2.1 d.2.2, .slice k.1 k.2.1 k.2.2, .slice r.1 r.2.1 r.2.2, .int .i64 o.1.1.stt], .int .i64 o.1.2]) ∧ w4.heap[D]? = some (.cells #[.slice none 0 0, .slice none 0 0, .slice none 0 0, .int .i64 0] 45 (0, 0)) ∧ Keep (fun k => k = P ∨ k = G) wb w4 ∧
      ∀ w5, Keep (fun _ => False) w4 w5 → w5.heap[D]? = some (.cells #[.slice none 0 0, .slice none 0 0, .slice none 0 0, .int .i64 0] 45 (0, 0)) ∧ ((put4 w5 D (.slice d.1 d.2.1 d.2.2) (.slice k.1 k.2.1 k.2.2) (.slice r.1 r.2.1 r.2.2) (.int .i64 o.1.1.stt)).heap[D]? = some (.cells #[.slice d.1 d.2.1 d.2.2, .slice k.1 k.2.1 k.2.2, .slice r.1 r.2.1 r.2.2, .int .i64 o.1.1.stt] 45 (0, 0)) ∧ ChgAt T (put4 w5 D (.slice d.1 d.2.1 d.2.2) (.slice k.1 k.2.1 k.2.2) (.slice r.1 r.2.1 r.2.2) (.int .i64 o.1.1.stt)) (.agg #[.slice d.1 d.2.1 d.2.2, .slice k.1 k.2.1 k.2.2, .slice r.1 r.2.1 r.2.2, .int .i64 o.1.1.stt]) o.1.1 ∧ RunAt T (put4 w5 D (.slice d.1 d.2.1 d.2.2) (.slice k.1 k.2.1 k.2.2) (.slice r.1 r.2.1 r.2.2) (.int .i64 o.1.1.stt)) P G nm dl s xs o.2 ∧ Keep (fun k => k = P ∨ k = G) w (put4 w5 D (.slice d.1 d.2.1 d.2.2) (.slice k.1 k.2.1 k.2.2) (.slice r.1 r.2.1 r.2.2) (.int .i64 o.1.1.stt))) := by
  obtain ⟨v', rfl, ⟨d, sk, r, rfl, ld, lk, lr⟩, hr, k⟩ := hs
  have hPl := hT P hP
  have hGl := hT G hG
  have hD4 := k.blk hblk (fun f => by omega)
  refine ⟨d, sk, r, rfl, hD4, k, fun w5 k5 => ⟨k5.blk hD4 (fun f => f), ?_⟩⟩
  exact doe_end hT hP hG hD (fun _ h => .inl h) (.inr rfl) (k5.blk hD4 (fun f => f)) (hr.new k5) (ld.keep k5 fun _ f => f.elim) (lk.keep k5 fun _ f => f.elim) (lr.keep k5 fun _ f => f.elim) (((kb.mono fun _ f => f.elim).more (k.mono fun _ h => by rcases h with h | h; exact .inl h; exact .inr (.inl h))).more (k5.mono fun _ f => f.elim))
/-- what Finish leaves -/
def FiE (T : Nat → Prop) (D O : Nat) (q : Sp) (w wb W : World) (P G : Nat) (nm : ByteArray) (dl : Int) (s : Option Addr × Nat × Nat) (xs : List No) (o : (Chg × Int) × Rs) (e : Ending) (w4 : World) : Prop :=
    ∃ d k r : Option Addr × Nat × Nat, e = .returned (.tuple #[.agg #[.slice d.1 d.2.1 d.2.2, .slice k.1 k.2.1 k.2.2, .slice r.1 r.2.1 r.2.2, .int .i64 o.1.1.stt], .int .i64 o.1.2]) ∧ Keep (fun k => k = P ∨ k = G) W w4 ∧ (w4.cell? ⟨O, 3, none⟩ = some (.int .i64 q.i) ∧ w4.cell? ⟨O, 4, none⟩ = some (.slice q.ra q.res.length q.rc)) ∧
      ∀ w5 E, (E < W.heap.size ∨ w4.heap.size ≤ E) → wb.heap.size ≤ E → Keep (fun k => k = E) w4 w5 → w5.heap[D]? = some (.cells #[.slice none 0 0, .slice none 0 0, .slice none 0 0, .int .i64 0] 45 (0, 0)) ∧ ((put4 w5 D (.slice d.1 d.2.1 d.2.2) (.slice k.1 k.2.1 k.2.2) (.slice r.1 r.2.1 r.2.2) (.int .i64 o.1.1.stt)).heap[D]? = some (.cells #[.slice d.1 d.2.1 d.2.2, .slice k.1 k.2.1 k.2.2, .slice r.1 r.2.1 r.2.2, .int .i64 o.1.1.stt] 45 (0, 0)) ∧ ChgAt T (put4 w5 D (.slice d.1 d.2.1 d.2.2) (.slice k.1 k.2.1 k.2.2) (.slice r.1 r.2.1 r.2.2) (.int .i64 o.1.1.stt)) (.agg #[.slice d.1 d.2.1 d.2.2, .slice k.1 k.2.1 k.2.2, .slice r.1 r.2.1 r.2.2, .int .i64 o.1.1.stt]) o.1.1 ∧ RunAt T (put4 w5 D (.slice d.1 d.2.1 d.2.2) (.slice k.1 k.2.1 k.2.2) (.slice r.1 r.2.1 r.2.2) (.int .i64 o.1.1.stt)) P G nm dl s xs o.2 ∧ Keep (fun k => k = P ∨ k = G) w (put4 w5 D (.slice d.1 d.2.1 d.2.2) (.slice k.1 k.2.1 k.2.2) (.slice r.1 r.2.1 r.2.2) (.int .i64 o.1.1.stt)))
theorem fin_doe {T : Nat → Prop} {w wb W : World} {P G D O : Nat} {q : Sp} {nm : ByteArray} {dl : Int} {s : Option Addr × Nat × Nat} {xs : List No} (hT : ∀ k, T k → k < w.heap.size) (hP : T P) (hG : T G) (hD : w.heap.size ≤ D) (hDb : D < wb.heap.size) (hO : w.heap.size ≤ O) (hblk : wb.heap[D]? = some (.cells #[.slice none 0 0, .slice none 0 0, .slice none 0 0, .int .i64 0] 45 (0, 0))) (hop : wb.heap[O]? = some (.cells #[.int .i64 q.k, .int .i64 q.on, .int .i64 q.to, .int .i64 q.i, .slice q.ra q.res.length q.rc] 53 (0, 0))) (kw : Keep (fun _ => False) w wb) (kb : Keep (fun _ => False) wb W) {o : (Chg × Int) × Rs} {e : Ending} {w4 : World} (hs : Stp (fun k => T k ∨ k = D ∨ wb.heap.size ≤ k ∧ k < W.heap.size) W P G nm dl s xs o e w4) : FiE T D O q w wb W P G nm dl s xs o e w4 := by
  obtain ⟨v', rfl, ⟨d, sk, r, rfl, ld, lk, lr⟩, hr, k⟩ := hs
  have hPl := hT P hP
  have hGl := hT G hG
  have hO4 := k.blk (kb.blk hop (fun f => f)) (fun f => by omega)
  have hD4 := k.blk (kb.blk hblk (fun f => f)) (fun f => by omega)
  have hws := kw.size
  refine ⟨d, sk, r, rfl, k, ⟨cell_blk hO4 3 rfl, cell_blk hO4 4 rfl⟩, fun w5 E hE1 hE2 k5 => ?_⟩
  have hD5 := k5.blk hD4 (fun f => by omega)
  have hS : ∀ i, i = E → w4.heap.size ≤ i ∨ (T i ∨ i = D ∨ wb.heap.size ≤ i ∧ i < W.heap.size) := fun i hi => by
    subst hi
    rcases hE1 with h | h
    · exact .inr (.inr (.inr ⟨hE2, h⟩))
    · exact .inl h
  refine ⟨hD5, doe_end hT hP hG hD (fun _ h => .inl h) (.inr (.inl rfl)) hD5 (hr.keep k5 fun i hi => (hS i hi).imp id fun h => ⟨h, by omega, by omega⟩) (ld.keep k5 hS) (lk.keep k5 hS) (lr.keep k5 hS) ?_⟩
  exact ((((kw.more kb).mono fun _ f => f.elim).more (k.mono fun _ h => by rcases h with h | h; exact .inl h; exact .inr (.inl h))).more (k5.mono fun i hi => .inr (.inr (by omega))))
set_option maxRecDepth 100000 in
set_option maxHeartbeats 8000000 in
theorem does_any {T : Nat → Prop} {w : World} {P G : Nat} {nm : ByteArray} {dl : Int} {s : Option Addr × Nat × Nat} {xs : List No} {R : Rs} (h : RunAt T w P G nm dl s xs R) (hT : ∀ k, T k → k < w.heap.size) (q : Sp) (hq : SpOk w q) (htr : ∀ p ∈ R.ps, -1000 ≤ p.tr ∧ p.tr ≤ 1000) :
    Calls Try.prog 12 #[.pointer (some ⟨P, 0, none⟩), .agg #[.int .i64 q.k, .int .i64 q.on, .int .i64 q.to, .int .i64 q.i, .slice q.ra q.res.length q.rc]] w (DoE T w P G nm dl s xs (doR (xs.map nx) R q.k q.i q.res)) := by
  obtain ⟨out, hout⟩ : ∃ out, out = doR (xs.map nx) R q.k q.i q.res := ⟨_, rfl⟩
  rw [← hout]
  have HOUT := hide hout
  clear hout
  have HT := hide hT
  have HTP : Hid (T P ∧ T G) := ⟨h.tp, h.tg⟩
  have ka := Keep.alloc (fun _ => False) w (.cells #[.int .i64 q.k, .int .i64 q.on, .int .i64 q.to, .int .i64 q.i, .slice q.ra q.res.length q.rc] 53)
  have ba := heap_alloc_new w (.cells #[.int .i64 q.k, .int .i64 q.on, .int .i64 q.to, .int .i64 q.i, .slice q.ra q.res.length q.rc] 53)
  have za : (w.alloc (.cells #[.int .i64 q.k, .int .i64 q.on, .int .i64 q.to, .int .i64 q.i, .slice q.ra q.res.length q.rc] 53)).heap.size = w.heap.size + 1 := by simp
  have kb := Keep.alloc (fun _ => False) (w.alloc (.cells #[.int .i64 q.k, .int .i64 q.on, .int .i64 q.to, .int .i64 q.i, .slice q.ra q.res.length q.rc] 53)) (.cells #[.slice none 0 0, .slice none 0 0, .slice none 0 0, .int .i64 0] 45)
  have bb := heap_alloc_new (w.alloc (.cells #[.int .i64 q.k, .int .i64 q.on, .int .i64 q.to, .int .i64 q.i, .slice q.ra q.res.length q.rc] 53)) (.cells #[.slice none 0 0, .slice none 0 0, .slice none 0 0, .int .i64 0] 45)
  have zb : ((w.alloc (.cells #[.int .i64 q.k, .int .i64 q.on, .int .i64 q.to, .int .i64 q.i, .slice q.ra q.res.length q.rc] 53)).alloc (.cells #[.slice none 0 0, .slice none 0 0, .slice none 0 0, .int .i64 0] 45)).heap.size = w.heap.size + 2 := by simp
  rw [za] at bb
  have HSQ := hide hq
  have HH := hide h
  have TR := hide htr
  clear h hT hq htr
  go_enter Try.func12, Try.ntmps12
  go_upto_region 1 with fail
  try simp only [za]
  obtain ⟨O, hO⟩ : ∃ O, O = w.heap.size := ⟨_, rfl⟩
  obtain ⟨D, hD⟩ : ∃ D, D = w.heap.size + 1 := ⟨_, rfl⟩
  have HOP0 := kb.blk ba (fun f => f)
  have KB := hide (ka.more kb)
  clear ka kb ba za
  generalize (w.alloc (.cells #[.int .i64 q.k, .int .i64 q.on, .int .i64 q.to, .int .i64 q.i, .slice q.ra q.res.length q.rc] 53)).alloc (.cells #[.slice none 0 0, .slice none 0 0, .slice none 0 0, .int .i64 0] 45) = wb at *
  rw [← hD] at bb ⊢
  rw [← hO] at HOP0 ⊢
  have HOP := hide HOP0
  have HDB := hide bb
  have HDw : Hid (w.heap.size ≤ D) := by show _ ≤ _; omega
  have HNE : Hid (O ≠ D ∧ O ≠ P ∧ O ≠ G ∧ D ≠ P ∧ D ≠ G) := by
    have := HT.out P HTP.out.1
    have := HT.out G HTP.out.2
    show _ ∧ _
    omega
  have FD : Hid (RunAt (fun i => T i ∨ i = D) wb P G nm dl s xs R) := (HH.out.wide (U := fun i => T i ∨ i = D) (fun i hi => hi.imp id fun e => by omega) (.inl HTP.out.1) (.inl HTP.out.2)).new KB.out
  have FL : Hid (∀ k, (T k ∨ k = D) → k < wb.heap.size) := fun k hk => by
    rcases hk with hk | hk
    · have := HT.out k hk; omega
    · omega
  have SQ : Hid (SpOk wb q) := ⟨HSQ.out.1.stay KB.out (fun _ _ _ f => f), HSQ.out.2⟩
  have o0 := cell_blk HOP.out 0 (v := .int .i64 q.k) rfl
  have o3 := cell_blk HOP.out 3 (v := .int .i64 q.i) rfl
  have o4 := cell_blk HOP.out 4 (v := .slice q.ra q.res.length q.rc) rfl
  have ED := hide (fun (o : (Chg × Int) × Rs) (e : Ending) (w4 : World) (hs : Stp (fun k => T k ∨ k = D) wb P G nm dl s xs o e w4) => stp_doe HT.out HTP.out.1 HTP.out.2 HDw.out HDB.out KB.out hs)
  have HZ : Hid (D < wb.heap.size ∧ O < wb.heap.size ∧ w.heap.size ≤ O) := by show _ ∧ _; omega
  clear bb HOP0 hO hD zb HH HSQ
  by_cases h1 : q.k = 1
  · as_aux_lemma =>
    have h1' : (q.k == 1) = true := by simpa using h1
    have HO : Hid (out = ((Chg.none, (leaseR R q.i).1.1, (leaseR R q.i).1.2), (leaseR R q.i).2)) := by show _ = _; rw [HOUT.out]; unfold doR; rw [if_pos h1]
    have LE := hide (lease_any FD.out q.i TR.out)
    clear h1
    go_wp2_with fail
    go_at_call 19
    refine LE.out.mono ?_
    rintro e w4 ⟨rfl, hr, k4⟩
    have hD4 := k4.blk HDB.out (fun e => HNE.out.2.2.2.2 e)
    have HE := hide (doe_end (c := Chg.none) (d := (none, 0, 0)) (k := (none, 0, 0)) (r := (none, 0, 0)) HT.out HTP.out.1 HTP.out.2 HDw.out (fun _ h => .inl h) (.inr rfl) hD4 hr (ls_nil _ _) (ls_nil _ _) (ls_nil _ _) ((KB.out.mono fun _ f => f.elim).more (k4.mono fun _ e => .inr (.inl e))))
    have cz0 := cell_blk hD4 0 (v := .slice none 0 0) rfl
    have fz0 := frozen_blk hD4 0
    have cz1 := cell_blk hD4 1 (v := .slice none 0 0) rfl
    have fz1 := frozen_blk hD4 1
    have cz2 := cell_blk hD4 2 (v := .slice none 0 0) rfl
    have fz2 := frozen_blk hD4 2
    have cz3 := cell_blk hD4 3 (v := .int .i64 0) rfl
    have fz3 := frozen_blk hD4 3
    clear hr k4 LE hD4
    go_wp2_with fail
    obtain ⟨g1, g2, g3, g4⟩ := HE.out
    obtain rfl := HO.out
    exact bodyPost_ret (res_chg3 rfl _ _ D _ _ _ _ rfl g1) rfl ⟨_, rfl, g2, g3, g4⟩
  · have h1' : (q.k == 1) = false := by simpa using h1
    by_cases h2 : q.k = 2
    · as_aux_lemma =>
      have h2' : (q.k == 2) = true := by simpa using h2
      have HO : Hid (out = (((finishR (xs.map nx) R q.i q.res).1.1, 0, (finishR (xs.map nx) R q.i q.res).1.2), (finishR (xs.map nx) R q.i q.res).2)) := by show _ = _; rw [HOUT.out]; unfold doR; rw [if_neg h1, if_pos h2]
      have TW : Hid (∀ W, Keep (fun _ => False) wb W → Calls Try.prog 30 #[.slice q.ra q.res.length q.rc] W fun en w' => ∃ va vc, en = .returned (.slice va q.res.length vc) ∧ Rd w' va q.res.length q.res ∧ (va = none → vc = 0) ∧ Keep (fun _ => False) wb w' ∧ Keep (fun _ => False) W w') := fun W k => (twin_any q.ra q.res.length q.rc q.res W (SQ.out.1.stay k (fun _ _ _ f => f)) SQ.out.2.1 SQ.out.2.2).mono fun en w' ⟨v, he, ho, hb⟩ => by
        obtain ⟨va, vc, rfl, hrv, hcv, _⟩ := ownsRow_rdB ho SQ.out.1.2.2.1 SQ.out.1.2.1
        exact ⟨va, vc, he, hrv, hcv, k.more (Keep.ofBelow hb (Nat.le_refl _)), Keep.ofBelow hb (Nat.le_refl _)⟩
      have o3' : wb.drew.cell? ⟨O, 3, none⟩ = some (.int .i64 q.i) := o3
      have o4' : wb.drew.cell? ⟨O, 4, none⟩ = some (.slice q.ra q.res.length q.rc) := o4
      have HDL : Hid (D < wb.heap.size ∧ O < wb.heap.size ∧ w.heap.size ≤ O ∧ P < wb.heap.size ∧ G < wb.heap.size) := ⟨HZ.out.1, HZ.out.2.1, HZ.out.2.2, FL.out P (.inl HTP.out.1), FL.out G (.inl HTP.out.2)⟩
      have FI : Hid (∀ (W : World) (va' : Option Addr) (vc' : Nat), Rd W va' q.res.length q.res → (va' = none → vc' = 0) → Keep (fun _ => False) wb W → Calls Try.prog 20 #[.pointer (some ⟨P, 0, none⟩), .int .i64 q.i, .slice va' q.res.length vc'] W (FiE T D O q w wb W P G nm dl s xs (finishR (xs.map nx) R q.i q.res))) := fun W va' vc' hr h0 k => by
        have hF : RunAt (fun i => T i ∨ i = D ∨ wb.heap.size ≤ i ∧ i < W.heap.size) W P G nm dl s xs R := (FD.out.wide (U := fun i => T i ∨ i = D ∨ wb.heap.size ≤ i ∧ i < W.heap.size) (fun i hi => by rcases hi with hi | hi | hi; exact .inl (.inl hi); exact .inl (.inr hi); exact .inr hi.1) (.inl HTP.out.1) (.inl HTP.out.2)).new k
        have hc := finish_any hF (fun i hi => by
          rcases hi with hi | hi | hi
          · exact Nat.lt_of_lt_of_le (FL.out i (.inl hi)) k.size
          · exact Nat.lt_of_lt_of_le (FL.out i (.inr hi)) k.size
          · exact hi.2) q.i va' q.res.length vc' q.res hr h0 SQ.out.2.2
        exact hc.mono fun e w' hs => fin_doe HT.out HTP.out.1 HTP.out.2 HDw.out HDL.out.1 HDL.out.2.2.1 HDB.out HOP.out KB.out k hs
      clear h1 h2 ED
      generalize finishR (xs.map nx) R q.i q.res = oo at *
      go_upto_region 6 with fail
      go_region_held3 (fun wx => wx.cell? ⟨O, 3, none⟩ = some (.int .i64 q.i) ∧ wx.cell? ⟨O, 4, none⟩ = some (.slice q.ra q.res.length q.rc)) (first | (with_reducible exact ⟨o3, o4⟩) | (with_reducible exact ⟨o3', o4'⟩) | (with_reducible exact ho4) | (with_reducible exact ⟨hk3.cell o3 (fun f => f), hk3.cell o4 (fun f => f)⟩) | go_keep | (exact ⟨(put4_keep w4 _ _ _ _ _).cell ho4.1 hOE, (put4_keep w4 _ _ _ _ _).cell ho4.2 hOE⟩)) (first | (go_at_call 30; first | ((with_reducible refine (TW.out _ (Keep.drew _ wb)).mono ?_); rintro e w3 ⟨ra3, rc3, rfl, hr3, h03, hk3, hkW⟩) | ((with_reducible refine (TW.out _ ((Keep.alloc (fun _ => False) wb _).more (Keep.drew (fun _ => False) _))).mono ?_); rintro e w3 ⟨ra3, rc3, rfl, hr3, h03, hk3, hkW⟩; have hEz := ((Keep.drew (fun _ => False) _).more hkW).blk (heap_alloc_new wb (.cells #[.slice none 0 0, .slice none 0 0, .slice none 0 0, .int .i64 0] 45)) (fun f => f))) | (go_at_call 20; first | ((with_reducible refine (FI.out _ _ _ hr3 h03 hk3).mono ?_); rintro e w4 ⟨d4, sk4, r4, rfl, k4, ho4, hE4⟩; have hEx := k4.blk hEz (fun f => by have := HDL.out; omega); have cz0 := cell_blk hEx 0 (v := .slice none 0 0) rfl; have fz0 := frozen_blk hEx 0; have cz1 := cell_blk hEx 1 (v := .slice none 0 0) rfl; have fz1 := frozen_blk hEx 1; have cz2 := cell_blk hEx 2 (v := .slice none 0 0) rfl; have fz2 := frozen_blk hEx 2; have cz3 := cell_blk hEx 3 (v := .int .i64 0) rfl; have fz3 := frozen_blk hEx 3; have hOE : O ≠ wb.heap.size := (fun f => by have := HDL.out; omega)) | ((with_reducible refine (FI.out _ _ _ hr3 h03 hk3).mono ?_); rintro e w4 ⟨d4, sk4, r4, rfl, k4, ho4, hE4⟩; have hEx := heap_alloc_new w4 (.cells #[.slice none 0 0, .slice none 0 0, .slice none 0 0, .int .i64 0] 45); have cz0 := cell_blk hEx 0 (v := .slice none 0 0) rfl; have fz0 := frozen_blk hEx 0; have cz1 := cell_blk hEx 1 (v := .slice none 0 0) rfl; have fz1 := frozen_blk hEx 1; have cz2 := cell_blk hEx 2 (v := .slice none 0 0) rfl; have fz2 := frozen_blk hEx 2; have cz3 := cell_blk hEx 3 (v := .int .i64 0) rfl; have fz3 := frozen_blk hEx 3) | ((with_reducible refine (FI.out _ _ _ (hr3.stay (Keep.alloc (fun _ => False) w3 _) (fun _ _ _ f => f)) h03 (hk3.more (Keep.alloc _ _ _))).mono ?_); rintro e w4 ⟨d4, sk4, r4, rfl, k4, ho4, hE4⟩; have hEx := k4.blk (heap_alloc_new w3 (.cells #[.slice none 0 0, .slice none 0 0, .slice none 0 0, .int .i64 0] 45)) (fun f => by have := HDL.out; have := hk3.size; omega); have cz0 := cell_blk hEx 0 (v := .slice none 0 0) rfl; have fz0 := frozen_blk hEx 0; have cz1 := cell_blk hEx 1 (v := .slice none 0 0) rfl; have fz1 := frozen_blk hEx 1; have cz2 := cell_blk hEx 2 (v := .slice none 0 0) rfl; have fz2 := frozen_blk hEx 2; have cz3 := cell_blk hEx 3 (v := .int .i64 0) rfl; have fz3 := frozen_blk hEx 3; have hOE : O ≠ w3.heap.size := (fun f => by have := HDL.out; have := hk3.size; omega))))
      · clear cz0 cz1 cz2 cz3 fz0 fz1 fz2 fz3 hEx
        have b5 := heap_alloc_new w4 (.cells #[.slice d4.1 d4.2.1 d4.2.2, .slice sk4.1 sk4.2.1 sk4.2.2, .slice r4.1 r4.2.1 r4.2.2, .int .i64 oo.1.1.stt] 45)
        have k5 : Keep (fun k => k = w4.heap.size) w4 (w4.alloc (.cells #[.slice d4.1 d4.2.1 d4.2.2, .slice sk4.1 sk4.2.1 sk4.2.2, .slice r4.1 r4.2.1 r4.2.2, .int .i64 oo.1.1.stt] 45)) := (Keep.alloc (fun _ => False) w4 _).mono fun _ f => f.elim
        have hEi : w4.heap.size < w3.heap.size ∨ w4.heap.size ≤ w4.heap.size := .inr (Nat.le_refl _)
        have hEw : wb.heap.size ≤ w4.heap.size := Nat.le_trans hk3.size k4.size
        obtain ⟨hD5, hE5⟩ := hE4 _ _ hEi hEw k5
        have HE := hide hE5
        have HB5 := hide b5
        have HD5 := hide hD5
        clear hE4 hEi hEw k5 hE5 b5 hD5 hr3 h03 hk3 hkW k4 ho4
        generalize hw5 : w4.alloc (.cells #[.slice d4.1 d4.2.1 d4.2.2, .slice sk4.1 sk4.2.1 sk4.2.2, .slice r4.1 r4.2.1 r4.2.2, .int .i64 oo.1.1.stt] 45) = w5 at *
        generalize w4.heap.size = E at *
        clear hw5
        have e0 := cell_blk HB5.out 0 (v := .slice d4.1 d4.2.1 d4.2.2) rfl
        have e1 := cell_blk HB5.out 1 (v := .slice sk4.1 sk4.2.1 sk4.2.2) rfl
        have e2 := cell_blk HB5.out 2 (v := .slice r4.1 r4.2.1 r4.2.2) rfl
        have e3 := cell_blk HB5.out 3 (v := .int .i64 oo.1.1.stt) rfl
        have cz0 := cell_blk HD5.out 0 (v := .slice none 0 0) rfl
        have fz0 := frozen_blk HD5.out 0
        have cz1 := cell_blk HD5.out 1 (v := .slice none 0 0) rfl
        have fz1 := frozen_blk HD5.out 1
        have cz2 := cell_blk HD5.out 2 (v := .slice none 0 0) rfl
        have fz2 := frozen_blk HD5.out 2
        have cz3 := cell_blk HD5.out 3 (v := .int .i64 0) rfl
        have fz3 := frozen_blk HD5.out 3
        go_wp2_with fail
        obtain ⟨g1, g2, g3, g4⟩ := HE.out
        obtain rfl := HO.out
        exact bodyPost_ret (res_chg3 rfl _ _ D _ _ _ _ rfl g1) rfl ⟨_, rfl, g2, g3, g4⟩
      · have b5 := put4_blk hEx (.slice d4.1 d4.2.1 d4.2.2) (.slice sk4.1 sk4.2.1 sk4.2.2) (.slice r4.1 r4.2.1 r4.2.2) (.int .i64 oo.1.1.stt)
        obtain ⟨w5, hw5⟩ : ∃ w5, w5 = (put4 w4 w3.heap.size (.slice d4.1 d4.2.1 d4.2.2) (.slice sk4.1 sk4.2.1 sk4.2.2) (.slice r4.1 r4.2.1 r4.2.2) (.int .i64 oo.1.1.stt)) := ⟨_, rfl⟩
        have hnest : (((w4.setCell ⟨w3.heap.size, 0, none⟩ (.slice d4.1 d4.2.1 d4.2.2)).setCell ⟨w3.heap.size, 1, none⟩ (.slice sk4.1 sk4.2.1 sk4.2.2)).setCell ⟨w3.heap.size, 2, none⟩ (.slice r4.1 r4.2.1 r4.2.2)).setCell ⟨w3.heap.size, 3, none⟩ (.int .i64 oo.1.1.stt) = w5 := hw5.symm
        have b5 : w5.heap[w3.heap.size]? = some (.cells #[.slice d4.1 d4.2.1 d4.2.2, .slice sk4.1 sk4.2.1 sk4.2.2, .slice r4.1 r4.2.1 r4.2.2, .int .i64 oo.1.1.stt] 45 (0, 0)) := by rw [hw5]; exact b5
        have k5 : Keep (fun k => k = w3.heap.size) w4 w5 := by rw [hw5]; exact put4_keep w4 _ _ _ _ _
        have hEi : w3.heap.size < (w3.alloc (.cells #[.slice none 0 0, .slice none 0 0, .slice none 0 0, .int .i64 0] 45)).heap.size ∨ w4.heap.size ≤ w3.heap.size := .inl (by simp)
        have hEw : wb.heap.size ≤ w3.heap.size := hk3.size
        clear cz0 cz1 cz2 cz3 fz0 fz1 fz2 fz3 hEx hOE
        obtain ⟨hD5, hE5⟩ := hE4 _ _ hEi hEw k5
        have HE := hide hE5
        have HB5 := hide b5
        have HD5 := hide hD5
        clear hE4 hEi hEw k5 hE5 b5 hD5 hr3 h03 hk3 hkW k4 ho4
        rw [hnest]
        clear hnest hw5
        generalize w3.heap.size = E at *
        have e0 := cell_blk HB5.out 0 (v := .slice d4.1 d4.2.1 d4.2.2) rfl
        have e1 := cell_blk HB5.out 1 (v := .slice sk4.1 sk4.2.1 sk4.2.2) rfl
        have e2 := cell_blk HB5.out 2 (v := .slice r4.1 r4.2.1 r4.2.2) rfl
        have e3 := cell_blk HB5.out 3 (v := .int .i64 oo.1.1.stt) rfl
        have cz0 := cell_blk HD5.out 0 (v := .slice none 0 0) rfl
        have fz0 := frozen_blk HD5.out 0
        have cz1 := cell_blk HD5.out 1 (v := .slice none 0 0) rfl
        have fz1 := frozen_blk HD5.out 1
        have cz2 := cell_blk HD5.out 2 (v := .slice none 0 0) rfl
        have fz2 := frozen_blk HD5.out 2
        have cz3 := cell_blk HD5.out 3 (v := .int .i64 0) rfl
        have fz3 := frozen_blk HD5.out 3
        go_wp2_with fail
        obtain ⟨g1, g2, g3, g4⟩ := HE.out
        obtain rfl := HO.out
        exact bodyPost_ret (res_chg3 rfl _ _ D _ _ _ _ rfl g1) rfl ⟨_, rfl, g2, g3, g4⟩
      · have b5 := put4_blk hEx (.slice d4.1 d4.2.1 d4.2.2) (.slice sk4.1 sk4.2.1 sk4.2.2) (.slice r4.1 r4.2.1 r4.2.2) (.int .i64 oo.1.1.stt)
        obtain ⟨w5, hw5⟩ : ∃ w5, w5 = (put4 w4 wb.heap.size (.slice d4.1 d4.2.1 d4.2.2) (.slice sk4.1 sk4.2.1 sk4.2.2) (.slice r4.1 r4.2.1 r4.2.2) (.int .i64 oo.1.1.stt)) := ⟨_, rfl⟩
        have hnest : (((w4.setCell ⟨wb.heap.size, 0, none⟩ (.slice d4.1 d4.2.1 d4.2.2)).setCell ⟨wb.heap.size, 1, none⟩ (.slice sk4.1 sk4.2.1 sk4.2.2)).setCell ⟨wb.heap.size, 2, none⟩ (.slice r4.1 r4.2.1 r4.2.2)).setCell ⟨wb.heap.size, 3, none⟩ (.int .i64 oo.1.1.stt) = w5 := hw5.symm
        have b5 : w5.heap[wb.heap.size]? = some (.cells #[.slice d4.1 d4.2.1 d4.2.2, .slice sk4.1 sk4.2.1 sk4.2.2, .slice r4.1 r4.2.1 r4.2.2, .int .i64 oo.1.1.stt] 45 (0, 0)) := by rw [hw5]; exact b5
        have k5 : Keep (fun k => k = wb.heap.size) w4 w5 := by rw [hw5]; exact put4_keep w4 _ _ _ _ _
        have hEi : wb.heap.size < w3.heap.size ∨ w4.heap.size ≤ wb.heap.size := .inl (Array.getElem?_eq_some_iff.1 hEz).1
        have hEw : wb.heap.size ≤ wb.heap.size := Nat.le_refl _
        clear cz0 cz1 cz2 cz3 fz0 fz1 fz2 fz3 hEx hOE hEz
        obtain ⟨hD5, hE5⟩ := hE4 _ _ hEi hEw k5
        have HE := hide hE5
        have HB5 := hide b5
        have HD5 := hide hD5
        clear hE4 hEi hEw k5 hE5 b5 hD5 hr3 h03 hk3 hkW k4 ho4
        rw [hnest]
        clear hnest hw5
        clear FL
        generalize wb.heap.size = E at *
        have e0 := cell_blk HB5.out 0 (v := .slice d4.1 d4.2.1 d4.2.2) rfl
        have e1 := cell_blk HB5.out 1 (v := .slice sk4.1 sk4.2.1 sk4.2.2) rfl
        have e2 := cell_blk HB5.out 2 (v := .slice r4.1 r4.2.1 r4.2.2) rfl
        have e3 := cell_blk HB5.out 3 (v := .int .i64 oo.1.1.stt) rfl
        have cz0 := cell_blk HD5.out 0 (v := .slice none 0 0) rfl
        have fz0 := frozen_blk HD5.out 0
        have cz1 := cell_blk HD5.out 1 (v := .slice none 0 0) rfl
        have fz1 := frozen_blk HD5.out 1
        have cz2 := cell_blk HD5.out 2 (v := .slice none 0 0) rfl
        have fz2 := frozen_blk HD5.out 2
        have cz3 := cell_blk HD5.out 3 (v := .int .i64 0) rfl
        have fz3 := frozen_blk HD5.out 3
        go_wp2_with fail
        obtain ⟨g1, g2, g3, g4⟩ := HE.out
        obtain rfl := HO.out
        exact bodyPost_ret (res_chg3 rfl _ _ D _ _ _ _ rfl g1) rfl ⟨_, rfl, g2, g3, g4⟩
    · have h2' : (q.k == 2) = false := by simpa using h2
      by_cases h3 : q.k = 3
      · as_aux_lemma =>
        have h3' : (q.k == 3) = true := by simpa using h3
        have HO : Hid (out = (((missR (xs.map nx) R q.i).1.1, 0, (missR (xs.map nx) R q.i).1.2), (missR (xs.map nx) R q.i).2)) := by show _ = _; rw [HOUT.out]; unfold doR; rw [if_neg h1, if_neg h2, if_pos h3]
        have MI := hide (miss_any FD.out FL.out q.i)
        clear h1 h2 h3
        generalize (missR (xs.map nx) R q.i) = oo at *
        go_wp2_with fail
        go_at_call 25
        refine MI.out.mono ?_
        rintro e w4 hs
        obtain ⟨d4, sk4, r4, rfl, hD4, k4, hE⟩ := ED.out _ _ _ hs
        have k5 := Keep.alloc (fun _ => False) w4 (.cells #[.slice d4.1 d4.2.1 d4.2.2, .slice sk4.1 sk4.2.1 sk4.2.2, .slice r4.1 r4.2.1 r4.2.2, .int .i64 oo.1.1.stt] 45)
        have b5 := heap_alloc_new w4 (.cells #[.slice d4.1 d4.2.1 d4.2.2, .slice sk4.1 sk4.2.1 sk4.2.2, .slice r4.1 r4.2.1 r4.2.2, .int .i64 oo.1.1.stt] 45)
        obtain ⟨hD5, hE5⟩ := hE _ k5
        have HE := hide hE5
        have HB5 := hide b5
        have HD5 := hide hD5
        clear hs hD4 k4 hE k5 b5 hE5 hD5 MI ED
        go_upto_region 10 with fail
        generalize hw5 : w4.alloc (.cells #[.slice d4.1 d4.2.1 d4.2.2, .slice sk4.1 sk4.2.1 sk4.2.2, .slice r4.1 r4.2.1 r4.2.2, .int .i64 oo.1.1.stt] 45) = w5 at *
        generalize w4.heap.size = E at *
        clear hw5
        have e0 := cell_blk HB5.out 0 (v := .slice d4.1 d4.2.1 d4.2.2) rfl
        have e1 := cell_blk HB5.out 1 (v := .slice sk4.1 sk4.2.1 sk4.2.2) rfl
        have e2 := cell_blk HB5.out 2 (v := .slice r4.1 r4.2.1 r4.2.2) rfl
        have e3 := cell_blk HB5.out 3 (v := .int .i64 oo.1.1.stt) rfl
        have cz0 := cell_blk HD5.out 0 (v := .slice none 0 0) rfl
        have fz0 := frozen_blk HD5.out 0
        have cz1 := cell_blk HD5.out 1 (v := .slice none 0 0) rfl
        have fz1 := frozen_blk HD5.out 1
        have cz2 := cell_blk HD5.out 2 (v := .slice none 0 0) rfl
        have fz2 := frozen_blk HD5.out 2
        have cz3 := cell_blk HD5.out 3 (v := .int .i64 0) rfl
        have fz3 := frozen_blk HD5.out 3
        go_wp2_with fail
        obtain ⟨g1, g2, g3, g4⟩ := HE.out
        obtain rfl := HO.out
        exact bodyPost_ret (res_chg3 rfl _ _ D _ _ _ _ rfl g1) rfl ⟨_, rfl, g2, g3, g4⟩
      · have h3' : (q.k == 3) = false := by simpa using h3
        by_cases h4 : q.k = 4
        · as_aux_lemma =>
          have h4' : (q.k == 4) = true := by simpa using h4
          have HO : Hid (out = (((wakeR (xs.map nx) R q.i).1.1, 0, (wakeR (xs.map nx) R q.i).1.2), (wakeR (xs.map nx) R q.i).2)) := by show _ = _; rw [HOUT.out]; unfold doR; rw [if_neg h1, if_neg h2, if_neg h3, if_pos h4]
          have MI := hide (wake_any FD.out FL.out q.i)
          clear h1 h2 h3 h4
          generalize (wakeR (xs.map nx) R q.i) = oo at *
          go_wp2_with fail
          go_at_call 24
          refine MI.out.mono ?_
          rintro e w4 hs
          obtain ⟨d4, sk4, r4, rfl, hD4, k4, hE⟩ := ED.out _ _ _ hs
          have k5 := Keep.alloc (fun _ => False) w4 (.cells #[.slice d4.1 d4.2.1 d4.2.2, .slice sk4.1 sk4.2.1 sk4.2.2, .slice r4.1 r4.2.1 r4.2.2, .int .i64 oo.1.1.stt] 45)
          have b5 := heap_alloc_new w4 (.cells #[.slice d4.1 d4.2.1 d4.2.2, .slice sk4.1 sk4.2.1 sk4.2.2, .slice r4.1 r4.2.1 r4.2.2, .int .i64 oo.1.1.stt] 45)
          obtain ⟨hD5, hE5⟩ := hE _ k5
          have HE := hide hE5
          have HB5 := hide b5
          have HD5 := hide hD5
          clear hs hD4 k4 hE k5 b5 hE5 hD5 MI ED
          go_upto_region 13 with fail
          generalize hw5 : w4.alloc (.cells #[.slice d4.1 d4.2.1 d4.2.2, .slice sk4.1 sk4.2.1 sk4.2.2, .slice r4.1 r4.2.1 r4.2.2, .int .i64 oo.1.1.stt] 45) = w5 at *
          generalize w4.heap.size = E at *
          clear hw5
          have e0 := cell_blk HB5.out 0 (v := .slice d4.1 d4.2.1 d4.2.2) rfl
          have e1 := cell_blk HB5.out 1 (v := .slice sk4.1 sk4.2.1 sk4.2.2) rfl
          have e2 := cell_blk HB5.out 2 (v := .slice r4.1 r4.2.1 r4.2.2) rfl
          have e3 := cell_blk HB5.out 3 (v := .int .i64 oo.1.1.stt) rfl
          have cz0 := cell_blk HD5.out 0 (v := .slice none 0 0) rfl
          have fz0 := frozen_blk HD5.out 0
          have cz1 := cell_blk HD5.out 1 (v := .slice none 0 0) rfl
          have fz1 := frozen_blk HD5.out 1
          have cz2 := cell_blk HD5.out 2 (v := .slice none 0 0) rfl
          have fz2 := frozen_blk HD5.out 2
          have cz3 := cell_blk HD5.out 3 (v := .int .i64 0) rfl
          have fz3 := frozen_blk HD5.out 3
          go_wp2_with fail
          obtain ⟨g1, g2, g3, g4⟩ := HE.out
          obtain rfl := HO.out
          exact bodyPost_ret (res_chg3 rfl _ _ D _ _ _ _ rfl g1) rfl ⟨_, rfl, g2, g3, g4⟩
        · have h4' : (q.k == 4) = false := by simpa using h4
          by_cases h5 : q.k = 5
          · as_aux_lemma =>
            have h5' : (q.k == 5) = true := by simpa using h5
            have HO : Hid (out = (((stopR R q.i).1.1, 0, (stopR R q.i).1.2), (stopR R q.i).2)) := by show _ = _; rw [HOUT.out]; unfold doR; rw [if_neg h1, if_neg h2, if_neg h3, if_neg h4, if_pos h5]
            have MI := hide (stop_any FD.out FL.out q.i)
            clear h1 h2 h3 h4 h5
            generalize (stopR R q.i) = oo at *
            go_wp2_with fail
            go_at_call 31
            refine MI.out.mono ?_
            rintro e w4 hs
            obtain ⟨d4, sk4, r4, rfl, hD4, k4, hE⟩ := ED.out _ _ _ hs
            have k5 := Keep.alloc (fun _ => False) w4 (.cells #[.slice d4.1 d4.2.1 d4.2.2, .slice sk4.1 sk4.2.1 sk4.2.2, .slice r4.1 r4.2.1 r4.2.2, .int .i64 oo.1.1.stt] 45)
            have b5 := heap_alloc_new w4 (.cells #[.slice d4.1 d4.2.1 d4.2.2, .slice sk4.1 sk4.2.1 sk4.2.2, .slice r4.1 r4.2.1 r4.2.2, .int .i64 oo.1.1.stt] 45)
            obtain ⟨hD5, hE5⟩ := hE _ k5
            have HE := hide hE5
            have HB5 := hide b5
            have HD5 := hide hD5
            clear hs hD4 k4 hE k5 b5 hE5 hD5 MI ED
            go_upto_region 16 with fail
            generalize hw5 : w4.alloc (.cells #[.slice d4.1 d4.2.1 d4.2.2, .slice sk4.1 sk4.2.1 sk4.2.2, .slice r4.1 r4.2.1 r4.2.2, .int .i64 oo.1.1.stt] 45) = w5 at *
            generalize w4.heap.size = E at *
            clear hw5
            have e0 := cell_blk HB5.out 0 (v := .slice d4.1 d4.2.1 d4.2.2) rfl
            have e1 := cell_blk HB5.out 1 (v := .slice sk4.1 sk4.2.1 sk4.2.2) rfl
            have e2 := cell_blk HB5.out 2 (v := .slice r4.1 r4.2.1 r4.2.2) rfl
            have e3 := cell_blk HB5.out 3 (v := .int .i64 oo.1.1.stt) rfl
            have cz0 := cell_blk HD5.out 0 (v := .slice none 0 0) rfl
            have fz0 := frozen_blk HD5.out 0
            have cz1 := cell_blk HD5.out 1 (v := .slice none 0 0) rfl
            have fz1 := frozen_blk HD5.out 1
            have cz2 := cell_blk HD5.out 2 (v := .slice none 0 0) rfl
            have fz2 := frozen_blk HD5.out 2
            have cz3 := cell_blk HD5.out 3 (v := .int .i64 0) rfl
            have fz3 := frozen_blk HD5.out 3
            go_wp2_with fail
            obtain ⟨g1, g2, g3, g4⟩ := HE.out
            obtain rfl := HO.out
            exact bodyPost_ret (res_chg3 rfl _ _ D _ _ _ _ rfl g1) rfl ⟨_, rfl, g2, g3, g4⟩
          · as_aux_lemma =>
            have h5' : (q.k == 5) = false := by simpa using h5
            have HO : Hid (out = ((Chg.none, 0, 0), R)) := by show _ = _; rw [HOUT.out]; unfold doR; rw [if_neg h1, if_neg h2, if_neg h3, if_neg h4, if_neg h5]
            have HE := hide (doe_end (c := Chg.none) (d := (none, 0, 0)) (k := (none, 0, 0)) (r := (none, 0, 0)) HT.out HTP.out.1 HTP.out.2 HDw.out (fun _ h => .inl h) (.inr rfl) HDB.out FD.out (ls_nil _ _) (ls_nil _ _) (ls_nil _ _) (KB.out.mono fun _ f => f.elim))
            have cz0 := cell_blk HDB.out 0 (v := .slice none 0 0) rfl
            have fz0 := frozen_blk HDB.out 0
            have cz1 := cell_blk HDB.out 1 (v := .slice none 0 0) rfl
            have fz1 := frozen_blk HDB.out 1
            have cz2 := cell_blk HDB.out 2 (v := .slice none 0 0) rfl
            have fz2 := frozen_blk HDB.out 2
            have cz3 := cell_blk HDB.out 3 (v := .int .i64 0) rfl
            have fz3 := frozen_blk HDB.out 3
            clear h1 h2 h3 h4 h5 ED
            go_wp2_with fail
            obtain ⟨g1, g2, g3, g4⟩ := HE.out
            obtain rfl := HO.out
            exact bodyPost_ret (res_chg3 rfl _ _ D _ _ _ _ rfl g1) rfl ⟨_, rfl, g2, g3, g4⟩
end Rn
end Go.Proofs.Ytiackejbpcjmeaa
