import Derived.Test.YtoelgcagahmndaaGreatPOnP
import Derived.Test.YtoelgcagahmndaaGreatPTnA
import Derived.Test.YtoelgcagahmndaaGreatPWsA
import Derived.Test.YtoelgcagahmndaaGreatPKnown
import Derived.Deep.MidRow
import Derived.Deep.CutRange
import Derived.Laws.StructEq
import Derived.Test.YtoelgcagahmndaaGreatPWsM
/- PackOnce: the walk. -/
namespace Go.Proofs.YtoelgcagahmndaaGreat
namespace Wm
open Go.RowKit Go.Deep

theorem eqT (n : Int) (st : ByteArray) (w : World) : (binOp .eql 33 (.agg #[.int .i64 n, .string st]) (.agg #[.int .i64 n, .string st])).run Tryz.prog w = .ok (.bool true) w := by
  simp [go_sem, Op.eqFields]
theorem neqT (n : Int) (st : ByteArray) (w : World) : (binOp .neq 33 (.agg #[.int .i64 n, .string st]) (.agg #[.int .i64 n, .string st])).run Tryz.prog w = .ok (.bool false) w := by
  simp [go_sem, Op.eqFields]
theorem cells5 {w : World} {b : Nat} {x0 x1 x2 x3 x4 : Value} {T : TypeId} (h : w.heap[b]? = some (.cells #[x0, x1, x2, x3, x4] T (0, 0))) :
    w.cell? ⟨b, 0, none⟩ = some x0 ∧ w.cell? ⟨b, 1, none⟩ = some x1 ∧ w.cell? ⟨b, 2, none⟩ = some x2 ∧ w.cell? ⟨b, 3, none⟩ = some x3 ∧ w.cell? ⟨b, 4, none⟩ = some x4 := by
  refine ⟨?_, ?_, ?_, ?_, ?_⟩ <;> (rw [cell_of_row _ _ _ _ _ _ h]; rfl)
theorem info_form : (Tryz.prog.info? 37).map (·.size) = some 2 := by kernel_rfl
theorem alloc_set {w : World} (o : Array Value) (T : TypeId) (cs : Array Value) : ((w.alloc (.cells o T)).setRow w.heap.size cs).heap[w.heap.size]? = some (.cells cs T (0, 0)) ∧ Below w.heap.size w ((w.alloc (.cells o T)).setRow w.heap.size cs) :=
  ⟨setRow_heap _ _ _ _ _ _ (heap_alloc_new w (.cells o T)), ((Below.refl _ _).alloc (Nat.le_refl _) _).trans ((keep_row _ _ _).below (by simp) fun k e => by rw [e]; exact Nat.le_refl _)⟩
theorem alloc_num {w : World} (c : Int) : (w.alloc (.cells #[.int .i64 c] 3)).heap[w.heap.size]? = some (numB c) ∧ Below w.heap.size w (w.alloc (.cells #[.int .i64 c] 3)) :=
  ⟨heap_alloc_new w _, (Below.refl _ _).alloc (Nat.le_refl _) _⟩
/-- what is left behind the first half: the readers, the count, the form -/
structure Ag (w : World) (r m cb fb : Nat) (t t' : K.RS) (c : Int) (fc : Array Value) : Prop where
  rr : Rr w r t
  qr : Qr w m t'
  rm : r < m
  c : w.heap[cb]? = some (numB c)
  f : w.heap[fb]? = some (.cells fc 37 (0, 0))
section
variable {w w' : World} {r m cb fb : Nat} {t t' : K.RS} {c : Int} {fc : Array Value}
theorem Ag.stay (h : Ag w r m cb fb t t' c fc) {B : Nat} (hm : m < B) (hc : cb < B) (hf : fb < B) (hk : Keep (fun k => B ≤ k) w w') : Ag w' r m cb fb t t' c fc := by
  have hrm := h.rm
  exact ⟨h.rr.stay hk fun k h1 h2 => by have : B ≤ k := h2; omega, h.qr.stay hk fun k h1 h2 => by have : B ≤ k := h2; omega, h.rm, hk.blk h.c fun h2 => by have : B ≤ cb := h2; omega, hk.blk h.f fun h2 => by have : B ≤ fb := h2; omega⟩
theorem Ag.new (h : Ag w r m cb fb t t' c fc) (b : Below w.heap.size w w') : Ag w' r m cb fb t t' c fc := ⟨h.rr.below b, h.qr.below b, h.rm, blkB h.c b, blkB h.f b⟩
theorem Ag.qtook {t2 : K.RS} (h : Ag w r m cb fb t t' c fc) (hq : Qr w' m t2) (hk : Keep (fun k => k = m) w w') : Ag w' r m cb fb t t2 c fc := by
  obtain ⟨_, hm, _⟩ := Qr.noU h.qr
  have hrm := h.rm
  exact ⟨h.rr.stay hk fun k h1 h2 => by have : k = m := h2; omega, hq, h.rm, hk.blk h.c fun e => neT h.c hm (by decide) e, hk.blk h.f fun e => neT h.f hm (by decide) e⟩
theorem Ag.rtook {t2 : K.RS} {c2 : Int} (h : Ag w r m cb fb t t' c fc) (hq : Tk2 r cb t2 c2 w') (hk : Keep (fun k => k = r ∨ k = cb) w w') : Ag w' r m cb fb t2 t' c2 fc := by
  obtain ⟨_, hr, hn⟩ := Rr.noU h.rr
  obtain ⟨_, hm, _⟩ := Qr.noU h.qr
  have hrm := h.rm
  refine ⟨hq.rd, Qr.off h.qr hk (fun k hk => ?_), h.rm, hq.cn, hk.blk h.f fun e => ?_⟩
  · rcases hk with rfl | rfl
    · exact .inr ⟨_, _, _, hr, hn, by omega⟩
    · exact .inr ⟨_, _, _, h.c, numB_no _, neT h.c hm (by decide)⟩
  · rcases e with e | e
    · exact neT h.f hr (by decide) e
    · exact neT h.f h.c (by decide) e
end
theorem Af.ag {w : World} {p q r m xb cb tb fb : Nat} {s : K.WS} {t t' : K.RS} {c n0 : Int} {st0 : ByteArray} {n : Int} {st : ByteArray} {fc : Array Value} (h : Af w p q r m xb cb tb fb s t t' c n0 st0 n st fc) (hrm : r < m) : Ag w r m cb fb t t' c fc := ⟨h.rr, h.qr, hrm, h.c, h.f⟩
theorem keepB {w w' : World} {b : Nat} (h : Keep (fun k => k = b) w w') : Keep (fun k => b ≤ k) w w' := ⟨h.os, h.tape, h.output, h.size, fun k h1 h2 => h.block k h1 fun e => h2 (by have : k = b := e; show b ≤ k; omega)⟩
theorem drewN_below (w : World) (k : Nat) : Below w.heap.size w (w.drewN k) := ⟨rfl, rfl, rfl, Nat.le_refl _, fun _ _ => rfl⟩
set_option maxRecDepth 100000 in
set_option maxHeartbeats 40000000 in
theorem once_walk (room : Int) (aB : Option Addr) (nB cB : Nat) (qs : List Sp) (n : Int) (hn : n ≤ 9223372036854775807) (st : ByteArray) (hst : st.size ≤ 140737488351232) (aR : Option Addr) (nR cR : Nat) (lR : List Nat) (w : World) (h : RdSp w aB nB qs) (hr : Rd w aR nR lR) (hz : aR = none → cR = 0) :
    Calls Tryz.prog 4 #[.agg #[.int .i64 room, .slice aB nB cB, .int .i64 n, .string st, .slice aR nR cR]] w fun en w' => en = .returned (.bool true) ∧ Below w.heap.size w w' := by
  have hmf : ∀ (fn : Fn) (first cap : Array Value) (w : World), (Instr.makeFunc fn first cap).run Tryz.prog w = .ok (.func fn first cap) w := fun _ _ _ _ => rfl
  have hnB := h.2.1
  have HQ := hide h
  have HRd := hide hr
  have HZ := hide hz
  have HI2 : Hid (∀ a b : Value, (Tryz.prog.info? 33).map (·.size) = some (#[a, b] : Array Value).size) := fun a b => by rw [info_thing]; rfl
  have HIF : Hid (∀ a b : Value, (Tryz.prog.info? 37).map (·.size) = some (#[a, b] : Array Value).size) := fun a b => by rw [info_form]; rfl
  have HB0 : Hid (Below w.heap.size w (w.alloc (.cells #[.int .i64 room, .slice aB nB cB, .int .i64 n, .string st, .slice aR nR cR] 66))) := (Below.refl _ _).alloc (Nat.le_refl _) _
  have HX0 := hide (heap_alloc_new w (.cells #[.int .i64 room, .slice aB nB cB, .int .i64 n, .string st, .slice aR nR cR] 66))
  clear h hr hz
  go_enter Tryz.func4, Tryz.ntmps4
  go_upto_region 1 with fail
  change Code.wp _ _ _ _ (w.alloc (.cells #[.int .i64 room, .slice aB nB cB, .int .i64 n, .string st, .slice aR nR cR] 66))
  generalize w.alloc (.cells #[.int .i64 room, .slice aB nB cB, .int .i64 n, .string st, .slice aR nR cR] 66) = W0 at *
  go_wp2_with fail
  refine (known_any _).mono ?_
  rintro e w1 ⟨rfl, hb1⟩
  have HX1 := hide (blkB HX0.out hb1)
  have HB1 := hide (HB0.out.trans (hb1.mono HB0.out.size))
  clear hb1 HX0 HB0
  obtain ⟨y0, y1, y2, y3, y4⟩ := cells5 HX1.out
  have HRG : Hid (w1.rangeAt w.heap.size 2 [.int .i64 n, .string st]) := fun j u hu => by
    match j, hu with
    | 0, hu => rw [show u = .int .i64 n by simpa using hu.symm]; exact y2
    | 1, hu => rw [show u = .string st by simpa using hu.symm]; exact y3
  obtain ⟨hx2, hb2⟩ := alloc_set (w := w1) #[.int .i64 0, .string ⟨#[]⟩] 33 #[.int .i64 n, .string st]
  have HX2 := hide hx2
  have HB2 := hide hb2
  clear hx2 hb2
  go_upto_region 7 with (first
    | (refine wpList_load_mid rfl 33 _ rfl w.heap.size 2 rfl [.int .i64 n, .string st] _ HRG.out Tryz.underlying33 rfl (HI2.out _ _) ?_)
    | (refine wpList_store_row rfl 33 _ _ rfl w1.heap.size #[.int .i64 n, .string st] rfl rfl 33 _ (heap_alloc_new _ _) (HI2.out _ _) rfl (one2 _ _) ?_))
  change Code.wp _ _ _ _ ((w1.alloc (.cells #[.int .i64 0, .string ⟨#[]⟩] 33)).setRow w1.heap.size #[.int .i64 n, .string st])
  generalize (w1.alloc (.cells #[.int .i64 0, .string ⟨#[]⟩] 33)).setRow w1.heap.size #[.int .i64 n, .string st] = w2 at *
  have hX0 := blkB HX1.out HB2.out
  clear y0 y1 y2 y3 y4 HRG
  obtain ⟨y0, y1, y2, y3, y4⟩ := cells5 hX0
  clear hX0
  go_upto_region 8 with fail
  clear y0 y1 y2 y3 y4
  obtain ⟨hx3, hb3⟩ := alloc_num (w := w2) 0
  have HX3 := hide hx3
  have HB3 := hide hb3
  clear hx3 hb3
  go_upto_region 9 with fail
  change Code.wp _ _ _ _ (w2.alloc (.cells #[.int .i64 0] 3))
  generalize w2.alloc (.cells #[.int .i64 0] 3) = w3 at *
  obtain ⟨hx4, hb4⟩ := alloc_set (w := w3) #[.int .i64 0, .string ⟨#[]⟩] 33 #[.int .i64 0, .string ⟨#[]⟩]
  have HX4 := hide hx4
  have HB4 := hide hb4
  clear hx4 hb4
  go_upto_region 10 with (refine wpList_store_row rfl 33 _ _ rfl w3.heap.size #[.int .i64 0, .string ⟨#[]⟩] rfl rfl 33 _ (heap_alloc_new _ _) (HI2.out _ _) rfl (one2 _ _) ?_)
  change Code.wp _ _ _ _ ((w3.alloc (.cells #[.int .i64 0, .string ⟨#[]⟩] 33)).setRow w3.heap.size #[.int .i64 0, .string ⟨#[]⟩])
  generalize (w3.alloc (.cells #[.int .i64 0, .string ⟨#[]⟩] 33)).setRow w3.heap.size #[.int .i64 0, .string ⟨#[]⟩] = w4 at *
  go_wp2_with fail
  refine (MakeT _ _ _ _ _).mono ?_
  rintro e w5 ⟨rfl, hb5⟩
  have HB5 := hide hb5
  clear hb5
  obtain ⟨hx6, hb6⟩ := alloc_set (w := w5) #[.nilFunc, .nilFunc] 37 #[.func (.func 28) #[] #[.pointer (some ⟨w2.heap.size, 0, none⟩), .pointer (some ⟨w3.heap.size, 0, none⟩)], .func (.func 29) #[] #[.pointer (some ⟨w2.heap.size, 0, none⟩)]]
  have HX6 := hide hx6
  have HB6 := hide hb6
  clear hx6 hb6
  have HO6 : Hid ((#[.func (.func 28) #[] #[.pointer (some ⟨w2.heap.size, 0, none⟩), .pointer (some ⟨w3.heap.size, 0, none⟩)], .func (.func 29) #[] #[.pointer (some ⟨w2.heap.size, 0, none⟩)]] : Array Value).all (·.oneCell') = true) := by show _ = _; simp [Value.oneCell']
  go_upto_region 11 with (refine wpList_store_row rfl 37 _ _ rfl w5.heap.size #[.func (.func 28) #[] #[.pointer (some ⟨w2.heap.size, 0, none⟩), .pointer (some ⟨w3.heap.size, 0, none⟩)], .func (.func 29) #[] #[.pointer (some ⟨w2.heap.size, 0, none⟩)]] rfl rfl 37 _ (heap_alloc_new _ _) (HIF.out _ _) rfl HO6.out ?_)
  change Code.wp _ _ _ _ ((w5.alloc (.cells #[.nilFunc, .nilFunc] 37)).setRow w5.heap.size #[.func (.func 28) #[] #[.pointer (some ⟨w2.heap.size, 0, none⟩), .pointer (some ⟨w3.heap.size, 0, none⟩)], .func (.func 29) #[] #[.pointer (some ⟨w2.heap.size, 0, none⟩)]])
  generalize (w5.alloc (.cells #[.nilFunc, .nilFunc] 37)).setRow w5.heap.size #[.func (.func 28) #[] #[.pointer (some ⟨w2.heap.size, 0, none⟩), .pointer (some ⟨w3.heap.size, 0, none⟩)], .func (.func 29) #[] #[.pointer (some ⟨w2.heap.size, 0, none⟩)]] = wB at *
  have HBX : Hid (Bx w wB w1.heap.size w2.heap.size w3.heap.size w5.heap.size n st #[.func (.func 28) #[] #[.pointer (some ⟨w2.heap.size, 0, none⟩), .pointer (some ⟨w3.heap.size, 0, none⟩)], .func (.func 29) #[] #[.pointer (some ⟨w2.heap.size, 0, none⟩)]]) := by
    have z1 := HB1.out.size
    have z2 := HB2.out.size
    have z3 := HB3.out.size
    have z4 := HB4.out.size
    have z5 := HB5.out.size
    have b2 := HB1.out.trans (HB2.out.mono z1)
    have b3 := b2.trans (HB3.out.mono b2.size)
    have b4 := b3.trans (HB4.out.mono b3.size)
    have b5 := b4.trans (HB5.out.mono b4.size)
    exact ⟨blkB (blkB (blkB (blkB HX2.out HB3.out) HB4.out) HB5.out) HB6.out, blkB (blkB (blkB HX3.out HB4.out) HB5.out) HB6.out, blkB (blkB HX4.out HB5.out) HB6.out, HX6.out, z1, b2.size, b3.size, by have := (Array.getElem?_eq_some_iff.1 HX2.out).1; omega, b5.trans (HB6.out.mono b5.size)⟩
  clear HX1 HB1 HX2 HB2 HX3 HB3 HX4 HB4 HB5 HX6 HB6 HO6
  generalize w1.heap.size = xb at *
  generalize w2.heap.size = cb at *
  generalize w3.heap.size = tb at *
  generalize w5.heap.size = fb at *
  go_wp2_with fail
  refine (NewWriterX room _).mono ?_
  rintro e w6 ⟨rfl, rfl⟩
  go_wp2_with fail
  refine (RNewWriterX room _).mono ?_
  rintro e w7 ⟨rfl, rfl⟩
  have hb7 : Below wB.heap.size wB ((wB.alloc (.cells #[.slice none 0 0, .int .i64 (Go.Proofs.YtoelgcagahmndaaGreat.room room : Nat), .int .i64 0] 120)).alloc (.cells #[.slice none 0 0, .int .i64 (Go.Proofs.YtoelgcagahmndaaGreat.room room : Nat), .int .i64 0] 48)) := ((Below.refl _ _).alloc (Nat.le_refl _) _).alloc (by simp) _
  have HB7 := hide (HBX.out.bl.trans (hb7.mono HBX.out.bl.size))
  clear hb7
  go_wp2_with fail
  refine (NewReader_any aR nR cR lR _ (HRd.out.keep HB7.out) HZ.out).mono ?_
  rintro e w8 ⟨r, rfl, hr8, gr8, hb8⟩
  have HR8 := hide hr8
  have HGR := hide gr8
  have HB8 := hide hb8
  clear hr8 gr8 hb8
  go_wp2_with fail
  refine (RNewReader_any aR nR cR lR _ (HRd.out.keep (HB7.out.trans (HB8.out.mono HB7.out.size))) HZ.out).mono ?_
  rintro e w9 ⟨m, rfl, hm9, gm9, hb9⟩
  have hrl : Go.Proofs.YtoelgcagahmndaaGreat.room room ≤ 16777216 := by unfold Go.Proofs.YtoelgcagahmndaaGreat.room; omega
  have HON := hide (On.begin hrl HB8.out HR8.out HGR.out hb9 hm9 gm9)
  have HBA := hide HBX.out.bl
  clear hm9 gm9 hb9 HR8 HGR HB8 HB7 hrl HRd HZ
  generalize newR lR = sR at *
  generalize (⟨[], Go.Proofs.YtoelgcagahmndaaGreat.room room, 0⟩ : K.WS) = sW at *
  have hpq : Hid (∃ p q, p = wB.heap.size ∧ q = wB.heap.size + 1) := ⟨_, _, rfl, rfl⟩
  clear hpq
  generalize wB.heap.size + 1 = q at *
  obtain ⟨p, hp⟩ : ∃ p, wB.heap.size = p := ⟨_, rfl⟩
  have HON' : Hid (On wB w9 p (.slice none 0 0) q (.slice none 0 0) r m sW sW sR sR) := by rw [← hp]; exact HON.out
  clear HON
  rw [hp]
  clear hp
  go_wp2_with fail
  go_loopw [15] (fun iv wr => ∃ i : Nat, iv = .int .i64 (i : Nat) ∧ i ≤ nB ∧ Hid (∃ v u s t, On wB wr p v q u r m s s t t)) (fun iv _ => nB - (intOf iv).toNat)
  case atStart => exact ⟨0, rfl, Nat.zero_le _, _, _, _, _, HON'.out⟩
  case round => as_aux_lemma =>
    clear HON'
    obtain ⟨i, rfl, hi, HI⟩ := hrel
    obtain ⟨v, u, s, t, HD⟩ : ∃ v u s t, Hid (On wB wr p v q u r m s s t t) := HI.out
    clear HI
    by_cases hlt : i < nB
    · --<L
      obtain ⟨x, b, off, hx, ea, hok0, hrow0⟩ := HQ.out.row hlt
      subst ea
      have hok : x.Ok (fun k => k < wB.heap.size) wB := hok0.keep HBA.out fun k hk => Nat.lt_of_lt_of_le hk HBA.out.size
      have hrow : ∀ W, Below wB.heap.size wB W → W.rangeAt b (off + i * 11) x.row := fun W hb => hrow0 W (HBA.out.trans (hb.mono HBA.out.size))
      have hlt' : (i : Int) < (nB : Int) := by omega
      have HRW := hide hrow
      have HPu : Hid (∀ (W' : World) (v u : Value) (s s' : K.WS) (t t' : K.RS), On wB W' p v q u r m s s' t t' → Calls Tryz.prog 31 #[.pointer (some ⟨p, 0, none⟩), .agg x.row.toArray] W' fun en w' => en = .returned (.tuple #[]) ∧ WAt (Wset p v) W' p (x.eff s) w') := fun W' v u s s' t t' h => put_any (Wset p v) W' p s x W' h.st.atW (hok.keep h.st.bl h.st.dW)
      have HLa : Hid (∀ (W' : World) (v u : Value) (s s' : K.WS) (t t' : K.RS), On wB W' p v q u r m s s' t t' → Calls Tryz.prog 32 #[.pointer (some ⟨q, 0, none⟩), .agg x.row.toArray] W' fun en w' => en = .returned (.tuple #[]) ∧ VAt (Wset q u) W' q (x.eff s') w') := fun W' v u s s' t t' h => laid_any (Wset q u) W' q s' x W' h.st.atV (hok.keep h.st.bl h.st.dV)
      have HTk : Hid (∀ (r : Nat) (s : K.RS) (W' : World), Rr W' r s → Calls Tryz.prog 33 #[.pointer (some ⟨r, 0, none⟩), .agg x.row.toArray] W' (TkE r (x.rd s) (x.td s) W')) := fun r s W' h => took_any r s x W' h hok.w1 hok.w2
      have HTn : Hid (∀ (r : Nat) (s : K.RS) (W' : World), Qr W' r s → Calls Tryz.prog 34 #[.pointer (some ⟨r, 0, none⟩), .agg x.row.toArray] W' (TkQ r (x.rd s) (x.td s) W')) := fun r s W' h => taken_any r s x W' h hok.w1 hok.w2
      have HI3 := hide (show (Tryz.prog.info? 74).map (·.size) = some x.row.length by rw [info_step]; rfl)
      clear hok hx hrow hok0 hrow0
      generalize x.row = cs at *
      go_wp2_with (refine wpList_load_mid rfl 74 _ rfl b (off + i * 11) rfl cs _ (HRW.out _ HD.out.st.bl) Tryz.underlying74 rfl HI3.out ?_)
      go_at_call 31
      refine (HPu.out _ _ _ _ _ _ _ HD.out).mono ?_
      rintro e w10 ⟨rfl, h10⟩
      obtain ⟨v1, HO1⟩ := HD.out.wput h10
      have HD1 := hide HO1
      clear h10 HO1 HD
      go_wp2_with (refine wpList_load_mid rfl 74 _ rfl b (off + i * 11) rfl cs _ (HRW.out _ HD1.out.st.bl) Tryz.underlying74 rfl HI3.out ?_)
      go_at_call 32
      refine (HLa.out _ _ _ _ _ _ _ HD1.out).mono ?_
      rintro e w11 ⟨rfl, h11⟩
      obtain ⟨u1, HO2⟩ := HD1.out.vput h11
      have HD2 := hide HO2
      clear h11 HO2 HD1
      go_wp2_with (refine wpList_load_mid rfl 74 _ rfl b (off + i * 11) rfl cs _ (HRW.out _ HD2.out.st.bl) Tryz.underlying74 rfl HI3.out ?_)
      go_at_call 33
      refine (HTk.out r t _ HD2.out.rr).mono ?_
      rintro e w12 ⟨v12, rfl, htd12, hr12, hk12⟩
      have HD3 := hide (HD2.out.rtook hr12 hk12)
      clear hr12 hk12 htd12 HD2
      go_wp2_with (refine wpList_load_mid rfl 74 _ rfl b (off + i * 11) rfl cs _ (HRW.out _ HD3.out.st.bl) Tryz.underlying74 rfl HI3.out ?_)
      go_at_call 34
      refine (HTn.out m t _ HD3.out.qr).mono ?_
      rintro e w13 ⟨v13, rfl, htd13, hr13, hk13⟩
      have HD4 := hide (HD3.out.qtook hr13 hk13)
      clear hr13 hk13 htd13 HD3
      go_wp2_with fail
      exact ⟨⟨i + 1, by go_num, by omega, _, _, _, _, HD4.out⟩, by simp [intOf]; omega⟩
      -->L
    · obtain rfl : i = nB := by omega
      clear HQ hlt
      have HMW : Hid (w.heap.size ≤ m) := Nat.le_trans (Nat.le_trans HBA.out.size HD.out.rB) (Nat.le_of_lt HD.out.rm)
      have HRW : Hid (w.heap.size ≤ r) := Nat.le_trans HBA.out.size HD.out.rB
      have HSZ : Hid (m < wr.heap.size ∧ r < m) := ⟨HD.out.qr.lt, HD.out.rm⟩
      obtain ⟨_, _, _, _, cm2, _⟩ := HD.out.qr.see
      have cq2 : wr.cell? ⟨q, 2, none⟩ = some (.int .i64 (s.fault : Nat)) := by rw [cell_of_row _ _ _ _ _ _ HD.out.st.vr.blk]; rfl
      clear cm2
      by_cases hz : s.fault = 0
      · as_aux_lemma =>
        have HZ := hide hz
        have cq2' : wr.cell? ⟨q, 2, none⟩ = some (.int .i64 0) := by rw [cq2, hz]; rfl
        clear cq2 hz
        have HAx := hide (blkB HBX.out.x HD.out.st.bl)
        go_wp2_with (refine wpList_load_row rfl 33 _ rfl xb rfl 33 #[.int .i64 n, .string st] (0, 0) _ HAx.out Tryz.underlying33 rfl (HI2.out _ _) ?_)
        go_at_call 15
        refine (layed_any (Wset q u) _ q s n hn st hst _ HD.out.st.atV).mono ?_
        rintro e w10 ⟨rfl, h10⟩
        obtain ⟨u1, HO1⟩ := HD.out.vput h10
        have HD1 := hide HO1
        clear h10 HO1 HD cq2' HAx
        have HAx := hide (blkB HBX.out.x HD1.out.st.bl)
        have HAf := hide (blkB HBX.out.f HD1.out.st.bl)
        have HPU := hide (putOnce1 p cb tb v s n hn st hst w10 HD1.out.st.wr (blkB HBX.out.c HD1.out.st.bl) (blkB HBX.out.t HD1.out.st.bl) HZ.out)
        go_wp2_with (first | (refine wpList_load_row rfl 37 _ rfl fb rfl 37 #[.func (.func 28) #[] #[.pointer (some ⟨cb, 0, none⟩), .pointer (some ⟨tb, 0, none⟩)], .func (.func 29) #[] #[.pointer (some ⟨cb, 0, none⟩)]] (0, 0) _ HAf.out Tryz.underlying37 rfl (HIF.out _ _) ?_) | (refine wpList_load_row rfl 33 _ rfl xb rfl 33 #[.int .i64 n, .string st] (0, 0) _ HAx.out Tryz.underlying33 rfl (HI2.out _ _) ?_))
        go_at_call 35
        refine (HPU.out).mono ?_
        rintro e w11 ⟨rfl, h11⟩
        obtain ⟨hA, hB⟩ := HD1.out.af1 HBX.out h11
        have HA := hide hA
        have HB := hide hB
        have HRM := hide HD1.out.rm
        clear h11 hA hB HAx HAf HD1 HPU
        generalize layE n st s = S at *
        obtain ⟨v2, hW2⟩ := HA.out.atW
        go_wp2_with fail
        refine (Done_any (Wset p v2) _ p S _ hW2).mono ?_
        rintro e w12 ⟨vx, rfl, ho12, hb12, hf12⟩
        obtain ⟨ax, cx, hvx⟩ := ownsRow_shape ho12
        subst hvx
        have HA12 := hide (HA.out.new hb12)
        have HB12 := hide (HB.out.trans (hb12.mono HB.out.size))
        have HO12 := hide (ownsRow_base ho12 (Nat.zero_le _))
        have HF12 := hide hf12
        clear ho12 hb12 hf12 HA HB hW2
        obtain ⟨v3, hV3⟩ := HA12.out.atV
        go_wp2_with fail
        refine (RDone_any (Wset q v3) _ q S _ hV3).mono ?_
        rintro e w13 ⟨vy, rfl, ho13, hb13, _⟩
        obtain ⟨ay, cy, hvy⟩ := ownsRow_shape ho13
        subst hvy
        have HA13 := hide (HA12.out.new hb13)
        have HB13 := hide (HB12.out.trans (hb13.mono HB12.out.size))
        have HX13 := hide (rd_out HO12.out HF12.out.1 (by have := HF12.out.2; omega) hb13)
        have HY13 := hide (rd_out (ownsRow_base ho13 (Nat.zero_le _)) HF12.out.1 (by have := HF12.out.2; omega) (Below.refl _ _))
        clear ho13 hb13 HA12 HB12 HO12 HF12 hV3
        generalize told S = L at *
        go_wp2_with fail
        refine (alike_same ax ay L.length cx L.length cy _ L _ HX13.out HY13.out).mono ?_
        rintro e w14 ⟨rfl, rfl⟩
        clear HX13 HY13
        have c0 := (numB_cell HA13.out.c).1
        obtain ⟨t0, t1⟩ := cells2 HA13.out.t
        obtain ⟨x0, x1⟩ := cells2 HA13.out.x
        have hne := neqT n st
        obtain ⟨hx15, hb15⟩ := alloc_set (w := w14) #[.int .i64 0, .string ⟨#[]⟩] 33 #[.int .i64 0, .string ⟨#[]⟩]
        have HX15 := hide hx15
        have HB15 := hide hb15
        clear hx15 hb15
        have HG13 := hide (HA13.out.ag HRM.out)
        clear HA13
        go_upto_region 34 with (refine wpList_store_row rfl 33 _ _ rfl w14.heap.size #[.int .i64 0, .string ⟨#[]⟩] rfl rfl 33 _ (heap_alloc_new _ _) (HI2.out _ _) rfl (one2 _ _) ?_)
        change Code.wp _ _ _ _ ((w14.alloc (.cells #[.int .i64 0, .string ⟨#[]⟩] 33)).setRow w14.heap.size #[.int .i64 0, .string ⟨#[]⟩])
        generalize (w14.alloc (.cells #[.int .i64 0, .string ⟨#[]⟩] 33)).setRow w14.heap.size #[.int .i64 0, .string ⟨#[]⟩] = w15 at *
        have HG15 := hide (HG13.out.new HB15.out)
        have HB15' := hide (HB13.out.trans (HB15.out.mono HB13.out.size))
        have HLT : Hid (m < w14.heap.size ∧ cb < w14.heap.size ∧ fb < w14.heap.size ∧ w.heap.size ≤ w14.heap.size) := ⟨HG13.out.qr.lt, (Array.getElem?_eq_some_iff.1 HG13.out.c).1, (Array.getElem?_eq_some_iff.1 HG13.out.f).1, HB13.out.size⟩
        clear c0 t0 t1 x0 x1 hne HG13 HB13 HB15
        generalize w14.heap.size = yb at *
        obtain ⟨_, _, _, _, cm2, _⟩ := HG15.out.qr.see
        by_cases ht : t.fault = 0
        · have cm2' : w15.cell? ⟨m, 2, none⟩ = some (.int .i64 0) := by rw [cm2, ht]; rfl
          have HT := hide ht
          have HTk : Hid (takeR getE t = getE t) := by show _ = _; unfold takeR; rw [if_pos ht]
          have HCn : Hid (cnt2 t 1 = 101) := by show _ = _; unfold cnt2; rw [if_pos ht]; rfl
          clear cm2 ht
          go_wp2_with fail
          refine (got_any m t _ HG15.out.qr).mono ?_
          rintro e w16 ⟨rfl, hq16, hk16⟩
          have HG16 := hide (HG15.out.qtook hq16 hk16)
          have HX16 := hide (hk16.blk HX15.out (fun e => by have : yb = m := e; have := HLT.out.1; omega))
          have HB16 := hide (HB15'.out.trans (hk16.below HB15'.out.size fun k e => by rw [e]; exact HMW.out))
          clear hq16 hk16 HG15 HX15 HB15' cm2'
          go_upto_region 37 with (refine wpList_store_row rfl 33 _ _ rfl yb #[.int .i64 (getN t), .string (getS t)] rfl rfl 33 _ HX16.out (HI2.out _ _) rfl (one2 _ _) ?_)
          change Code.wp _ _ _ _ (w16.setRow yb #[.int .i64 (getN t), .string (getS t)])
          have hk17 := keep_row w16 yb #[.int .i64 (getN t), .string (getS t)]
          have hx17 := setRow_heap w16 yb _ #[.int .i64 (getN t), .string (getS t)] _ _ HX16.out
          generalize w16.setRow yb #[.int .i64 (getN t), .string (getS t)] = w17 at *
          have HG17 := hide (HG16.out.stay HLT.out.1 HLT.out.2.1 HLT.out.2.2.1 (keepB hk17))
          have HX17 := hide hx17
          have HB17 := hide (HB16.out.trans (hk17.below HB16.out.size fun k e => by rw [e]; exact HLT.out.2.2.2))
          clear hk17 hx17 HG16 HX16 HB16
          obtain ⟨_, _, _, _, cm2, _⟩ := HG17.out.qr.see
          by_cases hf : (getE t).fault = 0
          · as_aux_lemma =>
            have cm2' : w17.cell? ⟨m, 2, none⟩ = some (.int .i64 0) := by rw [cm2, hf]; rfl
            clear cm2
            have HVe : Hid ((if (takeR getE t).fault = 0 then #[.int .i64 (getN t), .string (getS t)] else zT) = #[.int .i64 (getN t), .string (getS t)]) := by show _ = _; rw [HTk.out, if_pos hf]
            clear hf
            have HTO := hide (takeOnce r cb tb t 1 (by decide) w17 HG17.out.rr HG17.out.c)
            go_wp2_with (refine wpList_load_row rfl 37 _ rfl fb rfl 37 #[.func (.func 28) #[] #[.pointer (some ⟨cb, 0, none⟩), .pointer (some ⟨tb, 0, none⟩)], .func (.func 29) #[] #[.pointer (some ⟨cb, 0, none⟩)]] (0, 0) _ HG17.out.f Tryz.underlying37 rfl (HIF.out _ _) ?_)
            go_at_call 37
            refine (HTO.out).mono ?_
            rintro e w20 ⟨rfl, hk20, ht20⟩
            rw [HVe.out]
            rw [HCn.out, HTk.out] at ht20
            have HG20 := hide (HG17.out.rtook ht20 hk20)
            have HX20 := hide (hk20.blk HX17.out (fun e => by have : yb = r ∨ yb = cb := e; have := HLT.out.1; have := HLT.out.2.1; have := HG17.out.rm; omega))
            have HB20 := hide (HB17.out.trans (hk20.below HB17.out.size fun k e => by
              rcases e with rfl | rfl
              · exact HRW.out
              · exact HBX.out.gc))
            clear hk20 ht20 HTO
            obtain ⟨hx21, hb21⟩ := alloc_set (w := w20) #[.int .i64 0, .string ⟨#[]⟩] 33 #[.int .i64 (getN t), .string (getS t)]
            have HX21 := hide hx21
            have HB21 := hide hb21
            clear hx21 hb21
            go_upto_region 40 with (refine wpList_store_row rfl 33 _ _ rfl w20.heap.size #[.int .i64 (getN t), .string (getS t)] rfl rfl 33 _ (heap_alloc_new _ _) (HI2.out _ _) rfl (one2 _ _) ?_)
            change Code.wp _ _ _ _ ((w20.alloc (.cells #[.int .i64 0, .string ⟨#[]⟩] 33)).setRow w20.heap.size #[.int .i64 (getN t), .string (getS t)])
            generalize (w20.alloc (.cells #[.int .i64 0, .string ⟨#[]⟩] 33)).setRow w20.heap.size #[.int .i64 (getN t), .string (getS t)] = w21 at *
            have HG21 := hide (HG20.out.new HB21.out)
            have HY21 := hide (blkB HX20.out HB21.out)
            have HBB21 := hide (HB20.out.trans (HB21.out.mono HB20.out.size))
            generalize w20.heap.size = zb at *
            clear HG20 HX20 HB20 HB21
            obtain ⟨y0, y1⟩ := cells2 HY21.out
            obtain ⟨z0, z1⟩ := cells2 HX21.out
            have c0 := (numB_cell HG21.out.c).1
            obtain ⟨_, _, _, cm1, cm2, _⟩ := HG21.out.qr.see
            have HAt : Hid (∀ k, Calls Tryz.prog 26 #[.pointer (some ⟨r, 0, none⟩)] (w21.drewN k) fun en w' => en = .returned (.int .i64 (((getE t)).taken : Nat)) ∧ w' = w21.drewN k) := fun k => at_any r (getE t) _ (HG21.out.rr.below (drewN_below _ _))
            have HEr : Hid (∀ k, Calls Tryz.prog 27 #[.pointer (some ⟨r, 0, none⟩)] (w21.drewN k) fun en w' => en = .returned (.int .i64 (((getE t)).fault : Nat)) ∧ w' = w21.drewN k) := fun k => err_any r (getE t) _ (HG21.out.rr.below (drewN_below _ _))
            have heq : ∀ w, (binOp .eql 33 (.agg #[.int .i64 (getN t), .string (getS t)]) (.agg #[.int .i64 (getN t), .string (getS t)])).run Tryz.prog w = .ok (.bool true) w := fun w => eqT _ _ w
            go_quiet (first
              | (go_at_call 26; exact (HAt.out _).mono (fun _ _ h => ⟨h.1, ⟨_, h.2⟩⟩))
              | (go_at_call 27; exact (HEr.out _).mono (fun _ _ h => ⟨h.1, ⟨_, h.2⟩⟩)))
            go_wp2_with fail
            go_ret
            exact ⟨rfl, HBB21.out.trans ((drewN_below _ _).mono HBB21.out.size)⟩

          · as_aux_lemma =>
            have hf' : ((((getE t).fault : Nat) : Int) == 0) = false := by simpa using hf
            have HVe : Hid ((if (takeR getE t).fault = 0 then #[.int .i64 (getN t), .string (getS t)] else zT) = #[.int .i64 0, .string ⟨#[]⟩]) := by show _ = _; rw [HTk.out, if_neg hf]; rfl
            clear hf
            go_upto_region 39 with (refine wpList_store_row rfl 33 _ _ rfl yb #[.int .i64 0, .string ⟨#[]⟩] rfl rfl 33 _ HX17.out (HI2.out _ _) rfl (one2 _ _) ?_)
            change Code.wp _ _ _ _ (w17.setRow yb #[.int .i64 0, .string ⟨#[]⟩])
            have hk18 := keep_row w17 yb #[.int .i64 0, .string ⟨#[]⟩]
            have hx18 := setRow_heap w17 yb _ #[.int .i64 0, .string ⟨#[]⟩] _ _ HX17.out
            generalize w17.setRow yb #[.int .i64 0, .string ⟨#[]⟩] = w18 at *
            have HG18 := hide (HG17.out.stay HLT.out.1 HLT.out.2.1 HLT.out.2.2.1 (keepB hk18))
            have HX18 := hide hx18
            have HB18 := hide (HB17.out.trans (hk18.below HB17.out.size fun k e => by rw [e]; exact HLT.out.2.2.2))
            clear hk18 hx18
            have HTO := hide (takeOnce r cb tb t 1 (by decide) w18 HG18.out.rr HG18.out.c)
            go_wp2_with (refine wpList_load_row rfl 37 _ rfl fb rfl 37 #[.func (.func 28) #[] #[.pointer (some ⟨cb, 0, none⟩), .pointer (some ⟨tb, 0, none⟩)], .func (.func 29) #[] #[.pointer (some ⟨cb, 0, none⟩)]] (0, 0) _ HG18.out.f Tryz.underlying37 rfl (HIF.out _ _) ?_)
            go_at_call 37
            refine (HTO.out).mono ?_
            rintro e w20 ⟨rfl, hk20, ht20⟩
            rw [HVe.out]
            rw [HCn.out, HTk.out] at ht20
            have HG20 := hide (HG18.out.rtook ht20 hk20)
            have HX20 := hide (hk20.blk HX18.out (fun e => by have : yb = r ∨ yb = cb := e; have := HLT.out.1; have := HLT.out.2.1; have := HG18.out.rm; omega))
            have HB20 := hide (HB18.out.trans (hk20.below HB18.out.size fun k e => by
              rcases e with rfl | rfl
              · exact HRW.out
              · exact HBX.out.gc))
            clear hk20 ht20 HTO
            obtain ⟨hx21, hb21⟩ := alloc_set (w := w20) #[.int .i64 0, .string ⟨#[]⟩] 33 #[.int .i64 0, .string ⟨#[]⟩]
            have HX21 := hide hx21
            have HB21 := hide hb21
            clear hx21 hb21
            go_upto_region 40 with (refine wpList_store_row rfl 33 _ _ rfl w20.heap.size #[.int .i64 0, .string ⟨#[]⟩] rfl rfl 33 _ (heap_alloc_new _ _) (HI2.out _ _) rfl (one2 _ _) ?_)
            change Code.wp _ _ _ _ ((w20.alloc (.cells #[.int .i64 0, .string ⟨#[]⟩] 33)).setRow w20.heap.size #[.int .i64 0, .string ⟨#[]⟩])
            generalize (w20.alloc (.cells #[.int .i64 0, .string ⟨#[]⟩] 33)).setRow w20.heap.size #[.int .i64 0, .string ⟨#[]⟩] = w21 at *
            have HG21 := hide (HG20.out.new HB21.out)
            have HY21 := hide (blkB HX20.out HB21.out)
            have HBB21 := hide (HB20.out.trans (HB21.out.mono HB20.out.size))
            generalize w20.heap.size = zb at *
            clear HG20 HX20 HB20 HB21
            obtain ⟨y0, y1⟩ := cells2 HY21.out
            obtain ⟨z0, z1⟩ := cells2 HX21.out
            have c0 := (numB_cell HG21.out.c).1
            obtain ⟨_, _, _, cm1, cm2, _⟩ := HG21.out.qr.see
            have HAt : Hid (∀ k, Calls Tryz.prog 26 #[.pointer (some ⟨r, 0, none⟩)] (w21.drewN k) fun en w' => en = .returned (.int .i64 (((getE t)).taken : Nat)) ∧ w' = w21.drewN k) := fun k => at_any r (getE t) _ (HG21.out.rr.below (drewN_below _ _))
            have HEr : Hid (∀ k, Calls Tryz.prog 27 #[.pointer (some ⟨r, 0, none⟩)] (w21.drewN k) fun en w' => en = .returned (.int .i64 (((getE t)).fault : Nat)) ∧ w' = w21.drewN k) := fun k => err_any r (getE t) _ (HG21.out.rr.below (drewN_below _ _))
            have heq : ∀ w, (binOp .eql 33 (.agg #[.int .i64 0, .string ⟨#[]⟩]) (.agg #[.int .i64 0, .string ⟨#[]⟩])).run Tryz.prog w = .ok (.bool true) w := fun w => eqT _ _ w
            go_quiet (first
              | (go_at_call 26; exact (HAt.out _).mono (fun _ _ h => ⟨h.1, ⟨_, h.2⟩⟩))
              | (go_at_call 27; exact (HEr.out _).mono (fun _ _ h => ⟨h.1, ⟨_, h.2⟩⟩)))
            go_wp2_with fail
            go_ret
            exact ⟨rfl, HBB21.out.trans ((drewN_below _ _).mono HBB21.out.size)⟩

        · have ht' : (((t.fault : Nat) : Int) == 0) = false := by simpa using ht
          have HTk : Hid (takeR getE t = t) := by show _ = _; unfold takeR; rw [if_neg ht]
          have HCn : Hid (cnt2 t 1 = 1) := if_neg ht
          have HVe : Hid ((if (takeR getE t).fault = 0 then #[.int .i64 (getN t), .string (getS t)] else zT) = #[.int .i64 0, .string ⟨#[]⟩]) := by show _ = _; rw [HTk.out, if_neg ht]; rfl
          clear ht
          go_upto_region 39 with (refine wpList_store_row rfl 33 _ _ rfl yb #[.int .i64 0, .string ⟨#[]⟩] rfl rfl 33 _ HX15.out (HI2.out _ _) rfl (one2 _ _) ?_)
          change Code.wp _ _ _ _ (w15.setRow yb #[.int .i64 0, .string ⟨#[]⟩])
          have hk18 := keep_row w15 yb #[.int .i64 0, .string ⟨#[]⟩]
          have hx18 := setRow_heap w15 yb _ #[.int .i64 0, .string ⟨#[]⟩] _ _ HX15.out
          generalize w15.setRow yb #[.int .i64 0, .string ⟨#[]⟩] = w18 at *
          have HG18 := hide (HG15.out.stay HLT.out.1 HLT.out.2.1 HLT.out.2.2.1 (keepB hk18))
          have HX18 := hide hx18
          have HB18 := hide (HB15'.out.trans (hk18.below HB15'.out.size fun k e => by rw [e]; exact HLT.out.2.2.2))
          clear hk18 hx18
          have HTO := hide (takeOnce r cb tb t 1 (by decide) w18 HG18.out.rr HG18.out.c)
          go_wp2_with (refine wpList_load_row rfl 37 _ rfl fb rfl 37 #[.func (.func 28) #[] #[.pointer (some ⟨cb, 0, none⟩), .pointer (some ⟨tb, 0, none⟩)], .func (.func 29) #[] #[.pointer (some ⟨cb, 0, none⟩)]] (0, 0) _ HG18.out.f Tryz.underlying37 rfl (HIF.out _ _) ?_)
          go_at_call 37
          refine (HTO.out).mono ?_
          rintro e w20 ⟨rfl, hk20, ht20⟩
          rw [HVe.out]
          rw [HCn.out, HTk.out] at ht20
          have HG20 := hide (HG18.out.rtook ht20 hk20)
          have HX20 := hide (hk20.blk HX18.out (fun e => by have : yb = r ∨ yb = cb := e; have := HLT.out.1; have := HLT.out.2.1; have := HG18.out.rm; omega))
          have HB20 := hide (HB18.out.trans (hk20.below HB18.out.size fun k e => by
            rcases e with rfl | rfl
            · exact HRW.out
            · exact HBX.out.gc))
          clear hk20 ht20 HTO
          obtain ⟨hx21, hb21⟩ := alloc_set (w := w20) #[.int .i64 0, .string ⟨#[]⟩] 33 #[.int .i64 0, .string ⟨#[]⟩]
          have HX21 := hide hx21
          have HB21 := hide hb21
          clear hx21 hb21
          go_upto_region 40 with (refine wpList_store_row rfl 33 _ _ rfl w20.heap.size #[.int .i64 0, .string ⟨#[]⟩] rfl rfl 33 _ (heap_alloc_new _ _) (HI2.out _ _) rfl (one2 _ _) ?_)
          change Code.wp _ _ _ _ ((w20.alloc (.cells #[.int .i64 0, .string ⟨#[]⟩] 33)).setRow w20.heap.size #[.int .i64 0, .string ⟨#[]⟩])
          generalize (w20.alloc (.cells #[.int .i64 0, .string ⟨#[]⟩] 33)).setRow w20.heap.size #[.int .i64 0, .string ⟨#[]⟩] = w21 at *
          have HG21 := hide (HG20.out.new HB21.out)
          have HY21 := hide (blkB HX20.out HB21.out)
          have HBB21 := hide (HB20.out.trans (HB21.out.mono HB20.out.size))
          generalize w20.heap.size = zb at *
          clear HG20 HX20 HB20 HB21
          obtain ⟨y0, y1⟩ := cells2 HY21.out
          obtain ⟨z0, z1⟩ := cells2 HX21.out
          have c0 := (numB_cell HG21.out.c).1
          obtain ⟨_, _, _, cm1, cm2, _⟩ := HG21.out.qr.see
          have HAt : Hid (∀ k, Calls Tryz.prog 26 #[.pointer (some ⟨r, 0, none⟩)] (w21.drewN k) fun en w' => en = .returned (.int .i64 ((t).taken : Nat)) ∧ w' = w21.drewN k) := fun k => at_any r t _ (HG21.out.rr.below (drewN_below _ _))
          have HEr : Hid (∀ k, Calls Tryz.prog 27 #[.pointer (some ⟨r, 0, none⟩)] (w21.drewN k) fun en w' => en = .returned (.int .i64 ((t).fault : Nat)) ∧ w' = w21.drewN k) := fun k => err_any r t _ (HG21.out.rr.below (drewN_below _ _))
          have heq : ∀ w, (binOp .eql 33 (.agg #[.int .i64 0, .string ⟨#[]⟩]) (.agg #[.int .i64 0, .string ⟨#[]⟩])).run Tryz.prog w = .ok (.bool true) w := fun w => eqT _ _ w
          go_quiet (first
            | (go_at_call 26; exact (HAt.out _).mono (fun _ _ h => ⟨h.1, ⟨_, h.2⟩⟩))
            | (go_at_call 27; exact (HEr.out _).mono (fun _ _ h => ⟨h.1, ⟨_, h.2⟩⟩)))
          go_wp2_with fail
          go_ret
          exact ⟨rfl, HBB21.out.trans ((drewN_below _ _).mono HBB21.out.size)⟩

      · as_aux_lemma =>
        have HZ := hide hz
        have hz' : (((s.fault : Nat) : Int) == 0) = false := by simpa using hz
        clear hz
        have HAx := hide (blkB HBX.out.x HD.out.st.bl)
        have HAf := hide (blkB HBX.out.f HD.out.st.bl)
        have HPU := hide (putOnce0 p cb tb v s n st wr HD.out.st.wr HZ.out)
        go_wp2_with (first | (refine wpList_load_row rfl 37 _ rfl fb rfl 37 #[.func (.func 28) #[] #[.pointer (some ⟨cb, 0, none⟩), .pointer (some ⟨tb, 0, none⟩)], .func (.func 29) #[] #[.pointer (some ⟨cb, 0, none⟩)]] (0, 0) _ HAf.out Tryz.underlying37 rfl (HIF.out _ _) ?_) | (refine wpList_load_row rfl 33 _ rfl xb rfl 33 #[.int .i64 n, .string st] (0, 0) _ HAx.out Tryz.underlying33 rfl (HI2.out _ _) ?_))
        go_at_call 35
        refine (HPU.out).mono ?_
        rintro e w11 ⟨rfl, h11⟩
        have HA := hide ((HD.out.af0 HBX.out).new h11)
        have HB := hide ((HBX.out.bl.trans (HD.out.st.bl.mono HBX.out.bl.size)).trans (h11.mono (Nat.le_trans HBX.out.bl.size HD.out.st.bl.size)))
        have HRM := hide HD.out.rm
        clear h11 HAx HAf HD cq2 hz' HPU
        generalize s = S at *
        obtain ⟨v2, hW2⟩ := HA.out.atW
        go_wp2_with fail
        refine (Done_any (Wset p v2) _ p S _ hW2).mono ?_
        rintro e w12 ⟨vx, rfl, ho12, hb12, hf12⟩
        obtain ⟨ax, cx, hvx⟩ := ownsRow_shape ho12
        subst hvx
        have HA12 := hide (HA.out.new hb12)
        have HB12 := hide (HB.out.trans (hb12.mono HB.out.size))
        have HO12 := hide (ownsRow_base ho12 (Nat.zero_le _))
        have HF12 := hide hf12
        clear ho12 hb12 hf12 HA HB hW2
        obtain ⟨v3, hV3⟩ := HA12.out.atV
        go_wp2_with fail
        refine (RDone_any (Wset q v3) _ q S _ hV3).mono ?_
        rintro e w13 ⟨vy, rfl, ho13, hb13, _⟩
        obtain ⟨ay, cy, hvy⟩ := ownsRow_shape ho13
        subst hvy
        have HA13 := hide (HA12.out.new hb13)
        have HB13 := hide (HB12.out.trans (hb13.mono HB12.out.size))
        have HX13 := hide (rd_out HO12.out HF12.out.1 (by have := HF12.out.2; omega) hb13)
        have HY13 := hide (rd_out (ownsRow_base ho13 (Nat.zero_le _)) HF12.out.1 (by have := HF12.out.2; omega) (Below.refl _ _))
        clear ho13 hb13 HA12 HB12 HO12 HF12 hV3
        generalize told S = L at *
        go_wp2_with fail
        refine (alike_same ax ay L.length cx L.length cy _ L _ HX13.out HY13.out).mono ?_
        rintro e w14 ⟨rfl, rfl⟩
        clear HX13 HY13
        have c0 := (numB_cell HA13.out.c).1
        obtain ⟨t0, t1⟩ := cells2 HA13.out.t
        obtain ⟨x0, x1⟩ := cells2 HA13.out.x
        have hne := neqT n st
        obtain ⟨hx15, hb15⟩ := alloc_set (w := w14) #[.int .i64 0, .string ⟨#[]⟩] 33 #[.int .i64 0, .string ⟨#[]⟩]
        have HX15 := hide hx15
        have HB15 := hide hb15
        clear hx15 hb15
        have HG13 := hide (HA13.out.ag HRM.out)
        clear HA13
        go_upto_region 34 with (refine wpList_store_row rfl 33 _ _ rfl w14.heap.size #[.int .i64 0, .string ⟨#[]⟩] rfl rfl 33 _ (heap_alloc_new _ _) (HI2.out _ _) rfl (one2 _ _) ?_)
        change Code.wp _ _ _ _ ((w14.alloc (.cells #[.int .i64 0, .string ⟨#[]⟩] 33)).setRow w14.heap.size #[.int .i64 0, .string ⟨#[]⟩])
        generalize (w14.alloc (.cells #[.int .i64 0, .string ⟨#[]⟩] 33)).setRow w14.heap.size #[.int .i64 0, .string ⟨#[]⟩] = w15 at *
        have HG15 := hide (HG13.out.new HB15.out)
        have HB15' := hide (HB13.out.trans (HB15.out.mono HB13.out.size))
        have HLT : Hid (m < w14.heap.size ∧ cb < w14.heap.size ∧ fb < w14.heap.size ∧ w.heap.size ≤ w14.heap.size) := ⟨HG13.out.qr.lt, (Array.getElem?_eq_some_iff.1 HG13.out.c).1, (Array.getElem?_eq_some_iff.1 HG13.out.f).1, HB13.out.size⟩
        clear c0 t0 t1 x0 x1 hne HG13 HB13 HB15
        generalize w14.heap.size = yb at *
        obtain ⟨_, _, _, _, cm2, _⟩ := HG15.out.qr.see
        by_cases ht : t.fault = 0
        · have cm2' : w15.cell? ⟨m, 2, none⟩ = some (.int .i64 0) := by rw [cm2, ht]; rfl
          have HT := hide ht
          have HTk : Hid (takeR getE t = getE t) := by show _ = _; unfold takeR; rw [if_pos ht]
          have HCn : Hid (cnt2 t 0 = 100) := by show _ = _; unfold cnt2; rw [if_pos ht]; rfl
          clear cm2 ht
          go_wp2_with fail
          refine (got_any m t _ HG15.out.qr).mono ?_
          rintro e w16 ⟨rfl, hq16, hk16⟩
          have HG16 := hide (HG15.out.qtook hq16 hk16)
          have HX16 := hide (hk16.blk HX15.out (fun e => by have : yb = m := e; have := HLT.out.1; omega))
          have HB16 := hide (HB15'.out.trans (hk16.below HB15'.out.size fun k e => by rw [e]; exact HMW.out))
          clear hq16 hk16 HG15 HX15 HB15' cm2'
          go_upto_region 37 with (refine wpList_store_row rfl 33 _ _ rfl yb #[.int .i64 (getN t), .string (getS t)] rfl rfl 33 _ HX16.out (HI2.out _ _) rfl (one2 _ _) ?_)
          change Code.wp _ _ _ _ (w16.setRow yb #[.int .i64 (getN t), .string (getS t)])
          have hk17 := keep_row w16 yb #[.int .i64 (getN t), .string (getS t)]
          have hx17 := setRow_heap w16 yb _ #[.int .i64 (getN t), .string (getS t)] _ _ HX16.out
          generalize w16.setRow yb #[.int .i64 (getN t), .string (getS t)] = w17 at *
          have HG17 := hide (HG16.out.stay HLT.out.1 HLT.out.2.1 HLT.out.2.2.1 (keepB hk17))
          have HX17 := hide hx17
          have HB17 := hide (HB16.out.trans (hk17.below HB16.out.size fun k e => by rw [e]; exact HLT.out.2.2.2))
          clear hk17 hx17 HG16 HX16 HB16
          obtain ⟨_, _, _, _, cm2, _⟩ := HG17.out.qr.see
          by_cases hf : (getE t).fault = 0
          · as_aux_lemma =>
            have cm2' : w17.cell? ⟨m, 2, none⟩ = some (.int .i64 0) := by rw [cm2, hf]; rfl
            clear cm2
            have HVe : Hid ((if (takeR getE t).fault = 0 then #[.int .i64 (getN t), .string (getS t)] else zT) = #[.int .i64 (getN t), .string (getS t)]) := by show _ = _; rw [HTk.out, if_pos hf]
            clear hf
            have HTO := hide (takeOnce r cb tb t 0 (by decide) w17 HG17.out.rr HG17.out.c)
            go_wp2_with (refine wpList_load_row rfl 37 _ rfl fb rfl 37 #[.func (.func 28) #[] #[.pointer (some ⟨cb, 0, none⟩), .pointer (some ⟨tb, 0, none⟩)], .func (.func 29) #[] #[.pointer (some ⟨cb, 0, none⟩)]] (0, 0) _ HG17.out.f Tryz.underlying37 rfl (HIF.out _ _) ?_)
            go_at_call 37
            refine (HTO.out).mono ?_
            rintro e w20 ⟨rfl, hk20, ht20⟩
            rw [HVe.out]
            rw [HCn.out, HTk.out] at ht20
            have HG20 := hide (HG17.out.rtook ht20 hk20)
            have HX20 := hide (hk20.blk HX17.out (fun e => by have : yb = r ∨ yb = cb := e; have := HLT.out.1; have := HLT.out.2.1; have := HG17.out.rm; omega))
            have HB20 := hide (HB17.out.trans (hk20.below HB17.out.size fun k e => by
              rcases e with rfl | rfl
              · exact HRW.out
              · exact HBX.out.gc))
            clear hk20 ht20 HTO
            obtain ⟨hx21, hb21⟩ := alloc_set (w := w20) #[.int .i64 0, .string ⟨#[]⟩] 33 #[.int .i64 (getN t), .string (getS t)]
            have HX21 := hide hx21
            have HB21 := hide hb21
            clear hx21 hb21
            go_upto_region 40 with (refine wpList_store_row rfl 33 _ _ rfl w20.heap.size #[.int .i64 (getN t), .string (getS t)] rfl rfl 33 _ (heap_alloc_new _ _) (HI2.out _ _) rfl (one2 _ _) ?_)
            change Code.wp _ _ _ _ ((w20.alloc (.cells #[.int .i64 0, .string ⟨#[]⟩] 33)).setRow w20.heap.size #[.int .i64 (getN t), .string (getS t)])
            generalize (w20.alloc (.cells #[.int .i64 0, .string ⟨#[]⟩] 33)).setRow w20.heap.size #[.int .i64 (getN t), .string (getS t)] = w21 at *
            have HG21 := hide (HG20.out.new HB21.out)
            have HY21 := hide (blkB HX20.out HB21.out)
            have HBB21 := hide (HB20.out.trans (HB21.out.mono HB20.out.size))
            generalize w20.heap.size = zb at *
            clear HG20 HX20 HB20 HB21
            obtain ⟨y0, y1⟩ := cells2 HY21.out
            obtain ⟨z0, z1⟩ := cells2 HX21.out
            have c0 := (numB_cell HG21.out.c).1
            obtain ⟨_, _, _, cm1, cm2, _⟩ := HG21.out.qr.see
            have HAt : Hid (∀ k, Calls Tryz.prog 26 #[.pointer (some ⟨r, 0, none⟩)] (w21.drewN k) fun en w' => en = .returned (.int .i64 (((getE t)).taken : Nat)) ∧ w' = w21.drewN k) := fun k => at_any r (getE t) _ (HG21.out.rr.below (drewN_below _ _))
            have HEr : Hid (∀ k, Calls Tryz.prog 27 #[.pointer (some ⟨r, 0, none⟩)] (w21.drewN k) fun en w' => en = .returned (.int .i64 (((getE t)).fault : Nat)) ∧ w' = w21.drewN k) := fun k => err_any r (getE t) _ (HG21.out.rr.below (drewN_below _ _))
            have heq : ∀ w, (binOp .eql 33 (.agg #[.int .i64 (getN t), .string (getS t)]) (.agg #[.int .i64 (getN t), .string (getS t)])).run Tryz.prog w = .ok (.bool true) w := fun w => eqT _ _ w
            go_quiet (first
              | (go_at_call 26; exact (HAt.out _).mono (fun _ _ h => ⟨h.1, ⟨_, h.2⟩⟩))
              | (go_at_call 27; exact (HEr.out _).mono (fun _ _ h => ⟨h.1, ⟨_, h.2⟩⟩)))
            go_wp2_with fail
            go_ret
            exact ⟨rfl, HBB21.out.trans ((drewN_below _ _).mono HBB21.out.size)⟩

          · as_aux_lemma =>
            have hf' : ((((getE t).fault : Nat) : Int) == 0) = false := by simpa using hf
            have HVe : Hid ((if (takeR getE t).fault = 0 then #[.int .i64 (getN t), .string (getS t)] else zT) = #[.int .i64 0, .string ⟨#[]⟩]) := by show _ = _; rw [HTk.out, if_neg hf]; rfl
            clear hf
            go_upto_region 39 with (refine wpList_store_row rfl 33 _ _ rfl yb #[.int .i64 0, .string ⟨#[]⟩] rfl rfl 33 _ HX17.out (HI2.out _ _) rfl (one2 _ _) ?_)
            change Code.wp _ _ _ _ (w17.setRow yb #[.int .i64 0, .string ⟨#[]⟩])
            have hk18 := keep_row w17 yb #[.int .i64 0, .string ⟨#[]⟩]
            have hx18 := setRow_heap w17 yb _ #[.int .i64 0, .string ⟨#[]⟩] _ _ HX17.out
            generalize w17.setRow yb #[.int .i64 0, .string ⟨#[]⟩] = w18 at *
            have HG18 := hide (HG17.out.stay HLT.out.1 HLT.out.2.1 HLT.out.2.2.1 (keepB hk18))
            have HX18 := hide hx18
            have HB18 := hide (HB17.out.trans (hk18.below HB17.out.size fun k e => by rw [e]; exact HLT.out.2.2.2))
            clear hk18 hx18
            have HTO := hide (takeOnce r cb tb t 0 (by decide) w18 HG18.out.rr HG18.out.c)
            go_wp2_with (refine wpList_load_row rfl 37 _ rfl fb rfl 37 #[.func (.func 28) #[] #[.pointer (some ⟨cb, 0, none⟩), .pointer (some ⟨tb, 0, none⟩)], .func (.func 29) #[] #[.pointer (some ⟨cb, 0, none⟩)]] (0, 0) _ HG18.out.f Tryz.underlying37 rfl (HIF.out _ _) ?_)
            go_at_call 37
            refine (HTO.out).mono ?_
            rintro e w20 ⟨rfl, hk20, ht20⟩
            rw [HVe.out]
            rw [HCn.out, HTk.out] at ht20
            have HG20 := hide (HG18.out.rtook ht20 hk20)
            have HX20 := hide (hk20.blk HX18.out (fun e => by have : yb = r ∨ yb = cb := e; have := HLT.out.1; have := HLT.out.2.1; have := HG18.out.rm; omega))
            have HB20 := hide (HB18.out.trans (hk20.below HB18.out.size fun k e => by
              rcases e with rfl | rfl
              · exact HRW.out
              · exact HBX.out.gc))
            clear hk20 ht20 HTO
            obtain ⟨hx21, hb21⟩ := alloc_set (w := w20) #[.int .i64 0, .string ⟨#[]⟩] 33 #[.int .i64 0, .string ⟨#[]⟩]
            have HX21 := hide hx21
            have HB21 := hide hb21
            clear hx21 hb21
            go_upto_region 40 with (refine wpList_store_row rfl 33 _ _ rfl w20.heap.size #[.int .i64 0, .string ⟨#[]⟩] rfl rfl 33 _ (heap_alloc_new _ _) (HI2.out _ _) rfl (one2 _ _) ?_)
            change Code.wp _ _ _ _ ((w20.alloc (.cells #[.int .i64 0, .string ⟨#[]⟩] 33)).setRow w20.heap.size #[.int .i64 0, .string ⟨#[]⟩])
            generalize (w20.alloc (.cells #[.int .i64 0, .string ⟨#[]⟩] 33)).setRow w20.heap.size #[.int .i64 0, .string ⟨#[]⟩] = w21 at *
            have HG21 := hide (HG20.out.new HB21.out)
            have HY21 := hide (blkB HX20.out HB21.out)
            have HBB21 := hide (HB20.out.trans (HB21.out.mono HB20.out.size))
            generalize w20.heap.size = zb at *
            clear HG20 HX20 HB20 HB21
            obtain ⟨y0, y1⟩ := cells2 HY21.out
            obtain ⟨z0, z1⟩ := cells2 HX21.out
            have c0 := (numB_cell HG21.out.c).1
            obtain ⟨_, _, _, cm1, cm2, _⟩ := HG21.out.qr.see
            have HAt : Hid (∀ k, Calls Tryz.prog 26 #[.pointer (some ⟨r, 0, none⟩)] (w21.drewN k) fun en w' => en = .returned (.int .i64 (((getE t)).taken : Nat)) ∧ w' = w21.drewN k) := fun k => at_any r (getE t) _ (HG21.out.rr.below (drewN_below _ _))
            have HEr : Hid (∀ k, Calls Tryz.prog 27 #[.pointer (some ⟨r, 0, none⟩)] (w21.drewN k) fun en w' => en = .returned (.int .i64 (((getE t)).fault : Nat)) ∧ w' = w21.drewN k) := fun k => err_any r (getE t) _ (HG21.out.rr.below (drewN_below _ _))
            have heq : ∀ w, (binOp .eql 33 (.agg #[.int .i64 0, .string ⟨#[]⟩]) (.agg #[.int .i64 0, .string ⟨#[]⟩])).run Tryz.prog w = .ok (.bool true) w := fun w => eqT _ _ w
            go_quiet (first
              | (go_at_call 26; exact (HAt.out _).mono (fun _ _ h => ⟨h.1, ⟨_, h.2⟩⟩))
              | (go_at_call 27; exact (HEr.out _).mono (fun _ _ h => ⟨h.1, ⟨_, h.2⟩⟩)))
            go_wp2_with fail
            go_ret
            exact ⟨rfl, HBB21.out.trans ((drewN_below _ _).mono HBB21.out.size)⟩

        · have ht' : (((t.fault : Nat) : Int) == 0) = false := by simpa using ht
          have HTk : Hid (takeR getE t = t) := by show _ = _; unfold takeR; rw [if_neg ht]
          have HCn : Hid (cnt2 t 0 = 0) := if_neg ht
          have HVe : Hid ((if (takeR getE t).fault = 0 then #[.int .i64 (getN t), .string (getS t)] else zT) = #[.int .i64 0, .string ⟨#[]⟩]) := by show _ = _; rw [HTk.out, if_neg ht]; rfl
          clear ht
          go_upto_region 39 with (refine wpList_store_row rfl 33 _ _ rfl yb #[.int .i64 0, .string ⟨#[]⟩] rfl rfl 33 _ HX15.out (HI2.out _ _) rfl (one2 _ _) ?_)
          change Code.wp _ _ _ _ (w15.setRow yb #[.int .i64 0, .string ⟨#[]⟩])
          have hk18 := keep_row w15 yb #[.int .i64 0, .string ⟨#[]⟩]
          have hx18 := setRow_heap w15 yb _ #[.int .i64 0, .string ⟨#[]⟩] _ _ HX15.out
          generalize w15.setRow yb #[.int .i64 0, .string ⟨#[]⟩] = w18 at *
          have HG18 := hide (HG15.out.stay HLT.out.1 HLT.out.2.1 HLT.out.2.2.1 (keepB hk18))
          have HX18 := hide hx18
          have HB18 := hide (HB15'.out.trans (hk18.below HB15'.out.size fun k e => by rw [e]; exact HLT.out.2.2.2))
          clear hk18 hx18
          have HTO := hide (takeOnce r cb tb t 0 (by decide) w18 HG18.out.rr HG18.out.c)
          go_wp2_with (refine wpList_load_row rfl 37 _ rfl fb rfl 37 #[.func (.func 28) #[] #[.pointer (some ⟨cb, 0, none⟩), .pointer (some ⟨tb, 0, none⟩)], .func (.func 29) #[] #[.pointer (some ⟨cb, 0, none⟩)]] (0, 0) _ HG18.out.f Tryz.underlying37 rfl (HIF.out _ _) ?_)
          go_at_call 37
          refine (HTO.out).mono ?_
          rintro e w20 ⟨rfl, hk20, ht20⟩
          rw [HVe.out]
          rw [HCn.out, HTk.out] at ht20
          have HG20 := hide (HG18.out.rtook ht20 hk20)
          have HX20 := hide (hk20.blk HX18.out (fun e => by have : yb = r ∨ yb = cb := e; have := HLT.out.1; have := HLT.out.2.1; have := HG18.out.rm; omega))
          have HB20 := hide (HB18.out.trans (hk20.below HB18.out.size fun k e => by
            rcases e with rfl | rfl
            · exact HRW.out
            · exact HBX.out.gc))
          clear hk20 ht20 HTO
          obtain ⟨hx21, hb21⟩ := alloc_set (w := w20) #[.int .i64 0, .string ⟨#[]⟩] 33 #[.int .i64 0, .string ⟨#[]⟩]
          have HX21 := hide hx21
          have HB21 := hide hb21
          clear hx21 hb21
          go_upto_region 40 with (refine wpList_store_row rfl 33 _ _ rfl w20.heap.size #[.int .i64 0, .string ⟨#[]⟩] rfl rfl 33 _ (heap_alloc_new _ _) (HI2.out _ _) rfl (one2 _ _) ?_)
          change Code.wp _ _ _ _ ((w20.alloc (.cells #[.int .i64 0, .string ⟨#[]⟩] 33)).setRow w20.heap.size #[.int .i64 0, .string ⟨#[]⟩])
          generalize (w20.alloc (.cells #[.int .i64 0, .string ⟨#[]⟩] 33)).setRow w20.heap.size #[.int .i64 0, .string ⟨#[]⟩] = w21 at *
          have HG21 := hide (HG20.out.new HB21.out)
          have HY21 := hide (blkB HX20.out HB21.out)
          have HBB21 := hide (HB20.out.trans (HB21.out.mono HB20.out.size))
          generalize w20.heap.size = zb at *
          clear HG20 HX20 HB20 HB21
          obtain ⟨y0, y1⟩ := cells2 HY21.out
          obtain ⟨z0, z1⟩ := cells2 HX21.out
          have c0 := (numB_cell HG21.out.c).1
          obtain ⟨_, _, _, cm1, cm2, _⟩ := HG21.out.qr.see
          have HAt : Hid (∀ k, Calls Tryz.prog 26 #[.pointer (some ⟨r, 0, none⟩)] (w21.drewN k) fun en w' => en = .returned (.int .i64 ((t).taken : Nat)) ∧ w' = w21.drewN k) := fun k => at_any r t _ (HG21.out.rr.below (drewN_below _ _))
          have HEr : Hid (∀ k, Calls Tryz.prog 27 #[.pointer (some ⟨r, 0, none⟩)] (w21.drewN k) fun en w' => en = .returned (.int .i64 ((t).fault : Nat)) ∧ w' = w21.drewN k) := fun k => err_any r t _ (HG21.out.rr.below (drewN_below _ _))
          have heq : ∀ w, (binOp .eql 33 (.agg #[.int .i64 0, .string ⟨#[]⟩]) (.agg #[.int .i64 0, .string ⟨#[]⟩])).run Tryz.prog w = .ok (.bool true) w := fun w => eqT _ _ w
          go_quiet (first
            | (go_at_call 26; exact (HAt.out _).mono (fun _ _ h => ⟨h.1, ⟨_, h.2⟩⟩))
            | (go_at_call 27; exact (HEr.out _).mono (fun _ _ h => ⟨h.1, ⟨_, h.2⟩⟩)))
          go_wp2_with fail
          go_ret
          exact ⟨rfl, HBB21.out.trans ((drewN_below _ _).mono HBB21.out.size)⟩

end Wm
end Go.Proofs.YtoelgcagahmndaaGreat

/- PackOnce: the row. -/
namespace Go.Proofs.YtoelgcagahmndaaGreat
open Go.ChangeShapes Go.WideShapes Go.ChangeAt Go.RowKit Go.Joins Go.Deep

theorem array5o {α : Type} {cs : Array α} (h : cs.size = 5) : ∃ c0 c1 c2 c3 c4, cs = #[c0, c1, c2, c3, c4] := by
  obtain ⟨l⟩ := cs
  match l, h with
  | [c0, c1, c2, c3, c4], _ => exact ⟨c0, c1, c2, c3, c4, rfl⟩
theorem cells_of_int : Tryz.prog.cellsOf 3 = 1 := by kernel_rfl
theorem cells_of_str : Tryz.prog.cellsOf 9 = 1 := by kernel_rfl
theorem cells_of_steps : Tryz.prog.cellsOf 64 = 1 := by kernel_rfl
theorem cells_of_bytes : Tryz.prog.cellsOf 23 = 1 := by kernel_rfl
theorem cells_of_thing : Tryz.prog.cellsOf 33 = 2 := by kernel_rfl
theorem cells_of_behind : Tryz.prog.cellsOf 66 = 5 := by kernel_rfl
namespace PackOnce
set_option maxRecDepth 100000 in
theorem lifted (os : Os) (started : os.Started) (H : Type) (enc : TypeId × Value → H) :
    ReturnsInHanded {} Tryz.checked os 4 .any (Rows.packOnceSpec.pre6 enc Tryz.prog Tryz.f4 Rows.packOnceRow.domain false) (Rows.packOnceSpec.post enc Tryz.prog Tryz.f4 false true false false) := by
  refine returnsInHanded_of_change_sized (C := Tryz.checked) own started (by kernel_rfl) Tryz.func4
    (ChangeSpec.witness6 (enc := enc) (C := Tryz.checked) false ⟨#[], #[.agg #[.int .i64 0, .slice none 0 0, .int .i64 0, .string ⟨#[]⟩, .slice none 0 0]], []⟩ 8 (by kernel_rfl) (by kernel_rfl) (by kernel_rfl) (by kernel_rfl)) ?_
  intro W base args ds gs before hval0 hW _ hsz0 _
  have hsz : (DataW.weightsEach Tryz.prog (Tryz.f4.params.toList ++ Rows.packOnceSpec.plain.varTypes Tryz.prog) (ds ++ gs)).all (· ≤ reachBytes) = true := hsz0
  have hval : ∀ (j : Nat) t v, Tryz.f4.params[j]? = some t → args[j]? = some v → Value.okWide Tryz.prog W .any base t v := hval0
  have hW' := hW
  obtain ⟨p, q, hA0, hV, rfl, hfz, hnd⟩ := hW
  have hA : DataW.TrodAll enc Tryz.prog W 0 (fun _ => true) true Tryz.f4.params.toList args.toList ds p := hA0
  rw [Tryz.params4] at hA hval hsz
  obtain ⟨v0, d0, rfl, rfl, h0⟩ := trodAll_one hA
  obtain ⟨rfl, rfl⟩ := trodVars_none hV
  have lt0 : ∀ x ∈ p, x.block < W.heap.size := by obtain ⟨m, hm⟩ := h0; exact DataW.trod_lt m _ _ _ hm
  obtain ⟨cs, rfl, hcs⟩ := okWide_struct Tryz.underlying66 (hval 0 66 v0 rfl rfl)
  obtain ⟨c0, c1, c2, c3, c4, rfl⟩ := array5o (hcs.trans cells_of_behind)
  have h0' := h0
  obtain ⟨fuel, hf⟩ := h0'
  obtain ⟨xs, n, _, hx, _, hlen, hff⟩ := DataW.trod_struct Tryz.underlying66 hf
  match xs, hlen with
  | [y0, y1, y2, y3], _ =>
    simp only [Prod.mk.injEq] at hx
    have hd : d0 = .agg [y0.1, y1.1, y2.1, y3.1] := by simpa using hx.1
    have g0 : DataW.trod enc Tryz.prog W 0 (fun _ => true) true n 3 [c0] = some y0 := by simpa [Value.cells, cells_of_int] using hff 0 _ rfl
    have g1 : DataW.trod enc Tryz.prog W 0 (fun _ => true) true n 64 [c1] = some y1 := by simpa [Value.cells, cells_of_steps] using hff 1 _ rfl
    have g2 : DataW.trod enc Tryz.prog W 0 (fun _ => true) true n 33 [c2, c3] = some y2 := by simpa [Value.cells, cells_of_thing] using hff 2 _ rfl
    have g3 : DataW.trod enc Tryz.prog W 0 (fun _ => true) true n 23 [c4] = some y3 := by simpa [Value.cells, cells_of_bytes] using hff 3 _ rfl
    have hw0 := weigh hsz (j := 0) rfl rfl
    rw [hd] at hw0
    have hw1 := weigh_field Tryz.underlying66 hw0 (j := 1) rfl rfl
    have hw2 := weigh_field Tryz.underlying66 hw0 (j := 2) rfl rfl
    have hw3 := weigh_field Tryz.underlying66 hw0 (j := 3) rfl rfl
    obtain ⟨a0, e0, _, wf0⟩ := DataW.trod_int Tryz.underlying3 g0
    obtain ⟨z0, z1, k, hz, _, k0, k1⟩ := trod_struct2 Tryz.underlying33 g2
    have k0' : DataW.trod enc Tryz.prog W 0 (fun _ => true) true k 3 [c2] = some z0 := by simpa [cells_of_int] using k0
    have k1' : DataW.trod enc Tryz.prog W 0 (fun _ => true) true k 9 [c3] = some z1 := by simpa [cells_of_str] using k1
    obtain ⟨a2, e2, _, wf2⟩ := DataW.trod_int Tryz.underlying3 k0'
    obtain ⟨a3, e3, he3, _⟩ := DataW.trod_string Tryz.underlying9 k1'
    rw [hz] at hw2
    have hw23 := weigh_field Tryz.underlying33 hw2 (j := 1) rfl rfl
    have hs3 : a3.size ≤ 140737488351232 := by
      have := hw23 a3.data.toList.length (by rw [he3]; simp [DataW.weights])
      simpa [reachBytes] using this
    obtain ⟨b1, m1, l1, rfl⟩ : ∃ a n c, c1 = .slice a n c := by
      rcases open_slice Tryz.underlying64 g1 with ⟨hcs, _⟩ | ⟨y, len, cap, m, k, D, Pl, hcs, _⟩
      · simp at hcs; exact ⟨_, _, _, hcs⟩
      · simp at hcs; exact ⟨_, _, _, hcs⟩
    obtain ⟨qs, hqs⟩ := Wm.open_steps (c := l1) ⟨n, g1⟩ hw1
    obtain ⟨b4, m4, l4, lR, rfl, hl4, _, hz4⟩ := trod_bytes_any g3 hw3
    simp at e0 e2 e3
    subst e0 e2 e3
    clear hA0 hval0
    have hn2 : a2 ≤ 9223372036854775807 := (bounds_i64 wf2).2
    refine (Wm.once_walk a0 b1 m1 l1 qs a2 hn2 a3 hs3 b4 m4 l4 lR W hqs hl4 hz4).mono fun e W' ⟨he, bel⟩ => ?_
    subst he
    exact ⟨_, rfl, _, _, _, [], _, [], hW', trodAll_mk1 (shut_bool Tryz.underlying4 _), trodAll_mk1 (Below.trod laidOut (by kernel_rfl) (of_decide_eq_true (by kernel_rfl)) h0 bel lt0), rfl, bel.frame _, fun h => by cases h⟩

theorem over : Rows.packOnceRow.holds Tryz.pinned (OpenSpec.ofChange Rows.packOnceSpec) :=
  OpenClaim.holds_of_wide 4 Tryz.f4 rfl rfl rfl rfl rfl rfl rfl ⟨rfl, rfl, rfl, rfl, rfl⟩ rfl rfl rfl rfl rfl (by kernel_rfl) Tryz.func4 (by kernel_rfl)
    (of_decide_eq_true (by kernel_rfl)) (by unfold Func.isWrapper; first | (rw [if_pos (by decide +kernel)]; kernel_rfl) | (rw [if_neg (by decide +kernel)]; exact ⟨rfl, rfl⟩))
    (fun os started H enc _ => lifted os started H enc)
end PackOnce

theorem packOnce_holds : Rows.PackOnceSaid := PackOnce.over
#print axioms packOnce_holds
end Go.Proofs.YtoelgcagahmndaaGreat
