/- Codec: the laws' opOf, walked (written by cgr_gen.py). -/
import Derived.Test.YtbjcckfhfbjchaaGreatCGq
namespace Go.Proofs.YtbjcckfhfbjchaaGreat
namespace Cd
open Go.RowKit Go.Deep

theorem RdA.mono {B C : Nat} {w : World} {s : Option Addr × Nat × Nat} {xs : List Ra} (h : RdA B w s xs) (hC : B ≤ C) : RdA C w s xs := by
  obtain ⟨h1, h2, h3, h4⟩ := h
  refine ⟨h1, h2, ?_, fun x hx => ⟨(h4 x hx).1, (h4 x hx).2.1.mono hC, (h4 x hx).2.2.mono hC⟩⟩
  rcases h3 with h3 | ⟨g, off, e, hg, h3⟩
  · exact .inl h3
  · exact .inr ⟨g, off, e, by omega, h3⟩
theorem De.In.bel {q : De} {w w' : World} (h : q.In w) (hb : Below w.heap.size w w') : q.In w' :=
  ⟨h.ki, h.nu, h.wo, h.lu, (h.rd.bel hb).mono hb.size, h.tx.keep hb, h.tn, h.t0, fun hn b off e => Nat.lt_of_lt_of_le (h.td hn b off e) hb.size⟩
theorem own_empty (w : World) (e : TypeId) : (w.alloc (.cells #[] e)).ownsRow w.heap.size e 1 (.slice (some ⟨w.heap.size, 0, none⟩) 0 0) 0 [] :=
  ⟨rfl, .inr ⟨w.heap.size, 0, #[], rfl, Nat.le_refl _, heap_alloc_new w _, Nat.le_refl _, Nat.zero_le _, rfl, rfl⟩⟩
theorem wp_cloneB {w : World} {ops : Array Oper} {rest : List Oper} {o : Oper} {ac : Act} {Q : Exit → Act → World → Prop} (hgd : o.guard = none) (s x : Operand)
    (ho : o.op = .call { callee := .builtin .append, args := #[s, x], argTypes := #[24, 24] })
    (hs : ac.eval s = .slice (some ⟨w.heap.size, 0, none⟩) 0 0) (a : Option Addr) (n c : Nat) (l : List Nat) (hx : ac.eval x = .slice a n c) (hr : Rd w a n l) (h0 : a = none → c = 0) (hsz : n ≤ 140737488355328)
    (h : ∀ v' w', w'.ownsRow w.heap.size 5 1 v' l.length (B8 l) → Keep (fun _ => False) w w' → wpList Tryz.prog ops Q rest (ac.put o.dst v') w') : wpList Tryz.prog ops Q (o :: rest) ac (w.alloc (.cells #[] 5)) := by
  have ka : Keep (fun _ => False) w (w.alloc (.cells #[] 5)) := Keep.alloc _ _ _
  refine wpList_append_rd hgd s x ho (.slice (some ⟨w.heap.size, 0, none⟩) 0 0) [] w.heap.size hs (own_empty w _) a n c l hx (hr.stay ka fun _ _ _ f => f) h0 (by simpa using hsz) ka.size fun v' w' h1 h2 h3 => ?_
  refine h v' w' (by simpa using h1) ?_
  exact ⟨h2.os.trans ka.os, h2.tape.trans ka.tape, h2.output.trans ka.output, Nat.le_trans ka.size h2.size, fun k hk _ => (h2.block k (Nat.lt_of_lt_of_le hk ka.size) (fun e => by have e : some k = some w.heap.size := e; injection e with e; omega)).trans (ka.block k hk fun f => f)⟩
theorem slice_40 (a : Option Addr) (n c : Nat) (h2 : 40 ≤ c) (w : World) :
    (Instr.slice 24 (.slice a n c) none (some (.int .i64 40)) none).run Tryz.prog w = .ok (.slice a 40 c) w := by
  have h3 : ¬ (c : Int) < 40 := by omega
  have h : (Instr.slice 24 (.slice a n c) none (some (.int .i64 40)) none).run Tryz.prog w = .ok (.slice (if c = 0 then a else a.map (·.add 0)) 40 c) w := by go_simp
  rw [h]
  cases a <;> simp [add0]
set_option maxRecDepth 100000 in
set_option maxHeartbeats 16000000 in
theorem opOf12_any (q : De) (w : World) (hq : q.In w) :
    Calls Tryz.prog 9 #[.agg q.row.toArray] w fun e w' => ∃ v, e = .returned v ∧ OvV (opv q) w' v ∧ Below w.heap.size w w' := by
  have hk := opv_ki q
  have HPV : Hid (opv q = opk (1 + pkk q.ki 9) q) := rfl
  obtain ⟨ki, ⟨sa, sn, sc⟩, nu, wo, ⟨ta, tn, tc⟩, lu, rs, tx⟩ := q
  have HRS : Hid (RdA w.heap.size w (sa, sn, sc) rs) := hq.rd
  have HNU : Hid (In64 nu) := hq.nu
  have HTX0 : Hid (Rd w ta tn tx) := hq.tx
  have HT0 : Hid (ta = none → tc = 0) := hq.t0
  have htn : tn ≤ tc := hq.tn
  have HTD0 : Hid (tn ≠ 0 → ∀ b off, ta = some ⟨b, off, none⟩ → b < w.heap.size) := hq.td
  have CKI := hide (fun W => pick12_val ki 9 (by decide) hq.ki (by decide) W)
  have CCT := hide (fun W => pick12_val nu 1099511627776 (by decide) hq.nu (by decide) W)
  have CLA := hide (fun W => pick12_val nu 16 (by decide) hq.nu (by decide) W)
  have CWO := hide (fun W => pick12_val wo 1099511627777 (by decide) hq.wo (by decide) W)
  have CTI := hide (fun W => pick12_val nu 4611686018427387905 (by decide) hq.nu (by decide) W)
  obtain ⟨vla, hla⟩ : ∃ x, pkk nu 16 = x := ⟨_, rfl⟩
  obtain ⟨vwo, hwo⟩ : ∃ x, pkk wo 1099511627777 = x := ⟨_, rfl⟩
  obtain ⟨vti, hti⟩ : ∃ x, pkk nu 4611686018427387905 = x := ⟨_, rfl⟩
  obtain ⟨pc, hpc⟩ : ∃ x, pkk nu 1099511627776 = x := ⟨_, rfl⟩
  obtain ⟨pk9, hpk9⟩ : ∃ x, pkk ki 9 = x := ⟨_, rfl⟩
  obtain ⟨ct, hct⟩ : ∃ x, 1 + pc = x := ⟨_, rfl⟩
  obtain ⟨kk, hkk⟩ : ∃ x, 1 + pk9 = x := ⟨_, rfl⟩
  have pc1 : 0 ≤ pc ∧ pc < 1099511627776 := hpc ▸ pkk_lt (by decide)
  have hwc : IntKind.i64.wrap ct = ct := by simp [IntKind.wrap, IntKind.bits, IntKind.signed]; omega
  have hk : 1 ≤ kk ∧ kk ≤ 9 := by rw [← hkk, ← hpk9]; exact hk
  have hwk : IntKind.i64.wrap kk = kk := by simp [IntKind.wrap, IntKind.bits, IntKind.signed]; omega
  rw [hla] at CLA
  rw [hwo] at CWO
  rw [hti] at CTI
  rw [hpc] at CCT
  rw [hpk9] at CKI
  have HPV : Hid (opv ⟨ki, (sa, sn, sc), nu, wo, (ta, tn, tc), lu, rs, tx⟩ = opk kk ⟨ki, (sa, sn, sc), nu, wo, (ta, tn, tc), lu, rs, tx⟩) := by
    show _ = _
    rw [← hkk, ← hpk9]
    exact HPV.out
  rw [HPV.out]
  have ELA := hide hla
  have EWO := hide hwo
  have ETI := hide hti
  have ECT : Hid (1 + pkk nu 1099511627776 = ct) := by show _ = _; rw [hpc, hct]
  have HKK := hide hk
  have hbx : Below w.heap.size w ((w.alloc (.cells #[.int .i64 ki, .slice sa sn sc, .int .i64 nu, .int .i64 wo, .slice ta tn tc, .int .u64 (lu : Int)] 27)).alloc (.cells #[.int .i64 0, .string ⟨#[]⟩, .int .i64 0, .slice none 0 0, .string ⟨#[]⟩, .int .i64 0, .int .i64 0, .int .i64 0, .slice none 0 0, .int .i64 0, .int .u64 0, .int .i64 0] 32)) := ((Below.refl _ _).alloc (Nat.le_refl _) _).alloc (by simp) _
  obtain ⟨hx1, hx2⟩ := blk2 w (.cells #[.int .i64 ki, .slice sa sn sc, .int .i64 nu, .int .i64 wo, .slice ta tn tc, .int .u64 (lu : Int)] 27) (.cells #[.int .i64 0, .string ⟨#[]⟩, .int .i64 0, .slice none 0 0, .string ⟨#[]⟩, .int .i64 0, .int .i64 0, .int .i64 0, .slice none 0 0, .int .i64 0, .int .u64 0, .int .i64 0] 32)
  have hsz2 : ((w.alloc (.cells #[.int .i64 ki, .slice sa sn sc, .int .i64 nu, .int .i64 wo, .slice ta tn tc, .int .u64 (lu : Int)] 27)).alloc (.cells #[.int .i64 0, .string ⟨#[]⟩, .int .i64 0, .slice none 0 0, .string ⟨#[]⟩, .int .i64 0, .int .i64 0, .int .i64 0, .slice none 0 0, .int .i64 0, .int .u64 0, .int .i64 0] 32)).heap.size = w.heap.size + 2 := by simp
  have HSZ := hide hsz2
  have HBx := hide hbx
  have HX1 := hide hx1
  have HX2 := hide hx2
  clear hq hla hwo hti hpc hpk9 pc1 hk hbx hx1 hx2 hsz2
  change Calls Tryz.prog _ #[.agg #[.int .i64 ki, .slice sa sn sc, .int .i64 nu, .int .i64 wo, .slice ta tn tc, .int .u64 (lu : Int)]] w _
  go_enter Tryz.func9, Tryz.ntmps9
  go_upto_region 1 with fail
  generalize (w.alloc (.cells #[.int .i64 ki, .slice sa sn sc, .int .i64 nu, .int .i64 wo, .slice ta tn tc, .int .u64 (lu : Int)] 27)).alloc (.cells #[.int .i64 0, .string ⟨#[]⟩, .int .i64 0, .slice none 0 0, .string ⟨#[]⟩, .int .i64 0, .int .i64 0, .int .i64 0, .slice none 0 0, .int .i64 0, .int .u64 0, .int .i64 0] 32) = w1 at *
  have f := cell_blk HX1.out 0 (v := .int .i64 ki) rfl
  go_upto_region 2 with (go_at_call 19; refine (CKI.out _).mono ?_; rintro e w' ⟨rfl, hw⟩; rw [hw]; clear hw w')
  clear f hkk hwk
  have HOw4 := hide (heap_alloc_new w1 (.cells #[.int .i64 kk, .string ⟨#[]⟩, .int .i64 0, .slice none 0 0, .string ⟨#[]⟩, .int .i64 0, .int .i64 0, .int .i64 0, .slice none 0 0, .int .i64 0, .int .u64 0, .int .i64 0] 32))
  have hb4 : Below w1.heap.size w1 (w1.alloc (.cells #[.int .i64 kk, .string ⟨#[]⟩, .int .i64 0, .slice none 0 0, .string ⟨#[]⟩, .int .i64 0, .int .i64 0, .int .i64 0, .slice none 0 0, .int .i64 0, .int .u64 0, .int .i64 0] 32)) := (Below.refl _ _).alloc (Nat.le_refl _) _
  have HDw4 := hide (blkB HX1.out hb4)
  have HRw4 := hide (blkB HX2.out hb4)
  have HBw4 := hide (HBx.out.trans (hb4.mono HBx.out.size))
  have hob : w.heap.size + 2 ≤ w1.heap.size := by have := HSZ.out; omega
  clear hb4 HBx HX1 HX2 HSZ
  generalize w1.alloc (.cells #[.int .i64 kk, .string ⟨#[]⟩, .int .i64 0, .slice none 0 0, .string ⟨#[]⟩, .int .i64 0, .int .i64 0, .int .i64 0, .slice none 0 0, .int .i64 0, .int .u64 0, .int .i64 0] 32) = w4 at *
  generalize w1.heap.size = ob at *
  have f := cell_blk HDw4.out 4 (v := .slice ta tn tc) rfl
  go_upto_region 3 with fail
  clear f
  have HTX0 := hide (HTX0.out.keep HBw4.out)
  go_upto_if 15 with fail
  go_cut [4] from 16 to 18 (fun v wx => ∃ (xa : Option Addr) (m xc : Nat), v = .slice xa m xc ∧ Hid (wx = w4 ∧ Rd w4 xa m (tx.take 40) ∧ (xa = none → xc = 0) ∧ m ≤ 40 ∧ (m ≠ 0 → ∀ b off, xa = some ⟨b, off, none⟩ → b < w.heap.size)))
  case first => as_aux_lemma =>
    by_cases hlen : 40 < tn
    · have hl2 : (40 : Int) < (tn : Int) := by omega
      have hsl := slice_40 ta tn tc (by omega)
      have H1 : Hid (Rd w4 ta 40 (tx.take 40)) := by
        obtain ⟨r1, r2, r3, r4⟩ := HTX0.out
        refine ⟨by rw [List.length_take]; omega, by omega, fun d hd => r3 d (List.mem_of_mem_take hd), .inr ?_⟩
        obtain ⟨b, off, e, hc⟩ := r4.resolve_left (by omega)
        refine ⟨b, off, e, fun i hi => ?_⟩
        rw [hc i (by omega), List.getD_eq_getElem?_getD, List.getD_eq_getElem?_getD, List.getElem?_take, if_pos hi]
      have H2 := hide (fun (h : ta = none) => HT0.out h)
      have H3 : Hid ((40 : Nat) ≠ 0 → ∀ b off, ta = some ⟨b, off, none⟩ → b < w.heap.size) := fun _ => HTD0.out (by omega)
      clear hlen
      go_wp2_with fail
      go_meet
      case rel => exact ⟨_, _, _, rfl, rfl, H1.out, H2.out, Nat.le_refl _, H3.out⟩
    · have hl2 : ¬ (40 : Int) < (tn : Int) := by omega
      have H1 : Hid (Rd w4 ta tn (tx.take 40)) := by
        have := HTX0.out
        show Rd _ _ _ _
        rw [List.take_of_length_le (by have := this.1; omega)]
        exact this
      have H4 : Hid (tn ≤ 40) := by show _ ≤ _; omega
      clear hlen
      go_wp2_with fail
      go_meet
      case rel => exact ⟨_, _, _, rfl, rfl, H1.out, HT0.out, H4.out, HTD0.out⟩
  case rest => as_aux_lemma =>
    obtain ⟨xa, m, xc, rfl, hcw, ht1, ht2, ht3, ht4⟩ := hcut
    rw [hcw]
    clear hcw wc
    obtain ⟨tk, htk⟩ : ∃ x, tx.take 40 = x := ⟨_, rfl⟩
    rw [htk] at ht1
    have HTK := hide htk
    clear htk
    have HTX := hide ht1
    have XC0 := hide ht2
    have HTD := hide ht4
    clear ht1 ht2 ht4 HTX0 HT0 HTD0 htn
    have f := cell_blk HDw4.out 2 (v := .int .i64 nu) rfl
    go_upto_region 6 with (go_at_call 19; refine (CCT.out _).mono ?_; rintro e w' ⟨rfl, hw⟩; rw [hw]; clear hw w')
    clear f hct hwc
    have f := cell_blk HOw4.out 0 (v := .int .i64 kk) rfl
    go_upto_region 7 with fail
    clear f
    obtain ⟨hk1, hk2⟩ := HKK.out
    clear HKK HPV
    rcases (by omega : kk = 1 ∨ kk = 2 ∨ kk = 3 ∨ kk = 4 ∨ kk = 5 ∨ kk = 6 ∨ kk = 7 ∨ kk = 8 ∨ kk = 9) with rfl | rfl | rfl | rfl | rfl | rfl | rfl | rfl | rfl
    all_goals clear hk1 hk2
    · go_upto_region 8 with fail
      have f1 := cell_blk HDw4.out 1 (v := .slice sa sn sc) rfl
      have f2 := cell_blk HDw4.out 2 (v := .int .i64 nu) rfl
      have PO := hide (planOf12_any (sa, sn, sc) rs nu w.heap.size w4 (HRS.out.bel HBw4.out) HNU.out)
      go_upto_region 9 with (go_at_call 10; refine PO.out.mono ?_; rintro e w5 ⟨v5, rfl, hv5, hb5⟩; obtain ⟨p1, p2, p3, hpe, hns⟩ := hv5; obtain ⟨pm, hpm⟩ : ∃ x, str (plv rs nu).1.1 = x := ⟨_, rfl⟩; obtain ⟨pd, hpd⟩ : ∃ x, (plv rs nu).1.2 = x := ⟨_, rfl⟩; rw [hpm, hpd] at hpe; subst hpe; have HOw5 := hide (blkB HOw4.out hb5); have HRw5 := hide (blkB HRw4.out hb5); have HDw5 := hide (blkB HDw4.out hb5); have HBw5 := hide (HBw4.out.trans (hb5.mono HBw4.out.size)); have HPM := hide hpm; have HPD := hide hpd; have HNS := hide hns; have HT5 := hide (HTX.out.keep hb5); have c1 := cell_blk HOw5.out 1 (v := .string ⟨#[]⟩) rfl; have c2 := cell_blk HOw5.out 2 (v := .int .i64 0) rfl; have c3 := cell_blk HOw5.out 3 (v := .slice none 0 0) rfl; have z1 := frozen_blk HOw5.out 1; have z2 := frozen_blk HOw5.out 2; have z3 := frozen_blk HOw5.out 3; clear hpm hpd hns hb5)
      have ks : Keep (fun k => k = ob) w5 (((w5.setCell ⟨ob, 1, none⟩ (.string pm)).setCell ⟨ob, 2, none⟩ (.int .i64 pd)).setCell ⟨ob, 3, none⟩ (.slice p1 p2 p3)) := ((keep_cell w5 ob 1 (.string pm)).more (keep_cell _ ob 2 (.int .i64 pd))).more (keep_cell _ ob 3 (.slice p1 p2 p3))
      have HOw6 : Hid ((((w5.setCell ⟨ob, 1, none⟩ (.string pm)).setCell ⟨ob, 2, none⟩ (.int .i64 pd)).setCell ⟨ob, 3, none⟩ (.slice p1 p2 p3)).heap[ob]? = some (.cells #[.int .i64 1, .string pm, .int .i64 pd, .slice p1 p2 p3, .string ⟨#[]⟩, .int .i64 0, .int .i64 0, .int .i64 0, .slice none 0 0, .int .i64 0, .int .u64 0, .int .i64 0] 32 (0, 0))) := set_blk (set_blk (set_blk HOw5.out 1 _) 2 _) 3 _
      have HRw6 := hide (ks.blk HRw5.out fun e => by have e : w.heap.size + 1 = ob := e; omega)
      have HDw6 := hide (ks.blk HDw5.out fun e => by have e : w.heap.size = ob := e; omega)
      have HBw6 := hide (HBw5.out.trans (ks.below HBw5.out.size fun j e => by have e : j = ob := e; omega))
      have HNS6 := hide (stable_Ns (T := 32) (by decide) (by decide) _ _ _ _ _ HNS.out ks fun j e => by have e : j = ob := e; subst e; exact ⟨_, _, HOw5.out, .inr rfl⟩)
      have HT6 := hide (rd_low HT5.out ks (B0 := w.heap.size) (fun j hj e => by have e : j = ob := e; omega) HTD.out)
      clear ks c1 c2 c3 z1 z2 z3 f1 f2
      generalize ((w5.setCell ⟨ob, 1, none⟩ (.string pm)).setCell ⟨ob, 2, none⟩ (.int .i64 pd)).setCell ⟨ob, 3, none⟩ (.slice p1 p2 p3) = w6 at *
      have c4 := cell_blk HOw6.out 4 (v := .string ⟨#[]⟩) rfl
      have z4 := frozen_blk HOw6.out 4
      have hcv := conv_rd HT6.out xc
      obtain ⟨kt, hkt⟩ : ∃ x, str tk = x := ⟨_, rfl⟩
      rw [hkt] at hcv
      have HKT := hide hkt
      clear hkt
      go_upto_region 26 with fail
      clear hcv
      have ks := keep_cell w6 ob 4 (.string kt)
      have HOw7 : Hid ((w6.setCell ⟨ob, 4, none⟩ (.string kt)).heap[ob]? = some (.cells #[.int .i64 1, .string pm, .int .i64 pd, .slice p1 p2 p3, .string kt, .int .i64 0, .int .i64 0, .int .i64 0, .slice none 0 0, .int .i64 0, .int .u64 0, .int .i64 0] 32 (0, 0))) := set_blk HOw6.out 4 _
      have HRw7 := hide (ks.blk HRw6.out fun e => by have e : w.heap.size + 1 = ob := e; omega)
      have HDw7 := hide (ks.blk HDw6.out fun e => by have e : w.heap.size = ob := e; omega)
      have HBw7 := hide (HBw6.out.trans (ks.below HBw6.out.size fun j e => by have e : j = ob := e; omega))
      have HNS7 := hide (stable_Ns (T := 32) (by decide) (by decide) _ _ _ _ _ HNS6.out ks fun j e => by have e : j = ob := e; subst e; exact ⟨_, _, HOw6.out, .inr rfl⟩)
      clear ks c4 z4
      generalize w6.setCell ⟨ob, 4, none⟩ (.string kt) = w7 at *
      have HI : Hid ((Tryz.prog.info? 32).map (·.size) = some (#[.int .i64 1, .string pm, .int .i64 pd, .slice p1 p2 p3, .string kt, .int .i64 0, .int .i64 0, .int .i64 0, .slice none 0 0, .int .i64 0, .int .u64 0, .int .i64 0] : Array Value).size) := sizeOp
      have HO1 : Hid ((#[.int .i64 1, .string pm, .int .i64 pd, .slice p1 p2 p3, .string kt, .int .i64 0, .int .i64 0, .int .i64 0, .slice none 0 0, .int .i64 0, .int .u64 0, .int .i64 0] : Array Value).all (·.oneCell') = true) := by show _ = _; simp [Value.oneCell']
      go_wp2_with (first
        | (refine wpList_load_row rfl 32 _ rfl ob rfl 32 #[.int .i64 1, .string pm, .int .i64 pd, .slice p1 p2 p3, .string kt, .int .i64 0, .int .i64 0, .int .i64 0, .slice none 0 0, .int .i64 0, .int .u64 0, .int .i64 0] (0, 0) _ HOw7.out Tryz.underlying32 rfl HI.out ?_)
        | (refine wpList_store_row rfl 32 _ _ rfl (w.heap.size + 1) #[.int .i64 1, .string pm, .int .i64 pd, .slice p1 p2 p3, .string kt, .int .i64 0, .int .i64 0, .int .i64 0, .slice none 0 0, .int .i64 0, .int .u64 0, .int .i64 0] rfl rfl 32 _ HRw7.out HI.out rfl HO1.out ?_))
      have HX := hide (setRow_heap _ (w.heap.size + 1) _ #[.int .i64 1, .string pm, .int .i64 pd, .slice p1 p2 p3, .string kt, .int .i64 0, .int .i64 0, .int .i64 0, .slice none 0 0, .int .i64 0, .int .u64 0, .int .i64 0] _ _ HRw7.out)
      have HK := hide (keep_row w7 (w.heap.size + 1) #[.int .i64 1, .string pm, .int .i64 pd, .slice p1 p2 p3, .string kt, .int .i64 0, .int .i64 0, .int .i64 0, .slice none 0 0, .int .i64 0, .int .u64 0, .int .i64 0])
      refine bodyPost_ret (resOp rfl _ _ (w.heap.size + 1) _ rfl rfl HX.out) rfl ⟨_, rfl, ?_, HBw7.out.trans (HK.out.below HBw7.out.size fun j e => by have e : j = w.heap.size + 1 := e; omega)⟩
      show OvV { ov0 1 with pl := plv rs nu, ky := tx.take 40 } _ _
      rw [HTK.out]
      exact ⟨_, _, _, _, _, _, _, _, _, _, _, _, _, _, _, _, rfl, ⟨rfl, HPM.out.symm, HPD.out.symm, HKT.out.symm, rfl, rfl, rfl, rfl, rfl, rfl⟩, stable_Ns (T := 32) (by decide) (by decide) _ _ _ _ _ HNS7.out HK.out fun j e => by have e : j = w.heap.size + 1 := e; subst e; exact ⟨_, _, HRw7.out, .inr rfl⟩, World.ownsRow_nil _ _ _ _⟩
    · go_upto_region 11 with fail
      have c5 := cell_blk HOw4.out 5 (v := .int .i64 0) rfl
      have z5 := frozen_blk HOw4.out 5
      have f := cell_blk HDw4.out 2 (v := .int .i64 nu) rfl
      go_upto_region 12 with (go_at_call 19; refine (CLA.out _).mono ?_; rintro e w' ⟨rfl, hw⟩; rw [hw]; clear hw w')
      have ks := keep_cell w4 ob 5 (.int .i64 vla)
      have HOw5 : Hid ((w4.setCell ⟨ob, 5, none⟩ (.int .i64 vla)).heap[ob]? = some (.cells #[.int .i64 2, .string ⟨#[]⟩, .int .i64 0, .slice none 0 0, .string ⟨#[]⟩, .int .i64 vla, .int .i64 0, .int .i64 0, .slice none 0 0, .int .i64 0, .int .u64 0, .int .i64 0] 32 (0, 0))) := set_blk HOw4.out 5 _
      have HRw5 := hide (ks.blk HRw4.out fun e => by have e : w.heap.size + 1 = ob := e; omega)
      have HDw5 := hide (ks.blk HDw4.out fun e => by have e : w.heap.size = ob := e; omega)
      have HBw5 := hide (HBw4.out.trans (ks.below HBw4.out.size fun j e => by have e : j = ob := e; omega))
      clear ks
      clear c5 z5 f
      generalize w4.setCell ⟨ob, 5, none⟩ (.int .i64 vla) = w5 at *
      have c6 := cell_blk HOw5.out 6 (v := .int .i64 0) rfl
      have z6 := frozen_blk HOw5.out 6
      have f := cell_blk HDw5.out 3 (v := .int .i64 wo) rfl
      go_upto_region 26 with (go_at_call 19; refine (CWO.out _).mono ?_; rintro e w' ⟨rfl, hw⟩; rw [hw]; clear hw w')
      have ks := keep_cell w5 ob 6 (.int .i64 vwo)
      have HOw6 : Hid ((w5.setCell ⟨ob, 6, none⟩ (.int .i64 vwo)).heap[ob]? = some (.cells #[.int .i64 2, .string ⟨#[]⟩, .int .i64 0, .slice none 0 0, .string ⟨#[]⟩, .int .i64 vla, .int .i64 vwo, .int .i64 0, .slice none 0 0, .int .i64 0, .int .u64 0, .int .i64 0] 32 (0, 0))) := set_blk HOw5.out 6 _
      have HRw6 := hide (ks.blk HRw5.out fun e => by have e : w.heap.size + 1 = ob := e; omega)
      have HDw6 := hide (ks.blk HDw5.out fun e => by have e : w.heap.size = ob := e; omega)
      have HBw6 := hide (HBw5.out.trans (ks.below HBw5.out.size fun j e => by have e : j = ob := e; omega))
      clear ks
      clear c6 z6 f
      generalize w5.setCell ⟨ob, 6, none⟩ (.int .i64 vwo) = w6 at *
      have HI : Hid ((Tryz.prog.info? 32).map (·.size) = some (#[.int .i64 2, .string ⟨#[]⟩, .int .i64 0, .slice none 0 0, .string ⟨#[]⟩, .int .i64 vla, .int .i64 vwo, .int .i64 0, .slice none 0 0, .int .i64 0, .int .u64 0, .int .i64 0] : Array Value).size) := sizeOp
      have HO1 : Hid ((#[.int .i64 2, .string ⟨#[]⟩, .int .i64 0, .slice none 0 0, .string ⟨#[]⟩, .int .i64 vla, .int .i64 vwo, .int .i64 0, .slice none 0 0, .int .i64 0, .int .u64 0, .int .i64 0] : Array Value).all (·.oneCell') = true) := by show _ = _; simp [Value.oneCell']
      go_wp2_with (first
        | (refine wpList_load_row rfl 32 _ rfl ob rfl 32 #[.int .i64 2, .string ⟨#[]⟩, .int .i64 0, .slice none 0 0, .string ⟨#[]⟩, .int .i64 vla, .int .i64 vwo, .int .i64 0, .slice none 0 0, .int .i64 0, .int .u64 0, .int .i64 0] (0, 0) _ HOw6.out Tryz.underlying32 rfl HI.out ?_)
        | (refine wpList_store_row rfl 32 _ _ rfl (w.heap.size + 1) #[.int .i64 2, .string ⟨#[]⟩, .int .i64 0, .slice none 0 0, .string ⟨#[]⟩, .int .i64 vla, .int .i64 vwo, .int .i64 0, .slice none 0 0, .int .i64 0, .int .u64 0, .int .i64 0] rfl rfl 32 _ HRw6.out HI.out rfl HO1.out ?_))
      have HX := hide (setRow_heap _ (w.heap.size + 1) _ #[.int .i64 2, .string ⟨#[]⟩, .int .i64 0, .slice none 0 0, .string ⟨#[]⟩, .int .i64 vla, .int .i64 vwo, .int .i64 0, .slice none 0 0, .int .i64 0, .int .u64 0, .int .i64 0] _ _ HRw6.out)
      have HK := hide (keep_row w6 (w.heap.size + 1) #[.int .i64 2, .string ⟨#[]⟩, .int .i64 0, .slice none 0 0, .string ⟨#[]⟩, .int .i64 vla, .int .i64 vwo, .int .i64 0, .slice none 0 0, .int .i64 0, .int .u64 0, .int .i64 0])
      refine bodyPost_ret (resOp rfl _ _ (w.heap.size + 1) _ rfl rfl HX.out) rfl ⟨_, rfl, ?_, HBw6.out.trans (HK.out.below HBw6.out.size fun j e => by have e : j = w.heap.size + 1 := e; omega)⟩
      show OvV { ov0 2 with la := pkk nu 16, wo := pkk wo 1099511627777 } _ _
      rw [ELA.out, EWO.out]
      exact ⟨_, _, _, _, _, _, _, _, _, _, _, _, _, _, _, _, rfl, ⟨rfl, str_nil.symm, rfl, str_nil.symm, rfl, rfl, rfl, rfl, rfl, rfl⟩, ⟨[], rfl, World.ownsRow_nil _ _ _ _, fun i q d hq _ => by simp at hq⟩, World.ownsRow_nil _ _ _ _⟩
    · go_upto_region 15 with fail
      have c7 := cell_blk HOw4.out 7 (v := .int .i64 0) rfl
      have z7 := frozen_blk HOw4.out 7
      go_upto_region 26 with fail
      have ks := keep_cell w4 ob 7 (.int .i64 ct)
      have HOw5 : Hid ((w4.setCell ⟨ob, 7, none⟩ (.int .i64 ct)).heap[ob]? = some (.cells #[.int .i64 3, .string ⟨#[]⟩, .int .i64 0, .slice none 0 0, .string ⟨#[]⟩, .int .i64 0, .int .i64 0, .int .i64 ct, .slice none 0 0, .int .i64 0, .int .u64 0, .int .i64 0] 32 (0, 0))) := set_blk HOw4.out 7 _
      have HRw5 := hide (ks.blk HRw4.out fun e => by have e : w.heap.size + 1 = ob := e; omega)
      have HDw5 := hide (ks.blk HDw4.out fun e => by have e : w.heap.size = ob := e; omega)
      have HBw5 := hide (HBw4.out.trans (ks.below HBw4.out.size fun j e => by have e : j = ob := e; omega))
      clear ks
      clear c7 z7
      generalize w4.setCell ⟨ob, 7, none⟩ (.int .i64 ct) = w5 at *
      have HI : Hid ((Tryz.prog.info? 32).map (·.size) = some (#[.int .i64 3, .string ⟨#[]⟩, .int .i64 0, .slice none 0 0, .string ⟨#[]⟩, .int .i64 0, .int .i64 0, .int .i64 ct, .slice none 0 0, .int .i64 0, .int .u64 0, .int .i64 0] : Array Value).size) := sizeOp
      have HO1 : Hid ((#[.int .i64 3, .string ⟨#[]⟩, .int .i64 0, .slice none 0 0, .string ⟨#[]⟩, .int .i64 0, .int .i64 0, .int .i64 ct, .slice none 0 0, .int .i64 0, .int .u64 0, .int .i64 0] : Array Value).all (·.oneCell') = true) := by show _ = _; simp [Value.oneCell']
      go_wp2_with (first
        | (refine wpList_load_row rfl 32 _ rfl ob rfl 32 #[.int .i64 3, .string ⟨#[]⟩, .int .i64 0, .slice none 0 0, .string ⟨#[]⟩, .int .i64 0, .int .i64 0, .int .i64 ct, .slice none 0 0, .int .i64 0, .int .u64 0, .int .i64 0] (0, 0) _ HOw5.out Tryz.underlying32 rfl HI.out ?_)
        | (refine wpList_store_row rfl 32 _ _ rfl (w.heap.size + 1) #[.int .i64 3, .string ⟨#[]⟩, .int .i64 0, .slice none 0 0, .string ⟨#[]⟩, .int .i64 0, .int .i64 0, .int .i64 ct, .slice none 0 0, .int .i64 0, .int .u64 0, .int .i64 0] rfl rfl 32 _ HRw5.out HI.out rfl HO1.out ?_))
      have HX := hide (setRow_heap _ (w.heap.size + 1) _ #[.int .i64 3, .string ⟨#[]⟩, .int .i64 0, .slice none 0 0, .string ⟨#[]⟩, .int .i64 0, .int .i64 0, .int .i64 ct, .slice none 0 0, .int .i64 0, .int .u64 0, .int .i64 0] _ _ HRw5.out)
      have HK := hide (keep_row w5 (w.heap.size + 1) #[.int .i64 3, .string ⟨#[]⟩, .int .i64 0, .slice none 0 0, .string ⟨#[]⟩, .int .i64 0, .int .i64 0, .int .i64 ct, .slice none 0 0, .int .i64 0, .int .u64 0, .int .i64 0])
      refine bodyPost_ret (resOp rfl _ _ (w.heap.size + 1) _ rfl rfl HX.out) rfl ⟨_, rfl, ?_, HBw5.out.trans (HK.out.below HBw5.out.size fun j e => by have e : j = w.heap.size + 1 := e; omega)⟩
      show OvV { ov0 3 with tk := 1 + pkk nu 1099511627776 } _ _
      rw [ECT.out]
      exact ⟨_, _, _, _, _, _, _, _, _, _, _, _, _, _, _, _, rfl, ⟨rfl, str_nil.symm, rfl, str_nil.symm, rfl, rfl, rfl, rfl, rfl, rfl⟩, ⟨[], rfl, World.ownsRow_nil _ _ _ _, fun i q d hq _ => by simp at hq⟩, World.ownsRow_nil _ _ _ _⟩
    · go_upto_region 17 with fail
      have c7 := cell_blk HOw4.out 7 (v := .int .i64 0) rfl
      have z7 := frozen_blk HOw4.out 7
      go_upto_region 18 with fail
      have ks := keep_cell w4 ob 7 (.int .i64 ct)
      have HOw5 : Hid ((w4.setCell ⟨ob, 7, none⟩ (.int .i64 ct)).heap[ob]? = some (.cells #[.int .i64 4, .string ⟨#[]⟩, .int .i64 0, .slice none 0 0, .string ⟨#[]⟩, .int .i64 0, .int .i64 0, .int .i64 ct, .slice none 0 0, .int .i64 0, .int .u64 0, .int .i64 0] 32 (0, 0))) := set_blk HOw4.out 7 _
      have HRw5 := hide (ks.blk HRw4.out fun e => by have e : w.heap.size + 1 = ob := e; omega)
      have HDw5 := hide (ks.blk HDw4.out fun e => by have e : w.heap.size = ob := e; omega)
      have HBw5 := hide (HBw4.out.trans (ks.below HBw4.out.size fun j e => by have e : j = ob := e; omega))
      clear ks
      have HTw5 := hide (rd_low HTX.out (S := fun j => j = ob) (keep_cell w4 ob 7 (.int .i64 ct)) (B0 := w.heap.size) (fun j hj e => by have e : j = ob := e; omega) HTD.out)
      clear c7 z7
      generalize w4.setCell ⟨ob, 7, none⟩ (.int .i64 ct) = w5 at *
      have c8 := cell_blk HOw5.out 8 (v := .slice none 0 0) rfl
      go_upto_region 26 with (at_builtin; go_loud (refine wp_cloneB rfl _ _ rfl rfl xa m xc tk rfl HTw5.out XC0.out (by omega) ?_); intro v6 w6 ho6 hk6; go_loud (obtain ⟨ya, yc, rfl⟩ := ownsRow_shape ho6; have HOw6 := hide (hk6.blk HOw5.out (fun f => f)); have c8 := cell_blk HOw6.out 8 (v := .slice none 0 0) rfl; have z8 := frozen_blk HOw6.out 8; have HRw6 := hide (hk6.blk HRw5.out (fun f => f)); have HDw6 := hide (hk6.blk HDw5.out (fun f => f)); have HBw6 := hide (HBw5.out.trans (hk6.below HBw5.out.size (fun _ f => f.elim))); have HY6 := hide ho6; have HZ5 := hide (blk_lt HOw5.out)); clear ho6 hk6)
      have ks := keep_cell w6 ob 8 (.slice ya tk.length yc)
      have HOw7 : Hid ((w6.setCell ⟨ob, 8, none⟩ (.slice ya tk.length yc)).heap[ob]? = some (.cells #[.int .i64 4, .string ⟨#[]⟩, .int .i64 0, .slice none 0 0, .string ⟨#[]⟩, .int .i64 0, .int .i64 0, .int .i64 ct, .slice ya tk.length yc, .int .i64 0, .int .u64 0, .int .i64 0] 32 (0, 0))) := set_blk HOw6.out 8 _
      have HRw7 := hide (ks.blk HRw6.out fun e => by have e : w.heap.size + 1 = ob := e; omega)
      have HDw7 := hide (ks.blk HDw6.out fun e => by have e : w.heap.size = ob := e; omega)
      have HBw7 := hide (HBw6.out.trans (ks.below HBw6.out.size fun j e => by have e : j = ob := e; omega))
      clear ks
      have HYw7 : Hid ((w6.setCell ⟨ob, 8, none⟩ (.slice ya tk.length yc)).ownsRow 0 5 1 (.slice ya tk.length yc) tk.length (B8 tk)) := ownsRow_base (own_keep HY6.out (keep_cell w6 ob 8 _) fun j e e2 => by have e : j = ob := e; have := (own_lo HY6.out e2).1; have := HZ5.out; omega) (Nat.zero_le _)
      clear c8 z8
      generalize w6.setCell ⟨ob, 8, none⟩ (.slice ya tk.length yc) = w7 at *
      have HI : Hid ((Tryz.prog.info? 32).map (·.size) = some (#[.int .i64 4, .string ⟨#[]⟩, .int .i64 0, .slice none 0 0, .string ⟨#[]⟩, .int .i64 0, .int .i64 0, .int .i64 ct, .slice ya tk.length yc, .int .i64 0, .int .u64 0, .int .i64 0] : Array Value).size) := sizeOp
      have HO1 : Hid ((#[.int .i64 4, .string ⟨#[]⟩, .int .i64 0, .slice none 0 0, .string ⟨#[]⟩, .int .i64 0, .int .i64 0, .int .i64 ct, .slice ya tk.length yc, .int .i64 0, .int .u64 0, .int .i64 0] : Array Value).all (·.oneCell') = true) := by show _ = _; simp [Value.oneCell']
      go_wp2_with (first
        | (refine wpList_load_row rfl 32 _ rfl ob rfl 32 #[.int .i64 4, .string ⟨#[]⟩, .int .i64 0, .slice none 0 0, .string ⟨#[]⟩, .int .i64 0, .int .i64 0, .int .i64 ct, .slice ya tk.length yc, .int .i64 0, .int .u64 0, .int .i64 0] (0, 0) _ HOw7.out Tryz.underlying32 rfl HI.out ?_)
        | (refine wpList_store_row rfl 32 _ _ rfl (w.heap.size + 1) #[.int .i64 4, .string ⟨#[]⟩, .int .i64 0, .slice none 0 0, .string ⟨#[]⟩, .int .i64 0, .int .i64 0, .int .i64 ct, .slice ya tk.length yc, .int .i64 0, .int .u64 0, .int .i64 0] rfl rfl 32 _ HRw7.out HI.out rfl HO1.out ?_))
      have HX := hide (setRow_heap _ (w.heap.size + 1) _ #[.int .i64 4, .string ⟨#[]⟩, .int .i64 0, .slice none 0 0, .string ⟨#[]⟩, .int .i64 0, .int .i64 0, .int .i64 ct, .slice ya tk.length yc, .int .i64 0, .int .u64 0, .int .i64 0] _ _ HRw7.out)
      have HK := hide (keep_row w7 (w.heap.size + 1) #[.int .i64 4, .string ⟨#[]⟩, .int .i64 0, .slice none 0 0, .string ⟨#[]⟩, .int .i64 0, .int .i64 0, .int .i64 ct, .slice ya tk.length yc, .int .i64 0, .int .u64 0, .int .i64 0])
      refine bodyPost_ret (resOp rfl _ _ (w.heap.size + 1) _ rfl rfl HX.out) rfl ⟨_, rfl, ?_, HBw7.out.trans (HK.out.below HBw7.out.size fun j e => by have e : j = w.heap.size + 1 := e; omega)⟩
      show OvV { ov0 4 with tk := 1 + pkk nu 1099511627776, ry := tx.take 40 } _ _
      rw [ECT.out, HTK.out]
      exact ⟨_, _, _, _, _, _, _, _, _, _, _, _, _, _, _, _, rfl, ⟨rfl, str_nil.symm, rfl, str_nil.symm, rfl, rfl, rfl, rfl, rfl, rfl⟩, ⟨[], rfl, World.ownsRow_nil _ _ _ _, fun i q d hq _ => by simp at hq⟩, own_keep HYw7.out HK.out fun j e e2 => by have e : j = w.heap.size + 1 := e; subst e; obtain ⟨cs, hcs⟩ := own_blkN HYw7.out e2; rw [HRw7.out] at hcs; cases hcs⟩
    · go_upto_region 15 with fail
      have c7 := cell_blk HOw4.out 7 (v := .int .i64 0) rfl
      have z7 := frozen_blk HOw4.out 7
      go_upto_region 26 with fail
      have ks := keep_cell w4 ob 7 (.int .i64 ct)
      have HOw5 : Hid ((w4.setCell ⟨ob, 7, none⟩ (.int .i64 ct)).heap[ob]? = some (.cells #[.int .i64 5, .string ⟨#[]⟩, .int .i64 0, .slice none 0 0, .string ⟨#[]⟩, .int .i64 0, .int .i64 0, .int .i64 ct, .slice none 0 0, .int .i64 0, .int .u64 0, .int .i64 0] 32 (0, 0))) := set_blk HOw4.out 7 _
      have HRw5 := hide (ks.blk HRw4.out fun e => by have e : w.heap.size + 1 = ob := e; omega)
      have HDw5 := hide (ks.blk HDw4.out fun e => by have e : w.heap.size = ob := e; omega)
      have HBw5 := hide (HBw4.out.trans (ks.below HBw4.out.size fun j e => by have e : j = ob := e; omega))
      clear ks
      clear c7 z7
      generalize w4.setCell ⟨ob, 7, none⟩ (.int .i64 ct) = w5 at *
      have HI : Hid ((Tryz.prog.info? 32).map (·.size) = some (#[.int .i64 5, .string ⟨#[]⟩, .int .i64 0, .slice none 0 0, .string ⟨#[]⟩, .int .i64 0, .int .i64 0, .int .i64 ct, .slice none 0 0, .int .i64 0, .int .u64 0, .int .i64 0] : Array Value).size) := sizeOp
      have HO1 : Hid ((#[.int .i64 5, .string ⟨#[]⟩, .int .i64 0, .slice none 0 0, .string ⟨#[]⟩, .int .i64 0, .int .i64 0, .int .i64 ct, .slice none 0 0, .int .i64 0, .int .u64 0, .int .i64 0] : Array Value).all (·.oneCell') = true) := by show _ = _; simp [Value.oneCell']
      go_wp2_with (first
        | (refine wpList_load_row rfl 32 _ rfl ob rfl 32 #[.int .i64 5, .string ⟨#[]⟩, .int .i64 0, .slice none 0 0, .string ⟨#[]⟩, .int .i64 0, .int .i64 0, .int .i64 ct, .slice none 0 0, .int .i64 0, .int .u64 0, .int .i64 0] (0, 0) _ HOw5.out Tryz.underlying32 rfl HI.out ?_)
        | (refine wpList_store_row rfl 32 _ _ rfl (w.heap.size + 1) #[.int .i64 5, .string ⟨#[]⟩, .int .i64 0, .slice none 0 0, .string ⟨#[]⟩, .int .i64 0, .int .i64 0, .int .i64 ct, .slice none 0 0, .int .i64 0, .int .u64 0, .int .i64 0] rfl rfl 32 _ HRw5.out HI.out rfl HO1.out ?_))
      have HX := hide (setRow_heap _ (w.heap.size + 1) _ #[.int .i64 5, .string ⟨#[]⟩, .int .i64 0, .slice none 0 0, .string ⟨#[]⟩, .int .i64 0, .int .i64 0, .int .i64 ct, .slice none 0 0, .int .i64 0, .int .u64 0, .int .i64 0] _ _ HRw5.out)
      have HK := hide (keep_row w5 (w.heap.size + 1) #[.int .i64 5, .string ⟨#[]⟩, .int .i64 0, .slice none 0 0, .string ⟨#[]⟩, .int .i64 0, .int .i64 0, .int .i64 ct, .slice none 0 0, .int .i64 0, .int .u64 0, .int .i64 0])
      refine bodyPost_ret (resOp rfl _ _ (w.heap.size + 1) _ rfl rfl HX.out) rfl ⟨_, rfl, ?_, HBw5.out.trans (HK.out.below HBw5.out.size fun j e => by have e : j = w.heap.size + 1 := e; omega)⟩
      show OvV { ov0 5 with tk := 1 + pkk nu 1099511627776 } _ _
      rw [ECT.out]
      exact ⟨_, _, _, _, _, _, _, _, _, _, _, _, _, _, _, _, rfl, ⟨rfl, str_nil.symm, rfl, str_nil.symm, rfl, rfl, rfl, rfl, rfl, rfl⟩, ⟨[], rfl, World.ownsRow_nil _ _ _ _, fun i q d hq _ => by simp at hq⟩, World.ownsRow_nil _ _ _ _⟩
    · go_upto_region 21 with fail
      have c9 := cell_blk HOw4.out 9 (v := .int .i64 0) rfl
      have z9 := frozen_blk HOw4.out 9
      go_upto_region 26 with fail
      have ks := keep_cell w4 ob 9 (.int .i64 ct)
      have HOw5 : Hid ((w4.setCell ⟨ob, 9, none⟩ (.int .i64 ct)).heap[ob]? = some (.cells #[.int .i64 6, .string ⟨#[]⟩, .int .i64 0, .slice none 0 0, .string ⟨#[]⟩, .int .i64 0, .int .i64 0, .int .i64 0, .slice none 0 0, .int .i64 ct, .int .u64 0, .int .i64 0] 32 (0, 0))) := set_blk HOw4.out 9 _
      have HRw5 := hide (ks.blk HRw4.out fun e => by have e : w.heap.size + 1 = ob := e; omega)
      have HDw5 := hide (ks.blk HDw4.out fun e => by have e : w.heap.size = ob := e; omega)
      have HBw5 := hide (HBw4.out.trans (ks.below HBw4.out.size fun j e => by have e : j = ob := e; omega))
      clear ks
      clear c9 z9
      generalize w4.setCell ⟨ob, 9, none⟩ (.int .i64 ct) = w5 at *
      have HI : Hid ((Tryz.prog.info? 32).map (·.size) = some (#[.int .i64 6, .string ⟨#[]⟩, .int .i64 0, .slice none 0 0, .string ⟨#[]⟩, .int .i64 0, .int .i64 0, .int .i64 0, .slice none 0 0, .int .i64 ct, .int .u64 0, .int .i64 0] : Array Value).size) := sizeOp
      have HO1 : Hid ((#[.int .i64 6, .string ⟨#[]⟩, .int .i64 0, .slice none 0 0, .string ⟨#[]⟩, .int .i64 0, .int .i64 0, .int .i64 0, .slice none 0 0, .int .i64 ct, .int .u64 0, .int .i64 0] : Array Value).all (·.oneCell') = true) := by show _ = _; simp [Value.oneCell']
      go_wp2_with (first
        | (refine wpList_load_row rfl 32 _ rfl ob rfl 32 #[.int .i64 6, .string ⟨#[]⟩, .int .i64 0, .slice none 0 0, .string ⟨#[]⟩, .int .i64 0, .int .i64 0, .int .i64 0, .slice none 0 0, .int .i64 ct, .int .u64 0, .int .i64 0] (0, 0) _ HOw5.out Tryz.underlying32 rfl HI.out ?_)
        | (refine wpList_store_row rfl 32 _ _ rfl (w.heap.size + 1) #[.int .i64 6, .string ⟨#[]⟩, .int .i64 0, .slice none 0 0, .string ⟨#[]⟩, .int .i64 0, .int .i64 0, .int .i64 0, .slice none 0 0, .int .i64 ct, .int .u64 0, .int .i64 0] rfl rfl 32 _ HRw5.out HI.out rfl HO1.out ?_))
      have HX := hide (setRow_heap _ (w.heap.size + 1) _ #[.int .i64 6, .string ⟨#[]⟩, .int .i64 0, .slice none 0 0, .string ⟨#[]⟩, .int .i64 0, .int .i64 0, .int .i64 0, .slice none 0 0, .int .i64 ct, .int .u64 0, .int .i64 0] _ _ HRw5.out)
      have HK := hide (keep_row w5 (w.heap.size + 1) #[.int .i64 6, .string ⟨#[]⟩, .int .i64 0, .slice none 0 0, .string ⟨#[]⟩, .int .i64 0, .int .i64 0, .int .i64 0, .slice none 0 0, .int .i64 ct, .int .u64 0, .int .i64 0])
      refine bodyPost_ret (resOp rfl _ _ (w.heap.size + 1) _ rfl rfl HX.out) rfl ⟨_, rfl, ?_, HBw5.out.trans (HK.out.below HBw5.out.size fun j e => by have e : j = w.heap.size + 1 := e; omega)⟩
      show OvV { ov0 6 with ru := 1 + pkk nu 1099511627776 } _ _
      rw [ECT.out]
      exact ⟨_, _, _, _, _, _, _, _, _, _, _, _, _, _, _, _, rfl, ⟨rfl, str_nil.symm, rfl, str_nil.symm, rfl, rfl, rfl, rfl, rfl, rfl⟩, ⟨[], rfl, World.ownsRow_nil _ _ _ _, fun i q d hq _ => by simp at hq⟩, World.ownsRow_nil _ _ _ _⟩
    · go_upto_region 21 with fail
      have c9 := cell_blk HOw4.out 9 (v := .int .i64 0) rfl
      have z9 := frozen_blk HOw4.out 9
      go_upto_region 26 with fail
      have ks := keep_cell w4 ob 9 (.int .i64 ct)
      have HOw5 : Hid ((w4.setCell ⟨ob, 9, none⟩ (.int .i64 ct)).heap[ob]? = some (.cells #[.int .i64 7, .string ⟨#[]⟩, .int .i64 0, .slice none 0 0, .string ⟨#[]⟩, .int .i64 0, .int .i64 0, .int .i64 0, .slice none 0 0, .int .i64 ct, .int .u64 0, .int .i64 0] 32 (0, 0))) := set_blk HOw4.out 9 _
      have HRw5 := hide (ks.blk HRw4.out fun e => by have e : w.heap.size + 1 = ob := e; omega)
      have HDw5 := hide (ks.blk HDw4.out fun e => by have e : w.heap.size = ob := e; omega)
      have HBw5 := hide (HBw4.out.trans (ks.below HBw4.out.size fun j e => by have e : j = ob := e; omega))
      clear ks
      clear c9 z9
      generalize w4.setCell ⟨ob, 9, none⟩ (.int .i64 ct) = w5 at *
      have HI : Hid ((Tryz.prog.info? 32).map (·.size) = some (#[.int .i64 7, .string ⟨#[]⟩, .int .i64 0, .slice none 0 0, .string ⟨#[]⟩, .int .i64 0, .int .i64 0, .int .i64 0, .slice none 0 0, .int .i64 ct, .int .u64 0, .int .i64 0] : Array Value).size) := sizeOp
      have HO1 : Hid ((#[.int .i64 7, .string ⟨#[]⟩, .int .i64 0, .slice none 0 0, .string ⟨#[]⟩, .int .i64 0, .int .i64 0, .int .i64 0, .slice none 0 0, .int .i64 ct, .int .u64 0, .int .i64 0] : Array Value).all (·.oneCell') = true) := by show _ = _; simp [Value.oneCell']
      go_wp2_with (first
        | (refine wpList_load_row rfl 32 _ rfl ob rfl 32 #[.int .i64 7, .string ⟨#[]⟩, .int .i64 0, .slice none 0 0, .string ⟨#[]⟩, .int .i64 0, .int .i64 0, .int .i64 0, .slice none 0 0, .int .i64 ct, .int .u64 0, .int .i64 0] (0, 0) _ HOw5.out Tryz.underlying32 rfl HI.out ?_)
        | (refine wpList_store_row rfl 32 _ _ rfl (w.heap.size + 1) #[.int .i64 7, .string ⟨#[]⟩, .int .i64 0, .slice none 0 0, .string ⟨#[]⟩, .int .i64 0, .int .i64 0, .int .i64 0, .slice none 0 0, .int .i64 ct, .int .u64 0, .int .i64 0] rfl rfl 32 _ HRw5.out HI.out rfl HO1.out ?_))
      have HX := hide (setRow_heap _ (w.heap.size + 1) _ #[.int .i64 7, .string ⟨#[]⟩, .int .i64 0, .slice none 0 0, .string ⟨#[]⟩, .int .i64 0, .int .i64 0, .int .i64 0, .slice none 0 0, .int .i64 ct, .int .u64 0, .int .i64 0] _ _ HRw5.out)
      have HK := hide (keep_row w5 (w.heap.size + 1) #[.int .i64 7, .string ⟨#[]⟩, .int .i64 0, .slice none 0 0, .string ⟨#[]⟩, .int .i64 0, .int .i64 0, .int .i64 0, .slice none 0 0, .int .i64 ct, .int .u64 0, .int .i64 0])
      refine bodyPost_ret (resOp rfl _ _ (w.heap.size + 1) _ rfl rfl HX.out) rfl ⟨_, rfl, ?_, HBw5.out.trans (HK.out.below HBw5.out.size fun j e => by have e : j = w.heap.size + 1 := e; omega)⟩
      show OvV { ov0 7 with ru := 1 + pkk nu 1099511627776 } _ _
      rw [ECT.out]
      exact ⟨_, _, _, _, _, _, _, _, _, _, _, _, _, _, _, _, rfl, ⟨rfl, str_nil.symm, rfl, str_nil.symm, rfl, rfl, rfl, rfl, rfl, rfl⟩, ⟨[], rfl, World.ownsRow_nil _ _ _ _, fun i q d hq _ => by simp at hq⟩, World.ownsRow_nil _ _ _ _⟩
    · go_upto_region 23 with fail
      have c10 := cell_blk HOw4.out 10 (v := .int .u64 0) rfl
      have z10 := frozen_blk HOw4.out 10
      have f := cell_blk HDw4.out 5 (v := .int .u64 (lu : Int)) rfl
      go_upto_region 26 with fail
      have ks := keep_cell w4 ob 10 (.int .u64 (lu : Int))
      have HOw5 : Hid ((w4.setCell ⟨ob, 10, none⟩ (.int .u64 (lu : Int))).heap[ob]? = some (.cells #[.int .i64 8, .string ⟨#[]⟩, .int .i64 0, .slice none 0 0, .string ⟨#[]⟩, .int .i64 0, .int .i64 0, .int .i64 0, .slice none 0 0, .int .i64 0, .int .u64 (lu : Int), .int .i64 0] 32 (0, 0))) := set_blk HOw4.out 10 _
      have HRw5 := hide (ks.blk HRw4.out fun e => by have e : w.heap.size + 1 = ob := e; omega)
      have HDw5 := hide (ks.blk HDw4.out fun e => by have e : w.heap.size = ob := e; omega)
      have HBw5 := hide (HBw4.out.trans (ks.below HBw4.out.size fun j e => by have e : j = ob := e; omega))
      clear ks
      clear c10 z10 f
      generalize w4.setCell ⟨ob, 10, none⟩ (.int .u64 (lu : Int)) = w5 at *
      have HI : Hid ((Tryz.prog.info? 32).map (·.size) = some (#[.int .i64 8, .string ⟨#[]⟩, .int .i64 0, .slice none 0 0, .string ⟨#[]⟩, .int .i64 0, .int .i64 0, .int .i64 0, .slice none 0 0, .int .i64 0, .int .u64 (lu : Int), .int .i64 0] : Array Value).size) := sizeOp
      have HO1 : Hid ((#[.int .i64 8, .string ⟨#[]⟩, .int .i64 0, .slice none 0 0, .string ⟨#[]⟩, .int .i64 0, .int .i64 0, .int .i64 0, .slice none 0 0, .int .i64 0, .int .u64 (lu : Int), .int .i64 0] : Array Value).all (·.oneCell') = true) := by show _ = _; simp [Value.oneCell']
      go_wp2_with (first
        | (refine wpList_load_row rfl 32 _ rfl ob rfl 32 #[.int .i64 8, .string ⟨#[]⟩, .int .i64 0, .slice none 0 0, .string ⟨#[]⟩, .int .i64 0, .int .i64 0, .int .i64 0, .slice none 0 0, .int .i64 0, .int .u64 (lu : Int), .int .i64 0] (0, 0) _ HOw5.out Tryz.underlying32 rfl HI.out ?_)
        | (refine wpList_store_row rfl 32 _ _ rfl (w.heap.size + 1) #[.int .i64 8, .string ⟨#[]⟩, .int .i64 0, .slice none 0 0, .string ⟨#[]⟩, .int .i64 0, .int .i64 0, .int .i64 0, .slice none 0 0, .int .i64 0, .int .u64 (lu : Int), .int .i64 0] rfl rfl 32 _ HRw5.out HI.out rfl HO1.out ?_))
      have HX := hide (setRow_heap _ (w.heap.size + 1) _ #[.int .i64 8, .string ⟨#[]⟩, .int .i64 0, .slice none 0 0, .string ⟨#[]⟩, .int .i64 0, .int .i64 0, .int .i64 0, .slice none 0 0, .int .i64 0, .int .u64 (lu : Int), .int .i64 0] _ _ HRw5.out)
      have HK := hide (keep_row w5 (w.heap.size + 1) #[.int .i64 8, .string ⟨#[]⟩, .int .i64 0, .slice none 0 0, .string ⟨#[]⟩, .int .i64 0, .int .i64 0, .int .i64 0, .slice none 0 0, .int .i64 0, .int .u64 (lu : Int), .int .i64 0])
      refine bodyPost_ret (resOp rfl _ _ (w.heap.size + 1) _ rfl rfl HX.out) rfl ⟨_, rfl, ?_, HBw5.out.trans (HK.out.below HBw5.out.size fun j e => by have e : j = w.heap.size + 1 := e; omega)⟩
      show OvV { ov0 8 with lu := lu } _ _
      exact ⟨_, _, _, _, _, _, _, _, _, _, _, _, _, _, _, _, rfl, ⟨rfl, str_nil.symm, rfl, str_nil.symm, rfl, rfl, rfl, rfl, rfl, rfl⟩, ⟨[], rfl, World.ownsRow_nil _ _ _ _, fun i q d hq _ => by simp at hq⟩, World.ownsRow_nil _ _ _ _⟩
    · go_upto_region 25 with fail
      have c11 := cell_blk HOw4.out 11 (v := .int .i64 0) rfl
      have z11 := frozen_blk HOw4.out 11
      have f := cell_blk HDw4.out 2 (v := .int .i64 nu) rfl
      go_upto_region 26 with (go_at_call 19; refine (CTI.out _).mono ?_; rintro e w' ⟨rfl, hw⟩; rw [hw]; clear hw w')
      have ks := keep_cell w4 ob 11 (.int .i64 vti)
      have HOw5 : Hid ((w4.setCell ⟨ob, 11, none⟩ (.int .i64 vti)).heap[ob]? = some (.cells #[.int .i64 9, .string ⟨#[]⟩, .int .i64 0, .slice none 0 0, .string ⟨#[]⟩, .int .i64 0, .int .i64 0, .int .i64 0, .slice none 0 0, .int .i64 0, .int .u64 0, .int .i64 vti] 32 (0, 0))) := set_blk HOw4.out 11 _
      have HRw5 := hide (ks.blk HRw4.out fun e => by have e : w.heap.size + 1 = ob := e; omega)
      have HDw5 := hide (ks.blk HDw4.out fun e => by have e : w.heap.size = ob := e; omega)
      have HBw5 := hide (HBw4.out.trans (ks.below HBw4.out.size fun j e => by have e : j = ob := e; omega))
      clear ks
      clear c11 z11 f
      generalize w4.setCell ⟨ob, 11, none⟩ (.int .i64 vti) = w5 at *
      have HI : Hid ((Tryz.prog.info? 32).map (·.size) = some (#[.int .i64 9, .string ⟨#[]⟩, .int .i64 0, .slice none 0 0, .string ⟨#[]⟩, .int .i64 0, .int .i64 0, .int .i64 0, .slice none 0 0, .int .i64 0, .int .u64 0, .int .i64 vti] : Array Value).size) := sizeOp
      have HO1 : Hid ((#[.int .i64 9, .string ⟨#[]⟩, .int .i64 0, .slice none 0 0, .string ⟨#[]⟩, .int .i64 0, .int .i64 0, .int .i64 0, .slice none 0 0, .int .i64 0, .int .u64 0, .int .i64 vti] : Array Value).all (·.oneCell') = true) := by show _ = _; simp [Value.oneCell']
      go_wp2_with (first
        | (refine wpList_load_row rfl 32 _ rfl ob rfl 32 #[.int .i64 9, .string ⟨#[]⟩, .int .i64 0, .slice none 0 0, .string ⟨#[]⟩, .int .i64 0, .int .i64 0, .int .i64 0, .slice none 0 0, .int .i64 0, .int .u64 0, .int .i64 vti] (0, 0) _ HOw5.out Tryz.underlying32 rfl HI.out ?_)
        | (refine wpList_store_row rfl 32 _ _ rfl (w.heap.size + 1) #[.int .i64 9, .string ⟨#[]⟩, .int .i64 0, .slice none 0 0, .string ⟨#[]⟩, .int .i64 0, .int .i64 0, .int .i64 0, .slice none 0 0, .int .i64 0, .int .u64 0, .int .i64 vti] rfl rfl 32 _ HRw5.out HI.out rfl HO1.out ?_))
      have HX := hide (setRow_heap _ (w.heap.size + 1) _ #[.int .i64 9, .string ⟨#[]⟩, .int .i64 0, .slice none 0 0, .string ⟨#[]⟩, .int .i64 0, .int .i64 0, .int .i64 0, .slice none 0 0, .int .i64 0, .int .u64 0, .int .i64 vti] _ _ HRw5.out)
      have HK := hide (keep_row w5 (w.heap.size + 1) #[.int .i64 9, .string ⟨#[]⟩, .int .i64 0, .slice none 0 0, .string ⟨#[]⟩, .int .i64 0, .int .i64 0, .int .i64 0, .slice none 0 0, .int .i64 0, .int .u64 0, .int .i64 vti])
      refine bodyPost_ret (resOp rfl _ _ (w.heap.size + 1) _ rfl rfl HX.out) rfl ⟨_, rfl, ?_, HBw5.out.trans (HK.out.below HBw5.out.size fun j e => by have e : j = w.heap.size + 1 := e; omega)⟩
      show OvV { ov0 9 with ti := pkk nu 4611686018427387905 } _ _
      rw [ETI.out]
      exact ⟨_, _, _, _, _, _, _, _, _, _, _, _, _, _, _, _, rfl, ⟨rfl, str_nil.symm, rfl, str_nil.symm, rfl, rfl, rfl, rfl, rfl, rfl⟩, ⟨[], rfl, World.ownsRow_nil _ _ _ _, fun i q d hq _ => by simp at hq⟩, World.ownsRow_nil _ _ _ _⟩
end Cd
end Go.Proofs.YtbjcckfhfbjchaaGreat
