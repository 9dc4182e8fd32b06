/- Package source: a node's words. -/
import Derived.Test.YtfoahfgehmghcaaGreatDoorUBeg
import Derived.Deep.RegionHeld3
import Derived.Deep.Cut
namespace Go.Proofs.YtfoahfgehmghcaaGreatDoor
namespace U
open Go.RowKit

def wNode (nm : List UInt8) (la bu cl : Int) : List (List UInt8) := [kwNode, nm, kwLane, Lib.itoa la, kwBudget, Lib.itoa bu, kwClose, Lib.itoa cl]
def wBeat (be : Int) : List (List UInt8) := if be = 0 then [] else [kwBeat, Lib.itoa be]
def wBack (bs ca : Int) : List (List UInt8) := if bs = 1 ∧ ca = 1 then [] else [kwBack, Lib.itoa bs, kwTo, Lib.itoa ca]
def wJit (ji : Int) : List (List UInt8) := if ji = 0 then [] else [kwJit, Lib.itoa ji]
/-- a node's words -/
def nodeW (x : Pn) : List (List UInt8) := wNode x.nm x.la x.bu x.cl ++ wBeat x.be ++ wBack x.bs x.ca ++ wJit x.ji
def strs (ws : List (List UInt8)) : List Value := ws.map fun x => .string (ba x)
def i64 (n : Int) : Prop := -9223372036854775808 ≤ n ∧ n ≤ 9223372036854775807
theorem info_string : (Tryz.prog.info? 9).map (fun i => (i.zero, i.size, i.bytes)) = some (some (.string ByteArray.empty), 1, 16) := by kernel_rfl
/-- a block that was made as a whole, as a row of one's own -/
theorem own_made (w : World) (ws : List (List UInt8)) (hn : ws.length ≤ 1000000) : (w.alloc (.cells (strs ws).toArray 9)).ownsRow w.heap.size 9 1 (.slice (some ⟨w.heap.size, 0, none⟩) ws.length ws.length) ws.length (strs ws) :=
  ⟨by simp [strs], .inr ⟨w.heap.size, ws.length, _, rfl, Nat.le_refl _, heap_alloc_new _ _, Nat.le_refl _, by unfold maxLen; omega, by simp [strs], by rw [Nat.mul_one]; exact List.take_of_length_le (by simp [strs])⟩⟩
theorem own_rdS {w : World} {b : Nat} {a : Option Addr} {n c : Nat} {ws : List (List UInt8)} (h : w.ownsRow b 9 1 (.slice a n c) ws.length (strs ws)) : RdS w a ws ∧ ws.length ≤ c := by
  rcases h.2 with ⟨e1, e2⟩ | ⟨g, cap, cur, e1, e2, e3, e4, e5, e6, e7⟩
  · injection e1 with e1 e1' e1''
    exact ⟨.inl (List.eq_nil_of_length_eq_zero e2), by omega⟩
  · injection e1 with e1 e1' e1''
    refine ⟨.inr ⟨g, 0, e1, ⟨cur, e3⟩, fun j x hx => ?_⟩, by omega⟩
    rw [Nat.zero_add]
    have h8 : (strs ws)[j]? = some (.string (ba x)) := by simp [strs, hx]
    rw [← e7, List.getElem?_take] at h8
    split at h8
    · exact cell_blk e3 _ (by simpa using h8)
    · cases h8
/-- words more behind a row of the call's own -/
theorem append_strs {w : World} {b : Nat} {v : Value} {ws : List (List UInt8)} (h : w.ownsRow b 9 1 v ws.length (strs ws)) (hb : b ≤ w.heap.size) (us : List (List UInt8)) (hl : ws.length + us.length ≤ 1000000) {B : Nat} (hB : ∀ j u, (strs us)[j]? = some u → w.cell? ((⟨B, 0, none⟩ : Addr).add j) = some u) (c : Nat) :
    ∃ v' w', (∀ ty, (Builtin.append_ #[58, 58] ty #[v, .slice (some ⟨B, 0, none⟩) us.length c]).run Tryz.prog w = .ok v' w') ∧ w'.ownsRow b 9 1 v' (ws ++ us).length (strs (ws ++ us)) ∧ w.grownBy w' v.ownBlock := by
  have hi := info_string
  rcases hi0 : Tryz.prog.info? 9 with _ | i
  · rw [hi0] at hi; cases hi
  · rw [hi0] at hi
    simp only [Option.map_some, Option.some.injEq, Prod.mk.injEq] at hi
    obtain ⟨hz, hs, hby⟩ := hi
    have hk := fun ty => run_append_own (P := Tryz.prog) w b 58 ty 9 i _ 1 16 Tryz.underlying58 hi0 hz hs hby rfl (by decide) v ws.length _ h ⟨B, 0, none⟩ us.length c (strs us) (by simp [strs]) hB (fun u hu => by simp [strs] at hu; obtain ⟨x, _, rfl⟩ := hu; rfl) (by unfold maxLen; omega) (by omega) hb
    obtain ⟨v', w', h1, h2, h3, _⟩ := hk 0
    refine ⟨v', w', fun ty => ?_, ?_, h3⟩
    · obtain ⟨v2, w2, g1, _⟩ := hk ty
      exact h1
    · rw [show strs (ws ++ us) = strs ws ++ strs us by simp [strs], List.length_append]
      exact h2
theorem temp_strs (w : World) (us : List (List UInt8)) (j : Nat) (u : Value) (hu : (strs us)[j]? = some u) : (w.alloc (.cells (strs us).toArray 9)).cell? ((⟨w.heap.size, 0, none⟩ : Addr).add j) = some u := by
  rw [Addr.add_mid, Nat.zero_add]
  exact cell_blk (heap_alloc_new w _) j (by simpa using hu)
/-- words more, laid in a block of their own, behind a row of the call's own -/
theorem wp_appendS {w : World} {ops : Array Oper} {rest : List Oper} {o : Oper} {a : Act} {Q : Exit → Act → World → Prop} (hgd : o.guard = none) (s x : Operand)
    (ho : o.op = .call { callee := .builtin .append, args := #[s, x], argTypes := #[58, 58] })
    (b : Nat) (v : Value) (ws us : List (List UInt8)) (n m B c : Nat) (hs : a.eval s = v) (hx : a.eval x = .slice (some ⟨B, 0, none⟩) m c) (hn : n = ws.length) (hm : m = us.length) (hown : w.ownsRow b 9 1 v n (strs ws)) (hb : b ≤ w.heap.size) (hl : ws.length + us.length ≤ 1000000) (hB : ∀ j u, (strs us)[j]? = some u → w.cell? ((⟨B, 0, none⟩ : Addr).add j) = some u)
    (h : ∀ va vc w', w'.ownsRow b 9 1 (.slice va (ws ++ us).length vc) (ws ++ us).length (strs (ws ++ us)) → w.grownBy w' v.ownBlock → wpList Tryz.prog ops Q rest (a.put o.dst (.slice va (ws ++ us).length vc)) w') : wpList Tryz.prog ops Q (o :: rest) a w := by
  subst hn
  subst hm
  refine wpList_plain hgd fun K hK => ?_
  obtain ⟨v', w', hr, h2, h3⟩ := append_strs hown hb us hl hB c
  obtain ⟨va, vc, rfl⟩ := own_shape h2
  unfold Oper.wp execOp
  simp only [ho, resolve, invoke, builtin, Sem.run_bind, Sem.run_pure, Result.andThen_ok, List.map_toArray, List.map_cons, List.map_nil, hs, hx, hr]
  exact hK _ _ (h va vc w' h2 h3)
set_option maxRecDepth 100000 in
set_option maxHeartbeats 4000000 in
theorem nodeWords_any (nm : List UInt8) (la bu cl be bs ca ji : Int) (ne af : Option Addr × Nat × Nat) (w : World) (hE : EnvI w) (h1 : i64 la) (h2 : i64 bu) (h3 : i64 cl) (h4 : i64 be) (h5 : i64 bs) (h6 : i64 ca) (h7 : i64 ji) :
    Calls Tryz.prog 32 #[.agg #[.string (ba nm), .int .i64 la, .int .i64 bu, .int .i64 cl, .int .i64 be, .int .i64 bs, .int .i64 ca, .int .i64 ji, .slice ne.1 ne.2.1 ne.2.2, .slice af.1 af.2.1 af.2.2]] w fun e w' => ∃ a c, e = .returned (.slice a (nodeW ⟨nm, la, bu, cl, be, bs, ca, ji, [], []⟩).length c) ∧ w'.ownsRow w.heap.size 9 1 (.slice a (nodeW ⟨nm, la, bu, cl, be, bs, ca, ji, [], []⟩).length c) (nodeW ⟨nm, la, bu, cl, be, bs, ca, ji, [], []⟩).length (strs (nodeW ⟨nm, la, bu, cl, be, bs, ca, ji, [], []⟩)) ∧ Below w.heap.size w w' := by
  obtain ⟨n1, n2, n3⟩ := ne
  obtain ⟨m1, m2, m3⟩ := af
  simp only
  have hbn := heap_alloc_new w (.cells #[.string (ba nm), .int .i64 la, .int .i64 bu, .int .i64 cl, .int .i64 be, .int .i64 bs, .int .i64 ca, .int .i64 ji, .slice n1 n2 n3, .slice m1 m2 m3] 32)
  have bel : Below w.heap.size w (w.alloc (.cells #[.string (ba nm), .int .i64 la, .int .i64 bu, .int .i64 cl, .int .i64 be, .int .i64 bs, .int .i64 ca, .int .i64 ji, .slice n1 n2 n3, .slice m1 m2 m3] 32)) := (Below.refl _ w).alloc (Nat.le_refl _) _
  have HBN := hide hbn
  have BEL := hide bel
  have HEN := hide (hE.below bel)
  have IT := hide (fun n (h : i64 n) w hE => itoa_any n h.1 h.2 w hE)
  clear hbn bel hE
  go_enter Tryz.func32, Tryz.ntmps32
  go_upto_region 1 with fail
  generalize w.alloc (.cells #[.string (ba nm), .int .i64 la, .int .i64 bu, .int .i64 cl, .int .i64 be, .int .i64 bs, .int .i64 ca, .int .i64 ji, .slice n1 n2 n3, .slice m1 m2 m3] 32) = w1 at *
  generalize hN : w.heap.size = N at *
  go_cut [3] from 4 (fun v wx => ∃ a c, v = .slice a 8 c ∧ wx.ownsRow w1.heap.size 9 1 (.slice a 8 c) 8 (strs (wNode nm la bu cl)) ∧ Below w1.heap.size w1 wx)
  case first =>
    have c0 := cell_blk HBN.out 0 (v := .string (ba nm)) rfl
    have c1 := cell_blk HBN.out 1 (v := .int .i64 la) rfl
    have c2 := cell_blk HBN.out 2 (v := .int .i64 bu) rfl
    have c3 := cell_blk HBN.out 3 (v := .int .i64 cl) rfl
    have hS : ∀ W, Below w1.heap.size w1 W → W.cell? ⟨N, 0, none⟩ = some (.string (ba nm)) ∧ W.cell? ⟨N, 1, none⟩ = some (.int .i64 la) ∧ W.cell? ⟨N, 2, none⟩ = some (.int .i64 bu) ∧ W.cell? ⟨N, 3, none⟩ = some (.int .i64 cl) ∧ EnvI W ∧ Below w1.heap.size w1 W := fun W hb => ⟨(hb.cell (p := ⟨N, 0, none⟩) (World.block_lt_of_cell? _ _ c0)).trans c0, (hb.cell (p := ⟨N, 1, none⟩) (World.block_lt_of_cell? _ _ c1)).trans c1, (hb.cell (p := ⟨N, 2, none⟩) (World.block_lt_of_cell? _ _ c2)).trans c2, (hb.cell (p := ⟨N, 3, none⟩) (World.block_lt_of_cell? _ _ c3)).trans c3, HEN.out.below hb, hb⟩
    have HS := hide hS
    clear hS
    go_region_held3 (fun W => W.cell? ⟨N, 0, none⟩ = some (.string (ba nm)) ∧ W.cell? ⟨N, 1, none⟩ = some (.int .i64 la) ∧ W.cell? ⟨N, 2, none⟩ = some (.int .i64 bu) ∧ W.cell? ⟨N, 3, none⟩ = some (.int .i64 cl) ∧ EnvI W ∧ Below w1.heap.size w1 W) (first | (exact HS.out _ HB9.out) | (exact HS.out _ (HB9.out.alloc HB9.out.size _)) | (exact HS.out _ ((Below.refl _ w1).drew)) | (exact HS.out _ ((Below.refl _ w1))) | go_keep) ((go_at_call 31; have hh8 := (‹_ ∧ _ ∧ _ ∧ _ ∧ EnvI _ ∧ Below w1.heap.size w1 _›); refine (IT.out _ (by assumption) _ hh8.2.2.2.2.1).mono ?_; rintro e w9 ⟨rfl, hb9⟩; have HB9 := hide (hh8.2.2.2.2.2.trans (hb9.mono hh8.2.2.2.2.2.size)); clear hh8 hb9))
    go_wp2_with fail
    go_meet
    exact ⟨_, _, rfl, ownsRow_base (own_made w9 (wNode nm la bu cl) (by simp [wNode])) HB9.out.size, HB9.out.alloc HB9.out.size _⟩
  case rest =>
  obtain ⟨a1, cc1, rfl, own1, bel1⟩ := hcut
  have OWN := hide own1
  have BL := hide bel1
  clear own1 bel1
  have hlt1 : N < w1.heap.size := (Array.getElem?_eq_some_iff.1 HBN.out).1
  have NC : Hid (∀ W, Below w1.heap.size w1 W → W.heap[N]? = some (.cells #[.string (ba nm), .int .i64 la, .int .i64 bu, .int .i64 cl, .int .i64 be, .int .i64 bs, .int .i64 ca, .int .i64 ji, .slice n1 n2 n3, .slice m1 m2 m3] 32 (0, 0)) ∧ EnvI W) := fun W hb => ⟨(hb.block N hlt1).trans HBN.out, HEN.out.below hb⟩
  have c4 := cell_blk (NC.out _ BL.out).1 4 (v := .int .i64 be) rfl
  go_upto_if 18 with fail
  clear c4
  have HLEN : Hid ((wNode nm la bu cl).length + [kwBeat, Lib.itoa be].length ≤ 1000000) := by show _ ≤ _; simp [wNode]
  go_cut [3] from 4 (fun v wx => ∃ a c, v = .slice a (wNode nm la bu cl ++ wBeat be).length c ∧ wx.ownsRow w1.heap.size 9 1 (.slice a (wNode nm la bu cl ++ wBeat be).length c) (wNode nm la bu cl ++ wBeat be).length (strs (wNode nm la bu cl ++ wBeat be)) ∧ Below w1.heap.size w1 wx)
  case first =>
    by_cases hb : be = 0
    · have HE : Hid (wNode nm la bu cl ++ wBeat be = wNode nm la bu cl) := by show _ = _; unfold wBeat; rw [if_pos hb]; simp
      subst hb
      go_wp2_with fail
      go_meet
      rw [HE.out]
      exact ⟨_, _, rfl, OWN.out, BL.out⟩
    · have HE : Hid (wNode nm la bu cl ++ wBeat be = wNode nm la bu cl ++ [kwBeat, Lib.itoa be]) := by show _ = _; unfold wBeat; rw [if_neg hb]
      have hb' : (be == 0) = false := by simpa using hb
      have c4 := cell_blk (NC.out _ BL.out).1 4 (v := .int .i64 be) rfl
      clear hb
      go_wp2_with fail
      go_at_call 31
      refine (IT.out _ h4 _ (NC.out _ BL.out).2).mono ?_
      rintro e w9 ⟨rfl, hb9⟩
      have HB9 := hide hb9
      clear hb9
      go_wp2_with (first
        | (at_builtin; refine wp_appendS rfl _ _ rfl w1.heap.size _ (wNode nm la bu cl) [kwBeat, Lib.itoa be] 8 2 _ 2 rfl rfl rfl rfl ((own_below OWN.out HB9.out).alloc _) ?b1 HLEN.out (temp_strs _ [kwBeat, Lib.itoa be]) ?_
           rotate_left
           intro va vc w8 own8 gr8
           have HF := hide (⟨own8, gr8⟩ : _ ∧ _)
           clear own8 gr8))
      · go_meet
        rw [HE.out]
        have B9 := BL.out.trans (HB9.out.mono BL.out.size)
        exact ⟨_, _, rfl, HF.out.1, (B9.alloc B9.size _).grown HF.out.2 (by have := B9.size; simp; omega) (fun k hk => ((own_below OWN.out HB9.out).lt k hk).1)⟩
      case b1 => have := HB9.out.size; have := BL.out.size; simp; omega
  case rest =>
  clear OWN BL HLEN
  obtain ⟨a2, cc2, rfl, own2, bel2⟩ := hcut
  have OWN := hide own2
  have BL := hide bel2
  clear own2 bel2
  have HL2 : Hid ((wNode nm la bu cl ++ wBeat be).length ≤ 10) := by show _ ≤ _; unfold wNode wBeat; split <;> simp
  have HWD : Hid ((wNode nm la bu cl ++ wBeat be) = (wNode nm la bu cl ++ wBeat be)) := rfl
  generalize hws2 : wNode nm la bu cl ++ wBeat be = ws2 at *
  have HW2 := hide hws2
  clear hws2 HWD
  have c5 := cell_blk (NC.out _ BL.out).1 5 (v := .int .i64 bs) rfl
  have c6 := cell_blk (NC.out _ BL.out).1 6 (v := .int .i64 ca) rfl
  generalize hl2 : ws2.length = len2 at *
  have HLN := hide hl2
  clear hl2
  go_upto_region 4 with fail
  go_cut [32] from 4 (fun v wx => v = .bool (!decide (bs = 1 ∧ ca = 1)) ∧ wx = wc)
  case first =>
    by_cases hb1 : bs = 1
    · have HD : Hid ((!decide (bs = 1 ∧ ca = 1)) = (ca != 1)) := by show _ = _; simp [hb1, bne, BEq.beq]
      have hb1' : (bs != 1) = false := by simp [hb1]
      clear hb1
      go_wp2_with fail
      go_meet
      rw [HD.out]
      exact ⟨rfl, rfl⟩
    · have HD : Hid ((!decide (bs = 1 ∧ ca = 1)) = true) := by show _ = _; simp [hb1]
      have hb1' : (bs != 1) = true := by simpa using hb1
      clear hb1
      go_wp2_with fail
      go_meet
      rw [HD.out]
      exact ⟨rfl, rfl⟩
  case rest =>
  obtain ⟨rfl, hwc⟩ := hcut
  subst hwc
  generalize hbD : (!decide (bs = 1 ∧ ca = 1)) = bD at *
  have HBD := hide hbD
  clear hbD
  go_upto_if 32 with fail
  clear c5 c6
  have HLEN : Hid (ws2.length + [kwBack, Lib.itoa bs, kwTo, Lib.itoa ca].length ≤ 1000000) := by show _ ≤ _; have := HL2.out; have := HLN.out; simp; omega
  go_cut [3] from 4 (fun v wx => ∃ a c, v = .slice a (ws2 ++ wBack bs ca).length c ∧ wx.ownsRow w1.heap.size 9 1 (.slice a (ws2 ++ wBack bs ca).length c) (ws2 ++ wBack bs ca).length (strs (ws2 ++ wBack bs ca)) ∧ Below w1.heap.size w1 wx)
  case first =>
    by_cases hb : bs = 1 ∧ ca = 1
    · have HE : Hid (ws2 ++ wBack bs ca = ws2) := by show _ = _; unfold wBack; rw [if_pos hb]; simp
      have hd : bD = false := by rw [← HBD.out]; simpa using hb
      subst hd
      clear hb
      go_wp2_with fail
      go_meet
      rw [HE.out, HLN.out]
      exact ⟨_, _, rfl, OWN.out, BL.out⟩
    · have HE : Hid (ws2 ++ wBack bs ca = ws2 ++ [kwBack, Lib.itoa bs, kwTo, Lib.itoa ca]) := by show _ = _; unfold wBack; rw [if_neg hb]
      have hd : bD = true := by rw [← HBD.out, decide_eq_false hb]; rfl
      subst hd
      clear hb
      have HS : Hid (∀ W, Below w1.heap.size w1 W → W.cell? ⟨N, 5, none⟩ = some (.int .i64 bs) ∧ W.cell? ⟨N, 6, none⟩ = some (.int .i64 ca) ∧ EnvI W ∧ Below w1.heap.size w1 W) := fun W hb => by
        have X := NC.out W hb
        exact ⟨cell_blk X.1 5 (v := .int .i64 bs) rfl, cell_blk X.1 6 (v := .int .i64 ca) rfl, X.2, hb⟩
      have HT : Hid (∀ W, Below wc.heap.size wc W → Below w1.heap.size w1 W) := fun W hb => BL.out.trans (hb.mono BL.out.size)
      go_upto_region 5 with fail
      go_region_held3 (fun W => W.cell? ⟨N, 5, none⟩ = some (.int .i64 bs) ∧ W.cell? ⟨N, 6, none⟩ = some (.int .i64 ca) ∧ EnvI W ∧ Below w1.heap.size w1 W) (first | (exact HS.out _ HF.out.2) | (exact HS.out _ (HT.out _ HB9.out)) | (exact HS.out _ (HT.out _ (HB9.out.alloc HB9.out.size _))) | (exact HS.out _ (HT.out _ ((Below.refl _ wc).drew))) | (exact HS.out _ (HT.out _ (Below.refl _ wc))) | go_keep) (first
        | (go_at_call 31; have hh8 := (‹_ ∧ _ ∧ EnvI _ ∧ Below w1.heap.size w1 _›); refine (IT.out _ (by assumption) _ hh8.2.2.1).mono ?_; rintro e w9 ⟨rfl, hb9⟩; (first | (have HB9 := hide (HB9.out.trans (hb9.mono HB9.out.size))) | (have HB9 : Hid (Below wc.heap.size wc w9) := hide ((Below.refl _ wc).drew.trans hb9)) | (have HB9 : Hid (Below wc.heap.size wc w9) := hide hb9)); clear hh8 hb9)
        | (have ow9 : w9.ownsRow w1.heap.size 9 1 (.slice a2 len2 cc2) ws2.length (strs ws2) := (by rw [HLN.out]; exact own_below OWN.out HB9.out)
           obtain ⟨v8, w8, hap, own8, gr8⟩ := append_strs (w := w9.alloc (.cells (strs [kwBack, Lib.itoa bs, kwTo, Lib.itoa ca]).toArray 9)) (ws := ws2) (ow9.alloc _) (by have := HB9.out.size; have := BL.out.size; simp; omega) [kwBack, Lib.itoa bs, kwTo, Lib.itoa ca] HLEN.out (B := w9.heap.size) (temp_strs w9 _) 4
           obtain ⟨va, vc, rfl⟩ := own_shape own8
           refine step_append_run (by rfl) _ _ 58 (by rfl) _ _ (by rfl) (by rfl) (hap _) ?_
           have HF : Hid (w8.ownsRow w1.heap.size 9 1 (.slice va (ws2 ++ [kwBack, Lib.itoa bs, kwTo, Lib.itoa ca]).length vc) (ws2 ++ [kwBack, Lib.itoa bs, kwTo, Lib.itoa ca]).length (strs (ws2 ++ [kwBack, Lib.itoa bs, kwTo, Lib.itoa ca])) ∧ Below w1.heap.size w1 w8) := ⟨own8, ((HT.out _ HB9.out).alloc (HT.out _ HB9.out).size _).grown gr8 (by have := (HT.out _ HB9.out).size; simp; omega) (fun k hk => (ow9.lt k hk).1)⟩
           clear hap own8 gr8 ow9))
      go_wp2_with fail
      go_meet
      rw [HE.out]
      exact ⟨_, _, by simp, HF.out.1, HF.out.2⟩
  case rest =>
  clear OWN BL HLEN
  obtain ⟨a3, cc3, rfl, own3, bel3⟩ := hcut
  have OWN := hide own3
  have BL := hide bel3
  clear own3 bel3
  have HL3 : Hid ((ws2 ++ wBack bs ca).length ≤ 14) := by show _ ≤ _; have := HL2.out; have := HLN.out; unfold wBack; split <;> simp <;> omega
  generalize hws3 : ws2 ++ wBack bs ca = ws3 at *
  have HW3 := hide hws3
  clear hws3 HLN
  have c7 := cell_blk (NC.out _ BL.out).1 7 (v := .int .i64 ji) rfl
  generalize hl3 : ws3.length = len3 at *
  have HLN := hide hl3
  clear hl3
  go_upto_if 44 with fail
  clear c7
  have HLEN : Hid (ws3.length + [kwJit, Lib.itoa ji].length ≤ 1000000) := by show _ ≤ _; have := HL3.out; have := HLN.out; simp; omega
  go_cut [3] from 4 (fun v wx => ∃ a c, v = .slice a (ws3 ++ wJit ji).length c ∧ wx.ownsRow w1.heap.size 9 1 (.slice a (ws3 ++ wJit ji).length c) (ws3 ++ wJit ji).length (strs (ws3 ++ wJit ji)) ∧ Below w1.heap.size w1 wx)
  case first =>
    by_cases hb : ji = 0
    · have HE : Hid (ws3 ++ wJit ji = ws3) := by show _ = _; unfold wJit; rw [if_pos hb]; simp
      subst hb
      go_wp2_with fail
      go_meet
      rw [HE.out, HLN.out]
      exact ⟨_, _, rfl, OWN.out, BL.out⟩
    · have HE : Hid (ws3 ++ wJit ji = ws3 ++ [kwJit, Lib.itoa ji]) := by show _ = _; unfold wJit; rw [if_neg hb]
      have hb' : (ji == 0) = false := by simpa using hb
      have c7 := cell_blk (NC.out _ BL.out).1 7 (v := .int .i64 ji) rfl
      clear hb
      go_wp2_with fail
      go_at_call 31
      refine (IT.out _ h7 _ (NC.out _ BL.out).2).mono ?_
      rintro e w9 ⟨rfl, hb9⟩
      have HB9 := hide hb9
      clear hb9
      go_wp2_with (first
        | (at_builtin; refine wp_appendS rfl _ _ rfl w1.heap.size _ (ws3) [kwJit, Lib.itoa ji] len3 2 _ 2 rfl rfl HLN.out.symm rfl ((own_below OWN.out HB9.out).alloc _) ?b1 HLEN.out (temp_strs _ [kwJit, Lib.itoa ji]) ?_
           rotate_left
           intro va vc w8 own8 gr8
           have HF := hide (⟨own8, gr8⟩ : _ ∧ _)
           clear own8 gr8))
      · go_meet
        rw [HE.out]
        have B9 := BL.out.trans (HB9.out.mono BL.out.size)
        exact ⟨_, _, by simp, HF.out.1, (B9.alloc B9.size _).grown HF.out.2 (by have := B9.size; simp; omega) (fun k hk => ((own_below OWN.out HB9.out).lt k hk).1)⟩
      case b1 => have := HB9.out.size; have := BL.out.size; simp; omega
  case rest =>
  clear OWN BL HLEN
  obtain ⟨a4, cc4, rfl, own4, bel4⟩ := hcut
  have HX : Hid (nodeW ⟨nm, la, bu, cl, be, bs, ca, ji, [], []⟩ = ws3 ++ wJit ji) := by show _ = _; rw [← HW3.out, ← HW2.out]; rfl
  have F := hide (⟨own4, bel4⟩ : _ ∧ _)
  clear own4 bel4
  generalize ws3 ++ wJit ji = Z at *
  go_wp2_with fail
  go_ret
  rw [HX.out]
  have B := BEL.out
  rw [hN]
  have hle : N ≤ w1.heap.size := by have := B.size; omega
  exact ⟨_, _, rfl, ownsRow_base F.out.1 hle, B.trans (F.out.2.mono hle)⟩
end U
end Go.Proofs.YtfoahfgehmghcaaGreatDoor
