import Derived.Test.YtbjcckfhfbjchaaGreatCEi
/- Codec: opFields$2: an operation taken (written by cej_gen.py). -/
namespace Go.Proofs.YtbjcckfhfbjchaaGreat
namespace Cd
open Go.RowKit Go.Deep

variable {bf : Nat × Nat}
noncomputable def allPR : List Nat → K.RS → K.RS
  | [], s => s
  | j :: r, s => allPR r (takeR (partR j) s)
noncomputable def allPV : List Nat → K.RS → Ov → Ov
  | [], _, d => d
  | j :: r, s, d => allPV r (takeR (partR j) s) (partV s d j)
theorem allPR_app : ∀ (a b : List Nat) (s : K.RS), allPR (a ++ b) s = allPR b (allPR a s)
  | [], _, _ => rfl
  | _ :: r, b, _ => allPR_app r b _
theorem allPV_app : ∀ (a b : List Nat) (s : K.RS) (d : Ov), allPV (a ++ b) s d = allPV b (allPR a s) (allPV a s d)
  | [], _, _, _ => rfl
  | _ :: r, b, _, _ => allPV_app r b _ _
theorem allPR_succ {ps : List Nat} {k j : Nat} (h : ps[k]? = some j) (s : K.RS) : allPR (ps.take (k + 1)) s = takeR (partR j) (allPR (ps.take k) s) := by
  rw [List.take_add_one, h, allPR_app]
  rfl
theorem allPV_succ {ps : List Nat} {k j : Nat} (h : ps[k]? = some j) (s : K.RS) (d : Ov) : allPV (ps.take (k + 1)) s d = partV (allPR (ps.take k) s) (allPV (ps.take k) s d) j := by
  rw [List.take_add_one, h, allPV_app]
  rfl
/-- the kind that is read -/
noncomputable def kd (s : K.RS) : Int := if (numR 1 9 s).fault = 0 then iV s else 0
def ov0 (k : Int) : Ov := ⟨k, (([], 0), []), [], 0, 0, 0, [], 0, 0, 0⟩
noncomputable def opR (s : K.RS) : K.RS := allPR (prts (kd s)) (numR 1 9 s)
noncomputable def opVal (s : K.RS) : Ov := allPV (prts (kd s)) (numR 1 9 s) (ov0 (kd s))
def OvV (d : Ov) (w : World) (v : Value) : Prop := ∃ ki nm dl x1 x2 x3 ky la wo tk y1 y2 y3 ru lu ti, v = .agg #[.int .i64 ki, .string nm, .int .i64 dl, .slice x1 x2 x3, .string ky, .int .i64 la, .int .i64 wo, .int .i64 tk, .slice y1 y2 y3, .int .i64 ru, .int .u64 lu, .int .i64 ti] ∧ OvC d w ki nm dl x1 x2 x3 ky la wo tk y1 y2 y3 ru lu ti
theorem str_nil : str [] = ⟨#[]⟩ := rfl
theorem ovc_zero (k : Int) (w : World) : OvC (ov0 k) w k ⟨#[]⟩ 0 none 0 0 ⟨#[]⟩ 0 0 0 none 0 0 0 0 0 :=
  ⟨⟨rfl, str_nil.symm, rfl, str_nil.symm, rfl, rfl, rfl, rfl, rfl, rfl⟩, ⟨[], rfl, World.ownsRow_nil _ _ _ _, fun i q d hq _ => by simp at hq⟩, World.ownsRow_nil _ _ _ _⟩
theorem sizeOn : (Tryz.prog.info? 99).map (·.size) = some 12 := by kernel_rfl
theorem OpB.blk {w w' : World} {ob : Nat} {k : Int} {f : Nat} {d : Ov} (h : OpB w ob k f d) (hb : Below w.heap.size w w') : OpB w' ob k f d := by
  obtain ⟨ki, nm, dl, x1, x2, x3, ky, la, wo, tk, y1, y2, y3, ru, lu, ti, h1, h2, h3⟩ := h
  exact ⟨ki, nm, dl, x1, x2, x3, ky, la, wo, tk, y1, y2, y3, ru, lu, ti, blkB h1 hb, h2, fun e => (h3 e).keep (T := 99) (by decide) (by decide) (by decide) (Keep.ofBelow (S := fun _ => False) hb (Nat.le_refl _)) (fun _ f => f.elim)⟩
theorem sh_IZ {s' : K.RS} {w : World} {v : Value} {s : K.RS} (h : s'.fault = 0 → vI s w v) (hn : s'.fault ≠ 0 → v = .int .i64 0) : ∃ x : Int, v = .int .i64 x ∧ x = if s'.fault = 0 then iV s else 0 := by
  by_cases hz : s'.fault = 0
  · exact ⟨_, h hz, by rw [if_pos hz]; rfl⟩
  · exact ⟨_, hn hz, by rw [if_neg hz]⟩
set_option maxRecDepth 10000 in
set_option maxHeartbeats 4000000 in
theorem takeOp (wf w0 : World) (bk bw : Nat) (hF : OF bf.2 wf bk bw) (q : Nat) (s : K.RS) (ha : Agree (Lo bf wf) wf w0) (hq : ¬ Lo bf wf q) (h : Rr w0 q s) :
    s.fault = 0 → TakesF w0 q 47 #[.pointer (some ⟨bk, 0, none⟩), .pointer (some ⟨bw, 0, none⟩)] (opR s) (OvV (opVal s)) ShOp := by
  intro hz
  obtain ⟨l, m, hfi⟩ := hF.ex
  have HAG : Hid (∀ W, Keep (fun k => k = q) w0 W → Agree (Lo bf wf) wf W) := fun W k => ha.keep k fun j hj e => hq (e ▸ hj)
  have hba := (Below.refl w0.heap.size w0).alloc (Nat.le_refl _) (.cells #[.int .i64 0, .string ⟨#[]⟩, .int .i64 0, .slice none 0 0, .string ⟨#[]⟩, .int .i64 0, .int .i64 0, .int .i64 0, .slice none 0 0, .int .i64 0, .int .u64 0, .int .i64 0] 32)
  have HE0 := hide (heap_alloc_new w0 (.cells #[.int .i64 0, .string ⟨#[]⟩, .int .i64 0, .slice none 0 0, .string ⟨#[]⟩, .int .i64 0, .int .i64 0, .int .i64 0, .slice none 0 0, .int .i64 0, .int .u64 0, .int .i64 0] 32))
  have HR0 := hide (h.below hba)
  have HK0 := hide (Keep.ofBelow (S := fun k => k = q) hba (Nat.le_refl _))
  have HQ0 := hide h.lt
  have HBL : Hid (∀ W, Agree (Lo bf wf) wf W → W.cell? ⟨bk, 0, none⟩ = some (.func (.func 78) #[] #[.pointer (some ⟨l, 0, none⟩), .pointer (some ⟨m, 0, none⟩)]) ∧ W.cell? ⟨bk, 1, none⟩ = some (.func (.func 81) #[] #[.pointer (some ⟨l, 0, none⟩), .pointer (some ⟨m, 0, none⟩)])) := fun W ha => lo_cells ha hfi.blk hfi.hb
  have HWY : Hid (∀ W, Agree (Lo bf wf) wf W → W.heap[bw]? = some (.cells waysC 96 (0, 0))) := fun W ha => (ha bw ⟨blk_lt hF.wy, .inr hF.hw⟩).2.trans hF.wy
  have C0 := hide (ftakeI (fn1 := 78) (cap1 := #[.pointer (some ⟨l, 0, none⟩), .pointer (some ⟨m, 0, none⟩)]) (HAG.out _ HK0.out) hq HR0.out (takesNum (Lo bf wf) wf l m 1 9 hfi.ce0 hfi.cel (clM hfi.ce0 hfi.hl) (clM hfi.cel hfi.hm)) (stable_I (T := 0) s).stable ent_takeNum)
  have HTZ : Hid (takeR (numR 1 9) s = numR 1 9 s) := by show _ = _; unfold takeR; rw [if_pos hz]
  have HER : Hid (opR s = allPR (prts (kd s)) (numR 1 9 s)) := rfl
  have HEV : Hid (opVal s = allPV (prts (kd s)) (numR 1 9 s) (ov0 (kd s))) := rfl
  have HKD : Hid (kd s = if (numR 1 9 s).fault = 0 then iV s else 0) := rfl
  generalize opR s = sE at *
  generalize opVal s = dE at *
  clear ha hq h hba hz hF hfi
  unfold TakesF
  show Calls Tryz.prog 47 #[.pointer (some ⟨q, 0, none⟩), .pointer (some ⟨bk, 0, none⟩), .pointer (some ⟨bw, 0, none⟩)] w0 _
  go_enter Tryz.func47, Tryz.ntmps47
  go_upto_region 1 with fail
  generalize w0.alloc (.cells #[.int .i64 0, .string ⟨#[]⟩, .int .i64 0, .slice none 0 0, .string ⟨#[]⟩, .int .i64 0, .int .i64 0, .int .i64 0, .slice none 0 0, .int .i64 0, .int .u64 0, .int .i64 0] 32) = W0 at *
  generalize hbz : w0.heap.size = bz at *
  have HBZ := hide hbz
  clear hbz
  obtain ⟨c0, c1⟩ := HBL.out W0 (HAG.out _ HK0.out)
  generalize hkk : kd s = kk at *
  clear hkk
  go_upto_region 2 with (first
    | (refine wpList_store_row rfl 99 _ _ rfl W1.heap.size #[.int .i64 xk, .string ⟨#[]⟩, .int .i64 0, .slice none 0 0, .string ⟨#[]⟩, .int .i64 0, .int .i64 0, .int .i64 0, .slice none 0 0, .int .i64 0, .int .u64 0, .int .i64 0] rfl rfl 99 _ HA1.out HIK.out rfl HOK.out ?_)
    | (go_at_call 48; refine C0.out.mono ?_; rintro e W1 ⟨v, rfl, hr, hk, hv, hn⟩; obtain ⟨xk, rfl, hxk⟩ := sh_IZ (w := W1) hv hn; rw [HTZ.out] at hr hxk; rw [← HKD.out] at hxk; subst hxk; have HR1 := hide hr; have HE1 := hide (hk.blk HE0.out (box_ne HR0.out HE0.out (by decide))); have HK1 := hide (HK0.out.more hk); have HA1 := hide (heap_alloc_new W1 (.cells #[.int .i64 0, .string ⟨#[]⟩, .int .i64 0, .slice none 0 0, .string ⟨#[]⟩, .int .i64 0, .int .i64 0, .int .i64 0, .slice none 0 0, .int .i64 0, .int .u64 0, .int .i64 0] 99)); have HIK : Hid ((Tryz.prog.info? 99).map (·.size) = some (#[.int .i64 xk, .string ⟨#[]⟩, .int .i64 0, .slice none 0 0, .string ⟨#[]⟩, .int .i64 0, .int .i64 0, .int .i64 0, .slice none 0 0, .int .i64 0, .int .u64 0, .int .i64 0] : Array Value).size) := sizeOn; have HOK := hide (onesOp xk ⟨#[]⟩ 0 none 0 0 ⟨#[]⟩ 0 0 0 none 0 0 0 0 0); clear hr hk hv hn c0 c1 C0 HR0 HK0 HE0))
  have HXO : Hid (((W1.alloc (.cells #[.int .i64 0, .string ⟨#[]⟩, .int .i64 0, .slice none 0 0, .string ⟨#[]⟩, .int .i64 0, .int .i64 0, .int .i64 0, .slice none 0 0, .int .i64 0, .int .u64 0, .int .i64 0] 99)).setRow W1.heap.size #[.int .i64 xk, .string ⟨#[]⟩, .int .i64 0, .slice none 0 0, .string ⟨#[]⟩, .int .i64 0, .int .i64 0, .int .i64 0, .slice none 0 0, .int .i64 0, .int .u64 0, .int .i64 0]).heap[W1.heap.size]? = some (.cells #[.int .i64 xk, .string ⟨#[]⟩, .int .i64 0, .slice none 0 0, .string ⟨#[]⟩, .int .i64 0, .int .i64 0, .int .i64 0, .slice none 0 0, .int .i64 0, .int .u64 0, .int .i64 0] 99 (0, 0))) := hide (setRow_heap _ _ _ _ _ _ HA1.out)
  have hb1 : Below W1.heap.size W1 ((W1.alloc (.cells #[.int .i64 0, .string ⟨#[]⟩, .int .i64 0, .slice none 0 0, .string ⟨#[]⟩, .int .i64 0, .int .i64 0, .int .i64 0, .slice none 0 0, .int .i64 0, .int .u64 0, .int .i64 0] 99)).setRow W1.heap.size #[.int .i64 xk, .string ⟨#[]⟩, .int .i64 0, .slice none 0 0, .string ⟨#[]⟩, .int .i64 0, .int .i64 0, .int .i64 0, .slice none 0 0, .int .i64 0, .int .u64 0, .int .i64 0]) := ((Below.refl _ _).alloc (Nat.le_refl _) _).trans ((keep_row _ _ _).below (by simp) fun k e => by rw [e]; exact Nat.le_refl _)
  have HR2 := hide (HR1.out.below hb1)
  have HE2 := hide (blkB HE1.out hb1)
  have HK2 := hide (HK1.out.more (Keep.ofBelow (S := fun k => k = q) hb1 (Nat.le_refl _)))
  have HOB := hide (blk_lt HE1.out)
  clear hb1 HA1 HR1 HE1 HK1 HIK HOK
  change Code.wp _ _ _ _ ((W1.alloc (.cells #[.int .i64 0, .string ⟨#[]⟩, .int .i64 0, .slice none 0 0, .string ⟨#[]⟩, .int .i64 0, .int .i64 0, .int .i64 0, .slice none 0 0, .int .i64 0, .int .u64 0, .int .i64 0] 99)).setRow W1.heap.size #[.int .i64 xk, .string ⟨#[]⟩, .int .i64 0, .slice none 0 0, .string ⟨#[]⟩, .int .i64 0, .int .i64 0, .int .i64 0, .slice none 0 0, .int .i64 0, .int .u64 0, .int .i64 0])
  generalize (W1.alloc (.cells #[.int .i64 0, .string ⟨#[]⟩, .int .i64 0, .slice none 0 0, .string ⟨#[]⟩, .int .i64 0, .int .i64 0, .int .i64 0, .slice none 0 0, .int .i64 0, .int .u64 0, .int .i64 0] 99)).setRow W1.heap.size #[.int .i64 xk, .string ⟨#[]⟩, .int .i64 0, .slice none 0 0, .string ⟨#[]⟩, .int .i64 0, .int .i64 0, .int .i64 0, .slice none 0 0, .int .i64 0, .int .u64 0, .int .i64 0] = W2 at *
  generalize W1.heap.size = ob at *
  have d0 := cell_blk HXO.out 0 (v := .int .i64 xk) rfl
  obtain ⟨ps, hps⟩ : ∃ ps, prts xk = ps := ⟨_, rfl⟩
  have HPS := hide hps
  have HN := hide (hps ▸ prts_len xk)
  obtain ⟨n, hn⟩ : ∃ n, ps.length = n := ⟨_, rfl⟩
  have HNN := hide hn
  go_upto_region 3 with (go_at_call 30; refine (partsOf_any xk _).mono ?_; unfold Prts; rw [HPS.out, HNN.out]; rintro e W3 ⟨a, rfl, hb2, hcs⟩; have HXO3 := hide (blkB HXO.out hb2); have HR3 := hide (HR2.out.below hb2); have HE3 := hide (blkB HE2.out hb2); have HK3 := hide (HK2.out.more (Keep.ofBelow (S := fun k => k = q) hb2 (Nat.le_refl _))); have HCS := hide hcs; have HBP := hide (blk_lt HXO.out); clear hb2 hcs d0 HXO HR2 HE2 HK2)
  generalize W2.heap.size = bp at *
  have hn2 : n ≤ 2 := by have := HN.out; have := HNN.out; omega
  have HOP : Hid (OpB W3 ob xk (numR 1 9 s).fault (ov0 xk)) := ⟨_, _, _, _, _, _, _, _, _, _, _, _, _, _, _, _, HXO3.out, rfl, fun _ => ovc_zero xk W3⟩
  rw [HPS.out] at HER HEV
  generalize numR 1 9 s = s1 at *
  clear hps hn HXO3
  go_loopw [16] (fun i wx => ∃ k : Nat, k ≤ n ∧ i = .int .i64 (k : Nat) ∧ Rr wx q (allPR (ps.take k) s1) ∧ OpB wx ob xk (allPR (ps.take k) s1).fault (allPV (ps.take k) s1 (ov0 xk)) ∧ wx.heap[bz]? = some (.cells #[.int .i64 0, .string ⟨#[]⟩, .int .i64 0, .slice none 0 0, .string ⟨#[]⟩, .int .i64 0, .int .i64 0, .int .i64 0, .slice none 0 0, .int .i64 0, .int .u64 0, .int .i64 0] 32 (0, 0)) ∧ Keep (fun k => k = q) w0 wx ∧ (ps ≠ [] → a = some ⟨bp, 0, none⟩ ∧ wx.heap[bp]? = some (.cells (ps.map fun p => Value.int .i64 (p : Nat)).toArray 98 (0, 0)))) (fun i _ => n - (intOf i).toNat)
  case atStart => exact ⟨0, Nat.zero_le _, rfl, HR3.out, HOP.out, HE3.out, HK3.out, HCS.out⟩
  case round =>
    obtain ⟨k, hk, rfl, hr, hop, hbe, hkk, hbp⟩ := hrel
    have HR := hide hr
    have HO := hide hop
    have HE := hide hbe
    have HK := hide hkk
    have HP := hide hbp
    clear hr hop hbe hkk hbp HOP HR3 HE3 HK3 HCS
    by_cases hlt : k < n
    · obtain ⟨j, hj⟩ : ∃ j, ps[k]? = some j := ⟨_, List.getElem?_eq_getElem (by have := HNN.out; omega)⟩
      have hj9 : j < 9 := prts_lt (by rw [HPS.out]; exact hj)
      obtain ⟨rfl, hbp⟩ := HP.out (by intro e; rw [e] at hj; simp at hj)
      have ec := cell_blk hbp k (v := .int .i64 (j : Nat)) (by simp [hj])
      have hwb := HWY.out _ (HAG.out _ HK.out)
      have ew := cell_blk hwb (j * 2 + 1) (Nat.mul_comm 2 j ▸ waysTake j hj9)
      have hent := ent_tkF j hj9
      have HSC := hide (allPR_succ hj s1)
      have HSV := hide (allPV_succ hj s1 (ov0 xk))
      have HPT := hide (takeP_any xk _ _ wr ob q _ id HR.out (by have := HQ0.out; have := HOB.out; have := HBZ.out; omega) HO.out j hj9)
      have HBP2 := hide hbp
      have i0 : (0 : Int) ≤ ((j : Nat) : Int) := by omega
      have i1 : ((j : Nat) : Int) < 9 := by omega
      clear hj hbp hwb
      generalize tkF j = fp at *
      go_wp2_with fail
      refine HPT.out.mono ?_
      rintro e w3 ⟨rfl, hr, hk3, hop⟩
      have HR5 := hide hr
      have HO5 := hide hop
      have HE5 := hide (hk3.blk HE.out (by have := HQ0.out; have := HOB.out; have := HBZ.out; omega))
      have HP5 := hide (hk3.blk HBP2.out (by have := HQ0.out; have := HOB.out; have := HBZ.out; have := HBP.out; omega))
      have HK5 := hide (HK.out.trans hk3 fun i e => by have := HQ0.out; have := HOB.out; have := HBZ.out; rcases e with rfl | rfl; exact .inl rfl; exact .inr (by omega))
      clear hr hop hk3 HPT
      go_wp2
      refine ⟨⟨k + 1, by omega, by go_num, ?_, ?_, HE5.out, HK5.out, fun _ => ⟨by trivial, HP5.out⟩⟩, by simp [intOf]; omega⟩
      · rw [HSC.out]
        exact HR5.out
      · rw [HSC.out, HSV.out]
        exact HO5.out
    · have hRR := HR.out
      have hOO := HO.out
      rw [List.take_of_length_le (by have := HNN.out; omega)] at hRR hOO
      rw [← HER.out] at hRR hOO
      rw [← HEV.out] at hOO
      obtain ⟨ki, nm, dl, x1, x2, x3, ky, la, wo, tk, y1, y2, y3, ru, lu, ti, hbo, hki, hov⟩ := hOO
      have HBO := hide hbo
      have HOV := hide hov
      have HRR := hide hRR
      have HIO : Hid ((Tryz.prog.info? 99).map (·.size) = some (#[.int .i64 ki, .string nm, .int .i64 dl, .slice x1 x2 x3, .string ky, .int .i64 la, .int .i64 wo, .int .i64 tk, .slice y1 y2 y3, .int .i64 ru, .int .u64 lu, .int .i64 ti] : Array Value).size) := sizeOn
      have HIR : Hid ((Tryz.prog.info? 32).map (·.size) = some (#[.int .i64 ki, .string nm, .int .i64 dl, .slice x1 x2 x3, .string ky, .int .i64 la, .int .i64 wo, .int .i64 tk, .slice y1 y2 y3, .int .i64 ru, .int .u64 lu, .int .i64 ti] : Array Value).size) := sizeOp
      have HOO := hide (onesOp ki nm dl x1 x2 x3 ky la wo tk y1 y2 y3 ru lu ti)
      clear hRR hbo hki hov HR HO
      go_wp2_with (first
        | (refine wpList_load_row rfl 99 _ rfl ob rfl 99 #[.int .i64 ki, .string nm, .int .i64 dl, .slice x1 x2 x3, .string ky, .int .i64 la, .int .i64 wo, .int .i64 tk, .slice y1 y2 y3, .int .i64 ru, .int .u64 lu, .int .i64 ti] (0, 0) _ HBO.out Tryz.underlying99 rfl HIO.out ?_)
        | (refine wpList_store_row rfl 32 _ _ rfl bz #[.int .i64 ki, .string nm, .int .i64 dl, .slice x1 x2 x3, .string ky, .int .i64 la, .int .i64 wo, .int .i64 tk, .slice y1 y2 y3, .int .i64 ru, .int .u64 lu, .int .i64 ti] rfl rfl 32 _ HE.out HIR.out rfl HOO.out ?_))
      have HX := hide (setRow_heap _ bz _ #[.int .i64 ki, .string nm, .int .i64 dl, .slice x1 x2 x3, .string ky, .int .i64 la, .int .i64 wo, .int .i64 tk, .slice y1 y2 y3, .int .i64 ru, .int .u64 lu, .int .i64 ti] _ _ HE.out)
      have HKK := hide (keep_row wr bz #[.int .i64 ki, .string nm, .int .i64 dl, .slice x1 x2 x3, .string ky, .int .i64 la, .int .i64 wo, .int .i64 tk, .slice y1 y2 y3, .int .i64 ru, .int .u64 lu, .int .i64 ti])
      exact bodyPost_ret (resOp rfl _ _ bz _ rfl rfl HX.out) rfl ⟨HK.out.trans HKK.out (fun i e => .inr (by have := HBZ.out; have e : i = _ := e; omega)), _, rfl, ⟨_, _, _, _, _, _, _, _, _, _, _, _, _, _, _, _, rfl⟩, HRR.out.stay HKK.out (fun j hj e => by have := HQ0.out; have := HBZ.out; have e : j = _ := e; omega), fun hz => ⟨_, _, _, _, _, _, _, _, _, _, _, _, _, _, _, _, rfl, (HOV.out hz).keep (T := 32) (by decide) (by decide) (by decide) HKK.out (fun k e => ⟨_, _, (e ▸ HE.out : wr.heap[k]? = _), .inr rfl⟩)⟩⟩
theorem ent_takeOp (args : Array Value) (w : World) : (callFunc 47 args).run Tryz.prog w = .ok (.enter 47 args) w :=
  callFunc_enter Tryz.func47 (by kernel_rfl) (by kernel_rfl) args w
theorem takesOp (wf : World) (bk bw : Nat) (hF : OF bf.2 wf bk bw) : TakesFG (Lo bf wf) wf 47 #[.pointer (some ⟨bk, 0, none⟩), .pointer (some ⟨bw, 0, none⟩)] opR (fun s => OvV (opVal s)) ShOp :=
  fun q s w1 ha hq h hz => takeOp wf w1 bk bw hF q s ha hq h hz
end Cd
end Go.Proofs.YtbjcckfhfbjchaaGreat

/- Codec: opFields as it is made. -/
namespace Go.Proofs.YtbjcckfhfbjchaaGreat
namespace Cd
open Go.RowKit Go.Deep

def oF (bk bw : Nat) : Array Value := #[.func (.func 45) #[] #[.pointer (some ⟨bk, 0, none⟩), .pointer (some ⟨bw, 0, none⟩)], .func (.func 47) #[] #[.pointer (some ⟨bk, 0, none⟩), .pointer (some ⟨bw, 0, none⟩)]]
theorem sizeFO : (Tryz.prog.info? 65).map (·.size) = some 2 := by kernel_rfl
theorem nil_blk18 {w : World} {g b : Nat} {t T : TypeId} (hg : w.heap[g]? = some (.cells #[.nilFunc, .nilFunc] t (0, 0))) (h : w.heap[b]? = some (.cells waysC T (0, 0))) : ¬ b = g := fun e => by
  subst e
  rw [hg] at h
  simp only [Option.some.injEq, Obj.cells.injEq] at h
  have := congrArg Array.size h.1
  simp [waysC] at this
theorem OF.off {F : Nat} {w w' : World} {bk bw g : Nat} {t : TypeId} (h : OF F w bk bw) (hg : w.heap[g]? = some (.cells #[.nilFunc, .nilFunc] t (0, 0))) (kk : Keep (fun k => k = g) w w') : OF F w' bk bw := by
  obtain ⟨⟨l, m, h1⟩, h2, h3⟩ := h
  exact ⟨⟨l, m, h1.off hg kk⟩, kk.blk h2 (nil_blk18 hg h2), h3⟩
set_option maxRecDepth 10000 in
set_option maxHeartbeats 4000000 in
theorem opFields_any (w : World) :
    Calls Tryz.prog 26 #[] w fun en w' => ∃ bk bw, en = .returned (.agg (oF bk bw)) ∧ OF w.heap.size w' bk bw ∧ Below w.heap.size w w' := by
  have hmf : ∀ (fn : Fn) (first cap : Array Value) (w : World), (Instr.makeFunc fn first cap).run Tryz.prog w = .ok (.func fn first cap) w := fun _ _ _ _ => rfl
  go_enter Tryz.func26, Tryz.ntmps26
  go_upto_region 1 with fail
  have hb0 : Below w.heap.size w (w.alloc (.cells #[.nilFunc, .nilFunc] 65)) := (Below.refl _ _).alloc (Nat.le_refl _) _
  have hx0 := heap_alloc_new w (.cells #[.nilFunc, .nilFunc] 65)
  generalize w.alloc (.cells #[.nilFunc, .nilFunc] 65) = w0 at *
  have hz0 := blk_lt hx0
  have HX0 := hide hx0
  have HB0 := hide hb0
  have HZ0 := hide hz0
  clear hx0 hb0 hz0
  go_wp2_with fail
  refine (Numbers_any 1 9 _).mono ?_
  rintro e w1 ⟨l, m, rfl, hl, hm, t1, t2, hb1⟩
  have HL1 := hide (And.intro (And.intro hl hm) (And.intro t1 t2))
  have HB1 := hide hb1
  clear hl hm t1 t2 hb1
  go_wp2_with fail
  refine (allWays_any _).mono ?_
  rintro e w2 ⟨rfl, hb2⟩
  have HB2 := hide hb2
  clear hb2
  obtain ⟨y1, y2, y3, y4, y5⟩ := st2 w2 90 96 #[.nilFunc, .nilFunc] nilsC (fI l m) waysC
  have Y1 := hide y1
  have Y2 := hide y2
  have Y3 := hide y3
  have Y4 := hide y4
  have Y5 := hide y5
  clear y1 y2 y3 y4 y5
  have hO1 : Hid ((fI l m).all (·.oneCell') = true) := oneF _ _ rfl rfl
  have hO2 := hide onesWy
  go_upto_region 2 with (first
    | (refine wpList_store_row rfl 96 _ _ rfl (w2.heap.size + 1) waysC rfl rfl 96 _ Y2.out sizeWy rfl hO2.out ?_)
    | (refine wpList_store_row rfl 90 _ _ rfl w2.heap.size (fI l m) rfl rfl 90 _ Y1.out sizeFI rfl hO1.out ?_))
  have kk1 := below_keep HB2.out (Nat.le_refl _)
  have kk2 := below_keep Y5.out (Nat.le_refl _)
  have hs1 := HB0.out.size
  have hs2 := HB1.out.size
  have hs3 := HB2.out.size
  have hQ : OF w.heap.size _ w2.heap.size (w2.heap.size + 1) := ⟨⟨l, m, ⟨Y3.out, kk2.cell (kk1.cell HL1.out.1.1 (fun f => f)) (fun f => f), kk2.cell (kk1.cell HL1.out.1.2 (fun f => f)) (fun f => f), by omega, Nat.le_trans hs1 HL1.out.2.1, Nat.le_trans hs1 HL1.out.2.2⟩⟩, Y4.out, by omega⟩
  have HQ := hide hQ
  have BB := hide ((HB0.out.trans (HB1.out.mono hs1)).trans ((HB2.out.mono (Nat.le_trans hs1 hs2)).trans (Y5.out.mono (by omega))))
  have HXg := hide (kk2.blk (kk1.blk (blkB HX0.out HB1.out) (fun f => f)) (fun f => f))
  clear kk1 kk2 hs1 hs2 hs3 hQ HL1 HB0 HB1 HB2 Y1 Y2 Y3 Y4 Y5 hO1 hO2 HX0
  change Code.wp _ _ _ _ ((((w2.alloc (.cells #[.nilFunc, .nilFunc] 90)).alloc (.cells nilsC 96)).setRow w2.heap.size (fI l m)).setRow (w2.heap.size + 1) waysC)
  generalize (((w2.alloc (.cells #[.nilFunc, .nilFunc] 90)).alloc (.cells nilsC 96)).setRow w2.heap.size (fI l m)).setRow (w2.heap.size + 1) waysC = w3 at *
  generalize w2.heap.size = bk at *
  go_wp2_with fail
  refine (MakeOp _ _ _ _ _).mono ?_
  rintro e w11 ⟨rfl, hb11⟩
  have HN11 := hide (HQ.out.keep (below_keep hb11 (Nat.le_refl _)))
  have BB11 := hide (BB.out.trans (hb11.mono BB.out.size))
  have hx := blkB HXg.out hb11
  have HX := hide hx
  have f0 := cell_blk hx 0 rfl
  have f1 := cell_blk hx 1 rfl
  have z0 := frozen_blk hx 0
  have z1 := frozen_blk hx 1
  clear hb11 hx HQ BB HXg
  go_wp2_with fail
  have hks := set2_keep w11 w.heap.size (.func (.func 45) #[] #[.pointer (some ⟨bk, 0, none⟩), .pointer (some ⟨bk + 1, 0, none⟩)]) (.func (.func 47) #[] #[.pointer (some ⟨bk, 0, none⟩), .pointer (some ⟨bk + 1, 0, none⟩)])
  refine bodyPost_ret (results_cell_row rfl _ _ w.heap.size 65 (oF bk (bk + 1)) (0, 0) _ rfl (set2_blk HX.out) Tryz.underlying65 rfl (by kernel_rfl)) rfl ?_
  exact ⟨bk, bk + 1, rfl, HN11.out.off HX.out hks, BB11.out.trans (hks.below (by have := BB11.out.size; omega) fun i e => by have e : i = _ := e; omega)⟩
end Cd
end Go.Proofs.YtbjcckfhfbjchaaGreat

/- Codec: slices.Index, slices.Contains at parts. -/
namespace Go.Proofs.YtbjcckfhfbjchaaGreat
namespace Cd
open Go.RowKit Go.Deep

/-- parts in memory -/
def PsM (w : World) (a : Option Addr) (ps : List Nat) : Prop := ps ≠ [] → ∃ bp, a = some ⟨bp, 0, none⟩ ∧ w.heap[bp]? = some (.cells (ps.map fun p => Value.int .i64 (p : Nat)).toArray 98 (0, 0))
theorem PsM.keep {w w' : World} {a : Option Addr} {ps : List Nat} (h : PsM w a ps) {S : Nat → Prop} (hk : Keep S w w') (hS : ∀ k, S k → ∀ cs, w.heap[k]? ≠ some (.cells cs 98 (0, 0))) : PsM w' a ps := fun hn => by
  obtain ⟨bp, e, hb⟩ := h hn
  exact ⟨bp, e, hk.blk hb fun hs => hS _ hs _ hb⟩
theorem psI_any (a : Option Addr) (ps : List Nat) (j : Nat) (w : World) (h : PsM w a ps) (hn : ps.length ≤ 2) :
    Calls Tryz.prog 132 #[.slice a ps.length ps.length, .int .i64 (j : Nat)] w fun en w' => ∃ i : Int, en = .returned (.int .i64 i) ∧ w' = w ∧ (0 ≤ i ↔ j ∈ ps) := by
  have HP := hide h
  obtain ⟨n, hnn⟩ : ∃ n, ps.length = n := ⟨_, rfl⟩
  have HNN := hide hnn
  rw [hnn] at hn ⊢
  clear h hnn
  go_enter Tryz.func132, Tryz.ntmps132
  go_wp2
  go_loopw [8] (fun i wx => ∃ k : Nat, k ≤ n ∧ i = .int .i64 (k : Nat) ∧ wx = w ∧ ∀ i, i < k → ps[i]? ≠ some j) (fun i _ => n - (intOf i).toNat)
  case atStart => exact ⟨0, Nat.zero_le _, rfl, rfl, fun i hi => by omega⟩
  case round =>
    obtain ⟨k, hk, rfl, rfl, hno⟩ := hrel
    have HNO := hide hno
    clear hno
    by_cases hlt : k < n
    · obtain ⟨x, hx⟩ : ∃ x, ps[k]? = some x := ⟨_, List.getElem?_eq_getElem (by have := HNN.out; omega)⟩
      obtain ⟨bp, rfl, hbp⟩ := HP.out (by intro e; rw [e] at hx; simp at hx)
      have ec := cell_blk hbp k (v := .int .i64 (x : Nat)) (by simp [hx])
      have HX := hide hx
      clear hx hbp
      by_cases hjx : j = x
      · have HJ := hide hjx
        have hb : (((j : Nat) : Int) == ((x : Nat) : Int)) = true := by simp [hjx]
        clear hjx
        go_wp2
        refine bodyPost_ret (results_tmp rfl _ _ _) rfl ?_
        exact ⟨_, rfl, rfl, ⟨fun _ => List.mem_of_getElem? (HJ.out ▸ HX.out), fun _ => by omega⟩⟩
      · have HJ := hide hjx
        have hb : (((j : Nat) : Int) == ((x : Nat) : Int)) = false := by rw [beq_eq_false_iff_ne]; omega
        clear hjx
        go_wp2
        refine ⟨⟨k + 1, by omega, by go_num, by trivial, fun i hi e => ?_⟩, by simp [intOf]; omega⟩
        by_cases hik : i < k
        · exact HNO.out i hik e
        · have hik : i = k := by omega
          subst hik
          rw [HX.out] at e
          exact HJ.out (Option.some.inj e).symm
    · go_wp2
      refine bodyPost_ret (results_tmp rfl _ _ _) rfl ?_
      refine ⟨-1, rfl, rfl, ⟨fun h => by omega, fun h => ?_⟩⟩
      obtain ⟨i, hi⟩ := List.mem_iff_getElem?.1 h
      have : i < ps.length := (List.getElem?_eq_some_iff.1 hi).1
      exact absurd hi (HNO.out i (by have := HNN.out; omega))
theorem psC_any (a : Option Addr) (ps : List Nat) (j : Nat) (w : World) (h : PsM w a ps) (hn : ps.length ≤ 2) :
    Calls Tryz.prog 64 #[.slice a ps.length ps.length, .int .i64 (j : Nat)] w fun en w' => en = .returned (.bool (decide (j ∈ ps))) ∧ w' = w := by
  have HI := hide (psI_any a ps j w h hn)
  clear h hn
  go_enter Tryz.func64, Tryz.ntmps64
  go_wp2_with fail
  refine HI.out.mono ?_
  rintro e w1 ⟨i, rfl, rfl, hi⟩
  by_cases hj : j ∈ ps
  · have h0 : (0 : Int) ≤ i := hi.2 hj
    have HD : Hid (decide (j ∈ ps) = true) := decide_eq_true hj
    clear hj hi
    go_wp2
    refine bodyPost_ret (results_tmp rfl _ _ _) rfl ?_
    rw [HD.out]
    exact ⟨rfl, rfl⟩
  · have h0 : i < (0 : Int) := by
      by_cases h : i < 0
      · exact h
      · exact absurd (hi.1 (by omega)) hj
    have h1 : decide ((0 : Int) ≤ i) = false := decide_eq_false (by omega)
    have HD : Hid (decide (j ∈ ps) = false) := decide_eq_false hj
    clear hj hi
    go_wp2
    refine bodyPost_ret (results_tmp rfl _ _ _) rfl ?_
    rw [HD.out]
    exact ⟨rfl, rfl⟩
end Cd
end Go.Proofs.YtbjcckfhfbjchaaGreat
