/- Codec: PlanBytes, ReadPlan. -/
import Derived.Test.YtbjcckfhfbjchaaGreatCEc
import Derived.Deep.RegionHeld3
namespace Go.Proofs.YtbjcckfhfbjchaaGreat
namespace Cd
open Go.RowKit Go.Deep

theorem stable_plan (s : K.RS) : StableT 30 (planV s) := by
  intro w1 w2 v S hv hk hS
  obtain ⟨a, n, c, e, hn⟩ := hv
  exact ⟨a, n, c, e, stable_Ns (T := 30) (by decide) (by decide) _ _ _ _ _ hn hk hS⟩
/-- what ReadPlan comes to -/
noncomputable def planE (l : List Nat) : Nat := endR (takeR (chkR may planR planVal) (newR l))
set_option maxRecDepth 10000 in
set_option maxHeartbeats 2000000 in
theorem ReadPlan_any (a : Option Addr) (n c : Nat) (l : List Nat) (w : World) (h : Rd w a n l) (h0 : a = none → c = 0) :
    Calls Tryz.prog 15 #[.slice a n c] w fun en w' => ∃ v, en = .returned (.tuple #[v, .int .i64 ((if planE l = 0 then 0 else 120 : Nat) : Nat)]) ∧ ShPn v ∧ (planE l = 0 → planV (newR l) w' v) ∧ (planE l ≠ 0 → v = .agg #[.string ⟨#[]⟩, .int .i64 0, .slice none 0 0]) ∧ Below w.heap.size w w' := by
  have hb0 : Below w.heap.size w (w.alloc (.cells #[.string ⟨#[]⟩, .int .i64 0, .slice none 0 0] 30)) := (Below.refl _ _).alloc (Nat.le_refl _) _
  have hx0 := heap_alloc_new w (.cells #[.string ⟨#[]⟩, .int .i64 0, .slice none 0 0] 30)
  have HE0 := hide hx0
  have HB0 := hide hb0
  have HR0 := hide (h.keep hb0)
  have H0 := hide h0
  have HIZ : Hid ((Tryz.prog.info? 30).map (·.size) = some (#[.string ⟨#[]⟩, .int .i64 0, .slice none 0 0] : Array Value).size) := sizePn
  have HOZ : Hid ((#[.string ⟨#[]⟩, .int .i64 0, .slice none 0 0] : Array Value).all (·.oneCell') = true) := by show _ = _; simp [Value.oneCell']
  obtain ⟨r, hr⟩ : ∃ r, planE l = r := ⟨_, rfl⟩
  rw [hr]
  have HRR : Hid (endR (takeR (chkR may planR planVal) (newR l)) = r) := hr
  clear h h0 hb0 hx0 hr
  go_enter Tryz.func15, Tryz.ntmps15
  go_upto_region 1 with fail
  generalize w.alloc (.cells #[.string ⟨#[]⟩, .int .i64 0, .slice none 0 0] 30) = w0 at *
  go_wp2_with fail
  refine (Plans_any _).mono ?_
  rintro e w1 ⟨b, rfl, hq, hb1⟩
  have HE1 := hide (blkB HE0.out hb1)
  have HB1 := hide (HB0.out.trans (hb1.mono HB0.out.size))
  have RP := hide (ReadPn 71 73 #[.pointer (some ⟨b, 0, none⟩)] #[.pointer (some ⟨b, 0, none⟩)] a n c l (chkR may planR planVal) planV stable_plan _ rfl r HRR.out w1 (HR0.out.keep hb1) H0.out (takesPlans (bf := (0, 0)) w1 b (hq.mono (Nat.zero_le _))) ent_takePlans)
  clear hb1 hq HE0 HR0
  go_upto_region 2 with (first
    | (refine wpList_store_row rfl 30 _ _ rfl w2.heap.size #[.string nm, .int .i64 dl, .slice x1 x2 x3] rfl rfl 30 _ HA2.out HI.out rfl HO1.out ?_)
    | (go_at_call 35; refine RP.out.mono ?_; rintro e w2 ⟨v, rfl, ⟨nm, dl, x1, x2, x3, rfl⟩, hv, hn, hb2⟩; have HE2 := hide (blkB HE1.out hb2); have HB2 := hide (HB1.out.trans (hb2.mono HB1.out.size)); have HV2 := hide hv; have HN2 := hide hn; have HI : Hid ((Tryz.prog.info? 30).map (·.size) = some (#[.string nm, .int .i64 dl, .slice x1 x2 x3] : Array Value).size) := sizePn; have HO1 := hide (onesPn nm dl x1 x2 x3); have HA2 := hide (heap_alloc_new w2 (.cells #[.string ⟨#[]⟩, .int .i64 0, .slice none 0 0] 30)); clear hv hn hb2 RP HE1))
  have hx3 := setRow_heap (w2.alloc (.cells #[.string ⟨#[]⟩, .int .i64 0, .slice none 0 0] 30)) w2.heap.size _ #[.string nm, .int .i64 dl, .slice x1 x2 x3] _ _ HA2.out
  have hb3 : Below w2.heap.size w2 ((w2.alloc (.cells #[.string ⟨#[]⟩, .int .i64 0, .slice none 0 0] 30)).setRow w2.heap.size #[.string nm, .int .i64 dl, .slice x1 x2 x3]) := ((Below.refl _ _).alloc (Nat.le_refl _) _).trans ((keep_row _ _ _).below (by simp) fun k e => by rw [e]; exact Nat.le_refl _)
  have HX3 := hide hx3
  have HB3 := hide (HB2.out.trans (hb3.mono HB2.out.size))
  have HE3 := hide (blkB HE2.out hb3)
  have HV3 : Hid (r = 0 → planV (newR l) ((w2.alloc (.cells #[.string ⟨#[]⟩, .int .i64 0, .slice none 0 0] 30)).setRow w2.heap.size #[.string nm, .int .i64 dl, .slice x1 x2 x3]) (.agg #[.string nm, .int .i64 dl, .slice x1 x2 x3])) := fun hz => (stable_plan _).stable _ _ _ (HV2.out hz) hb3
  clear hx3 hb3 HB2 HE2 HV2 HA2
  change Code.wp _ _ _ _ ((w2.alloc (.cells #[.string ⟨#[]⟩, .int .i64 0, .slice none 0 0] 30)).setRow w2.heap.size #[.string nm, .int .i64 dl, .slice x1 x2 x3])
  generalize (w2.alloc (.cells #[.string ⟨#[]⟩, .int .i64 0, .slice none 0 0] 30)).setRow w2.heap.size #[.string nm, .int .i64 dl, .slice x1 x2 x3] = w3 at *
  generalize w2.heap.size = xb at *
  by_cases hz : r = 0
  · subst hz
    go_wp2_with (first
      | (refine wpList_load_row rfl 30 _ rfl xb rfl 30 #[.string nm, .int .i64 dl, .slice x1 x2 x3] (0, 0) _ HX3.out Tryz.underlying30 rfl HI.out ?_)
      | (refine wpList_store_row rfl 30 _ _ rfl w.heap.size #[.string nm, .int .i64 dl, .slice x1 x2 x3] rfl rfl 30 _ HE3.out HI.out rfl HO1.out ?_))
    have HX := hide (setRow_heap _ w.heap.size _ #[.string nm, .int .i64 dl, .slice x1 x2 x3] _ _ HE3.out)
    have HK := hide (keep_row w3 w.heap.size #[.string nm, .int .i64 dl, .slice x1 x2 x3])
    exact bodyPost_ret (restPn rfl _ _ w.heap.size _ rfl rfl HX.out) rfl ⟨_, rfl, ⟨_, _, _, _, _, rfl⟩, StableT.row (stable_plan _) (HV3.out (by trivial)) HE3.out _, HB3.out.trans (HK.out.below (by have := HB3.out.size; omega) fun i e => by have e : i = _ := e; omega)⟩
  · have hzz : ((r : Int) == 0) = false := by simpa using hz
    have HZ := hide hz
    have HN3 := hide (HN2.out hz)
    clear hz
    go_wp2_with (refine wpList_store_row rfl 30 _ _ rfl w.heap.size #[.string ⟨#[]⟩, .int .i64 0, .slice none 0 0] rfl rfl 30 _ HE3.out HIZ.out rfl HOZ.out ?_)
    have HX := hide (setRow_heap _ w.heap.size _ #[.string ⟨#[]⟩, .int .i64 0, .slice none 0 0] _ _ HE3.out)
    have HK := hide (keep_row w3 w.heap.size #[.string ⟨#[]⟩, .int .i64 0, .slice none 0 0])
    exact bodyPost_ret (restPn rfl _ _ w.heap.size _ rfl rfl HX.out) rfl ⟨_, rfl, ⟨_, _, _, _, _, rfl⟩, rfl, HB3.out.trans (HK.out.below (by have := HB3.out.size; omega) fun i e => by have e : i = _ := e; omega)⟩
theorem fine_nil : Fine [] := ⟨(fun d hd => by cases hd), by simp⟩
/-- what PlanBytes comes to -/
noncomputable def planS (nm : ByteArray) (dl : Int) (xs : List Gr.No) : K.WS := planW (pv nm dl xs) ⟨[], room 8192, 0⟩
noncomputable def planB (nm : ByteArray) (dl : Int) (xs : List Gr.No) : List Nat := if (Gr.chk nm dl xs).2 = 0 then told (planS nm dl xs) else []
noncomputable def planC (nm : ByteArray) (dl : Int) (xs : List Gr.No) : Nat := if (Gr.chk nm dl xs).2 = 0 then (planS nm dl xs).fault else (Gr.chk nm dl xs).2
set_option maxRecDepth 10000 in
set_option maxHeartbeats 2000000 in
theorem PlanBytes_any (nm : ByteArray) (dl : Int) (x1 : Option Addr) (x2 x3 : Nat) (xs : List Gr.No) (w : World) (h1 : Gr.RdP w.heap.size w (x1, x2, x3) xs) (hs : Gr.Sz nm xs) (hok : (Gr.chk nm dl xs).2 = 0 → POk nm dl xs) :
    Calls Tryz.prog 12 #[.agg #[.string nm, .int .i64 dl, .slice x1 x2 x3]] w fun en w' => ∃ v, en = .returned (.tuple #[v, .int .i64 (planC nm dl xs : Nat)]) ∧ w'.ownsRow w.heap.size 5 1 v (planB nm dl xs).length (B8 (planB nm dl xs)) ∧ Below w.heap.size w w' ∧ Fine (planB nm dl xs) := by
  have kA := Keep.alloc (fun _ => False) w (.cells #[.string nm, .int .i64 dl, .slice x1 x2 x3] 30)
  have hb := heap_alloc_new w (.cells #[.string nm, .int .i64 dl, .slice x1 x2 x3] 30)
  have hbw : Below w.heap.size w (w.alloc (.cells #[.string nm, .int .i64 dl, .slice x1 x2 x3] 30)) := (Below.refl _ _).alloc (Nat.le_refl _) _
  have hrd := (h1.keep kA (fun _ f => f.elim)).mono kA.size
  have CK := hide (Gr.check_any nm dl (x1, x2, x3) xs _ (w.alloc (.cells #[.string nm, .int .i64 dl, .slice x1 x2 x3] 30)) hrd (Nat.le_refl _) hs)
  have HRD := hide hrd
  have HX0 := hide hb
  have HB0 := hide hbw
  have HOK := hide hok
  have HPB : Hid (planB nm dl xs = if (Gr.chk nm dl xs).2 = 0 then told (planS nm dl xs) else []) := rfl
  have HPC : Hid (planC nm dl xs = if (Gr.chk nm dl xs).2 = 0 then (planS nm dl xs).fault else (Gr.chk nm dl xs).2) := rfl
  have HPS : Hid (planW (pv nm dl xs) ⟨[], room 8192, 0⟩ = planS nm dl xs) := rfl
  generalize planB nm dl xs = PB at *
  generalize planC nm dl xs = PC at *
  generalize planS nm dl xs = s2 at *
  have d0 := cell_blk hb 0 (v := .string nm) rfl
  have d1 := cell_blk hb 1 (v := .int .i64 dl) rfl
  have d2 := cell_blk hb 2 (v := .slice x1 x2 x3) rfl
  obtain ⟨k, hk⟩ : ∃ k, (Gr.chk nm dl xs).2 = k := ⟨_, rfl⟩
  have CK2 := CK.out
  rw [hk] at CK2 HPB HPC HOK
  have CKh := hide CK2
  clear h1 hs hok kA hb hbw hrd CK CK2 hk
  go_enter Tryz.func12, Tryz.ntmps12
  go_upto_region 1 with fail
  generalize w.alloc (.cells #[.string nm, .int .i64 dl, .slice x1 x2 x3] 30) = w0 at *
  go_upto_region 2 with (go_at_call 27; refine CKh.out.mono ?_; rintro e w1 ⟨rfl, k1⟩; have HX1 := hide (k1.blk HX0.out (fun f => f)); have HB1 := hide (HB0.out.trans (k1.below HB0.out.size (fun _ f => f.elim))); have HRD1 := hide ((HRD.out.keep k1 (fun _ f => f.elim)).mono k1.size); clear k1 d0 d1 d2 CKh HX0 HRD HB0)
  by_cases hz : k = 0
  · subst hz
    have HE1 : Hid (told s2 = PB) := by show _ = _; rw [HPB.out, if_pos rfl]
    have HE2 : Hid (s2.fault = PC) := by show _ = _; rw [HPC.out, if_pos rfl]
    go_upto_region 4 with fail
    have d0 := cell_blk HX1.out 0 (v := .string nm) rfl
    have d1 := cell_blk HX1.out 1 (v := .int .i64 dl) rfl
    have d2 := cell_blk HX1.out 2 (v := .slice x1 x2 x3) rfl
    have HPF := hide (planFields_any w1.drew)
    have HXd : Hid (w1.drew.heap[w.heap.size]? = some (.cells #[.string nm, .int .i64 dl, .slice x1 x2 x3] 30 (0, 0))) := HX1.out
    have HRDd := hide ((HRD1.out.keep (Keep.drew (fun _ => False) w1) (fun _ f => f.elim)).mono (Nat.le_refl _))
    have HBd := hide (HB1.out.trans (((Below.refl w1.heap.size w1).drew).mono HB1.out.size))
    have HBY : Hid (∀ W b1 b2 b3, Below w1.drew.heap.size w1.drew W → PF 0 W b1 b2 b3 → Calls Tryz.prog 28 #[.agg (pF b1 b2 b3), .agg #[.string nm, .int .i64 dl, .slice x1 x2 x3], .int .i64 8192] W fun en w' => ∃ v, en = .returned (.tuple #[v, .int .i64 (s2.fault : Nat)]) ∧ w'.ownsRow W.heap.size 5 1 v (told s2).length (B8 (told s2)) ∧ Below W.heap.size W w' ∧ Fine (told s2)) := fun W b1 b2 b3 hb hp =>
      BytesPn 57 60 (capP b1 b2 b3) (capP b1 b2 b3) nm dl x1 x2 x3 (planW (pv nm dl xs)) 8192 s2 HPS.out W (putsPlan (bf := (W.heap.size, 0)) W b1 b2 b3 hp nm dl x1 x2 x3 xs (Nat.le_refl _) ((HRDd.out.keep (below_keep hb (Nat.le_refl _)) (fun _ f => f.elim)).mono hb.size) (HOK.out rfl)) ent_putPlan
    go_region_held3 (fun wx => wx.cell? ⟨w.heap.size, 0, none⟩ = some (.string nm) ∧ wx.cell? ⟨w.heap.size, 1, none⟩ = some (.int .i64 dl) ∧ wx.cell? ⟨w.heap.size, 2, none⟩ = some (.slice x1 x2 x3)) (first | (exact ⟨d0, d1, d2⟩) | (exact HS2.out) | (exact HS3.out) | go_keep) (first
      | (go_at_call 28; refine BY.out.mono ?_; rintro e w3 ⟨v, rfl, ho, hb3, hfn⟩; have HS3 : Hid (w3.cell? ⟨w.heap.size, 0, none⟩ = some (.string nm) ∧ w3.cell? ⟨w.heap.size, 1, none⟩ = some (.int .i64 dl) ∧ w3.cell? ⟨w.heap.size, 2, none⟩ = some (.slice x1 x2 x3)) := ⟨cell_blk (blkB HX2.out hb3) 0 rfl, cell_blk (blkB HX2.out hb3) 1 rfl, cell_blk (blkB HX2.out hb3) 2 rfl⟩; have HO := hide (ownsRow_base ho HB2.out.size); have HB3 := hide (HB2.out.trans (hb3.mono HB2.out.size)); have HFN := hide hfn; clear ho hb3 hfn BY)
      | (go_at_call 29; refine HPF.out.mono ?_; rintro e w2 ⟨b1, b2, b3, rfl, hp, hb2⟩; have HX2 := hide (blkB HXd.out hb2); have HS2 : Hid (w2.cell? ⟨w.heap.size, 0, none⟩ = some (.string nm) ∧ w2.cell? ⟨w.heap.size, 1, none⟩ = some (.int .i64 dl) ∧ w2.cell? ⟨w.heap.size, 2, none⟩ = some (.slice x1 x2 x3)) := ⟨cell_blk HX2.out 0 rfl, cell_blk HX2.out 1 rfl, cell_blk HX2.out 2 rfl⟩; have HB2 := hide (HBd.out.trans (hb2.mono HBd.out.size)); have BY := hide (HBY.out w2 b1 b2 b3 hb2 (hp.mono (Nat.zero_le _))); clear hp hb2))
    all_goals go_wp2
    all_goals go_ret2
    all_goals (rw [← HE1.out, ← HE2.out]; exact ⟨_, rfl, HO.out, HB3.out, HFN.out⟩)
  · have hzz : ((k : Int) == 0) = false := by simpa using hz
    have HE1 : Hid (([] : List Nat) = PB) := by show _ = _; rw [HPB.out, if_neg hz]
    have HE2 : Hid (k = PC) := by show _ = _; rw [HPC.out, if_neg hz]
    clear hz
    go_wp2
    go_ret2
    rw [← HE1.out, ← HE2.out]
    exact ⟨_, rfl, World.ownsRow_nil _ _ _ _, HB1.out, fine_nil⟩
end Cd
end Go.Proofs.YtbjcckfhfbjchaaGreat
