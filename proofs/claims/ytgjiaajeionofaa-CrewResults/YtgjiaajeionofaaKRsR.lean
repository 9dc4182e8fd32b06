/- The document's Results. -/
import Derived.Test.YtgjiaajeionofaaKRsW
import Derived.Test.YtgjiaajeionofaaRLst
import Derived.Laws.Tables
namespace Go.Proofs.Ytgjiaajeionofaa
namespace Cw
open Go.RowKit Gr Go.Deep
open Ow (typ_ne own_form)
theorem keep_row (w : World) (g : Nat) (cs : Array Value) : Keep (fun k => k = g) w (w.setRow g cs) := ⟨rfl, rfl, rfl, by simp [World.setRow], fun i _ hi => setRow_other w g i _ hi⟩
theorem alloc_setB {w : World} (o : Array Value) (T : TypeId) (cs : Array Value) : ((w.alloc (.cells o T)).setRow w.heap.size cs).heap[w.heap.size]? = some (.cells cs T (0, 0)) ∧ Below w.heap.size w ((w.alloc (.cells o T)).setRow w.heap.size cs) :=
  ⟨setRow_heap _ _ _ _ _ _ (heap_alloc_new w (.cells o T)), ((Below.refl _ _).alloc (Nat.le_refl _) _).trans ((keep_row _ _ _).below (by simp) fun k e => by rw [e]; exact Nat.le_refl _)⟩
theorem info_node10 : (Try.prog.info? 39).map (·.size) = some 10 := by kernel_rfl
set_option maxRecDepth 100000 in
set_option maxHeartbeats 4000000 in
theorem refResults_any (nm : ByteArray) (dl : Int) (s : Option Addr × Nat × Nat) (xs : List No) (w : World) (hP : RdP w.heap.size w s xs) (hs : Sz nm xs) (hnm : ∀ x ∈ xs, x.q.nm.size ≤ 140737488351232) :
    Calls Try.prog 9 #[.agg #[.string nm, .int .i64 dl, .slice s.1 s.2.1 s.2.2]] w fun e w' => RsE nm dl xs w.heap.size e w' ∧ Keep (fun _ => False) w w' := by
  obtain ⟨a, n, c⟩ := s
  have HN : Hid (n = xs.length) := hP.1
  obtain ⟨w0, hw0⟩ : ∃ w0, w0 = w.alloc (.cells #[.string nm, .int .i64 dl, .slice a n c] 24) := ⟨_, rfl⟩
  have KW : Hid (Keep (fun _ => False) w w0) := hide (by rw [hw0]; exact Keep.alloc _ _ _)
  have HP := hide (hP.new KW.out)
  have CK := hide (refOrder_any nm dl (a, n, c) xs w.heap.size w0 HP.out KW.out.size hs)
  have C2 : Hid (w0.cell? ⟨w.heap.size, 2, none⟩ = some (.slice a n c)) := hide (by rw [hw0, World.cell?_alloc_mark]; rfl)
  have HW := hide hw0
  have HNm := hide hnm
  rw [hw0] at CK
  clear hP hs hw0 hnm
  go_enter Try.func9, Try.ntmps9
  go_wp2_with fail
  go_at_call 15
  refine CK.out.mono ?_
  rw [← HW.out]
  rintro e w2 ⟨l, v4, rfl, ho2, hno, hyes, k2⟩
  have HIO : Hid (IsO nm dl xs l) := ⟨hno, hyes⟩
  have HO2 := hide ho2
  have K2 := hide k2
  obtain ⟨aO, cO, hv4⟩ := ownsRow_shape ho2
  subst hv4
  clear ho2 hno hyes k2 CK HW
  by_cases h0 : (chk nm dl xs).2 = 0
  · have hz : ((((chk nm dl xs).2 : Nat) : Int) != 0) = false := by rw [h0]; rfl
    have HRe : Hid (∀ v vs w', Re w.heap.size w' v vs (outM xs l) → RsE nm dl xs w.heap.size (.returned (.tuple #[v, .int .i64 0])) w') := fun v vs w' hr => ⟨v, vs, _, by rw [h0]; rfl, ⟨l, HIO.out, fun _ => rfl, fun h => absurd h0 h⟩, hr⟩
    obtain ⟨h1, _, _, hv, _⟩ := chk_ok h0
    have HVal := hide hv.2
    have hn64 : n ≤ 64 := by have := hv.1; have := HN.out; omega
    have HEd := hide (cW_edges h1)
    have HOrd := hide ((HIO.out.2 h0).2)
    have Hll : Hid (l.length = n) := by show _ = _; rw [(HIO.out.2 h0).1]; exact HN.out.symm
    have c2 := K2.out.cell C2.out fun f => f
    obtain ⟨w3, hmk, ho3, hb3⟩ := made_res w2 n (by omega)
    have K3 : Hid (Keep (fun _ => False) w2 w3) := Keep.ofBelow hb3 (Nat.le_refl _)
    have HR3 : Hid (Re w2.heap.size w3 (.slice (some ⟨w2.heap.size, 0, none⟩) n n) (List.replicate n (.slice none 0 0)) (outM xs (l.take 0))) := by
      have := Re.start w2.heap.size n ho3
      rw [HN.out] at this ⊢
      exact this
    have hlb : l.length ≤ 64 := by have := Hll.out; omega
    clear ho3 hb3 h0 h1 hv HIO
    go_wp2_with fail
    go_loopw [7, 8, 9, 10] (fun i _ _ _ wr => ∃ k : Nat, i = .int .i64 (k : Nat) ∧ k ≤ l.length ∧ Hid (∃ vs, Re w2.heap.size wr (.slice (some ⟨w2.heap.size, 0, none⟩) n n) vs (outM xs (l.take k)) ∧ Keep (fun j => w2.heap.size ≤ j) w2 wr)) (fun i _ _ _ _ => l.length - (intOf i).toNat)
    case atStart => exact ⟨0, rfl, Nat.zero_le _, _, HR3.out, K3.out.mono fun _ f => f.elim⟩
    case round =>
      clear HR3
      obtain ⟨k, rfl, hk, HD⟩ := hrel
      by_cases hlt : k < l.length
      · have hlt' : (k : Int) < (l.length : Int) := by omega
        obtain ⟨vs, hr, hkp⟩ := HD.out
        obtain ⟨i, hi⟩ : ∃ i, l[k]? = some i := ⟨_, List.getElem?_eq_getElem hlt⟩
        have hin : i < n := by have := (HOrd.out.2 k i hi).1; have := HN.out; omega
        have hin' : (i : Int) < (n : Int) := by omega
        obtain ⟨gO, cO', eO⟩ := own_form HO2.out (by omega)
        injection eO with eO1 _ eO3
        subst eO1
        have co : wr.cell? ⟨gO, k, none⟩ = some (.int .i64 (i : Int)) := hkp.cell (by rw [HO2.out.cellAt k (by omega)]; unfold iv; rw [List.getElem?_map, hi]; rfl) fun h => by have := (HO2.out.lt gO rfl).2; simp only at h; omega
        have c2r : wr.cell? ⟨w.heap.size, 2, none⟩ = some (.slice a n c) := hkp.cell c2 fun h => by have := block_lt_of_cell c2; simp only at h this; omega
        have hPr : RdP w.heap.size wr (a, n, c) xs := ((HP.out.new K2.out).keep hkp fun j h => by have h1 := K2.out.size; have h2 := KW.out.size; omega)
        obtain ⟨gN, oN, x, ea, hgN, hx, hNo, hNe, _⟩ := hPr.at (i := i) hin
        dsimp only at ea
        subst ea
        have hxm := List.mem_of_getElem? hx
        have HNo := hide hNo
        have HXe : Hid (∀ e ∈ x.nl, 0 ≤ e ∧ e < n) := fun e he => by have := HVal.out x hxm e (List.mem_append_left _ he); have := HN.out; omega
        have hxl : x.nl.length ≤ 256 := Nat.le_trans (nl_le hxm) HEd.out
        have hxs := HNm.out x hxm
        have HWk : Hid (outM xs (l.take (k + 1)) = (outM xs (l.take k)).set i (wk (outM xs (l.take k)) x)) := by rw [outM_succ hi, stp_at hx]; rfl
        have hol : (outM xs (l.take k)).length = n := by rw [outM_len]; exact HN.out.symm
        obtain ⟨n0, n1, n2, n3, n4, n5, n6, n7, n8, n9⟩ := HNo.out.all
        obtain ⟨⟨xn, x1, x2, x3, x4, x5, x6, x7, ⟨ne1, ne2, ne3⟩, ⟨xa1, xa2, xa3⟩⟩, nl, al⟩ := x
        dsimp only at n0 n1 n2 n3 n4 n5 n6 n7 n8 n9 hNe HXe hxl hxs
        have HNE := hide hNe
        have hne2 : ne2 = nl.length := hNe.1
        have HR := hide hr
        have HKp := hide hkp
        have HOl := hide hol
        generalize outM xs (l.take k) = Ls at *
        clear hr hkp HD hi hNo hPr hx hxm hNe hol eO3
        subst hne2
        have HS8 : Hid (∀ W, Keep (fun _ => False) wr W → (fun W' : World => W'.cell? ⟨w.heap.size, 2, none⟩ = some (.slice (some ⟨gN, oN, none⟩) n c) ∧ W'.cell? ⟨gO, k, none⟩ = some (.int .i64 (i : Int)) ∧ W'.cell? ⟨gN, oN + i * 10, none⟩ = some (.string xn) ∧ W'.cell? ⟨gN, oN + i * 10 + 1, none⟩ = some (.int .i64 x1) ∧ W'.cell? ⟨gN, oN + i * 10 + 2, none⟩ = some (.int .i64 x2) ∧ W'.cell? ⟨gN, oN + i * 10 + 3, none⟩ = some (.int .i64 x3) ∧ W'.cell? ⟨gN, oN + i * 10 + 4, none⟩ = some (.int .i64 x4) ∧ W'.cell? ⟨gN, oN + i * 10 + 5, none⟩ = some (.int .i64 x5) ∧ W'.cell? ⟨gN, oN + i * 10 + 6, none⟩ = some (.int .i64 x6) ∧ W'.cell? ⟨gN, oN + i * 10 + 7, none⟩ = some (.int .i64 x7) ∧ W'.cell? ⟨gN, oN + i * 10 + 8, none⟩ = some (.slice ne1 nl.length ne3) ∧ W'.cell? ⟨gN, oN + i * 10 + 9, none⟩ = some (.slice xa1 xa2 xa3)) W) := fun W k => ⟨k.cell c2r fun f => f, k.cell co fun f => f, k.cell n0 fun f => f, k.cell n1 fun f => f, k.cell n2 fun f => f, k.cell n3 fun f => f, k.cell n4 fun f => f, k.cell n5 fun f => f, k.cell n6 fun f => f, k.cell n7 fun f => f, k.cell n8 fun f => f, k.cell n9 fun f => f⟩
        obtain ⟨hx5, hb5⟩ := alloc_setB (w := wr.drew) #[.string ⟨#[]⟩, .int .i64 0, .int .i64 0, .int .i64 0, .int .i64 0, .int .i64 0, .int .i64 0, .int .i64 0, .slice none 0 0, .slice none 0 0] 39 #[.string xn, .int .i64 x1, .int .i64 x2, .int .i64 x3, .int .i64 x4, .int .i64 x5, .int .i64 x6, .int .i64 x7, .slice ne1 nl.length ne3, .slice xa1 xa2 xa3]
        have HX5 := hide hx5
        have K5 : Hid (Keep (fun _ => False) wr ((wr.drew.alloc (.cells #[.string ⟨#[]⟩, .int .i64 0, .int .i64 0, .int .i64 0, .int .i64 0, .int .i64 0, .int .i64 0, .int .i64 0, .slice none 0 0, .slice none 0 0] 39)).setRow wr.drew.heap.size #[.string xn, .int .i64 x1, .int .i64 x2, .int .i64 x3, .int .i64 x4, .int .i64 x5, .int .i64 x6, .int .i64 x7, .slice ne1 nl.length ne3, .slice xa1 xa2 xa3])) := (Keep.drew _ _).more (Keep.ofBelow hb5 (Nat.le_refl _))
        have HK8a : Hid (Keep (fun _ => False) wr (wr.drew.alloc (.cells #[.string ⟨#[]⟩, .int .i64 0, .int .i64 0, .int .i64 0, .int .i64 0, .int .i64 0, .int .i64 0, .int .i64 0, .slice none 0 0, .slice none 0 0] 39))) := (Keep.drew _ _).more (Keep.alloc _ _ _)
        clear hx5 hb5
        go_upto_region 8 with fail
        refine RL.wp_region_held_last (S := fun W' : World => W'.cell? ⟨w.heap.size, 2, none⟩ = some (.slice (some ⟨gN, oN, none⟩) n c) ∧ W'.cell? ⟨gO, k, none⟩ = some (.int .i64 (i : Int)) ∧ W'.cell? ⟨gN, oN + i * 10, none⟩ = some (.string xn) ∧ W'.cell? ⟨gN, oN + i * 10 + 1, none⟩ = some (.int .i64 x1) ∧ W'.cell? ⟨gN, oN + i * 10 + 2, none⟩ = some (.int .i64 x2) ∧ W'.cell? ⟨gN, oN + i * 10 + 3, none⟩ = some (.int .i64 x3) ∧ W'.cell? ⟨gN, oN + i * 10 + 4, none⟩ = some (.int .i64 x4) ∧ W'.cell? ⟨gN, oN + i * 10 + 5, none⟩ = some (.int .i64 x5) ∧ W'.cell? ⟨gN, oN + i * 10 + 6, none⟩ = some (.int .i64 x6) ∧ W'.cell? ⟨gN, oN + i * 10 + 7, none⟩ = some (.int .i64 x7) ∧ W'.cell? ⟨gN, oN + i * 10 + 8, none⟩ = some (.slice ne1 nl.length ne3) ∧ W'.cell? ⟨gN, oN + i * 10 + 9, none⟩ = some (.slice xa1 xa2 xa3)) rfl (by kernel_rfl) (by kernel_rfl) (HS8.out _ (Keep.drew _ _)) (fun hHeld => ?_)
        change wpAnyH _ _ _ _ _ 10 (Array.replicate 10 false) _ _
        simp only [List.dropLast, List.getLast, List.cons_append, List.nil_append, RL.still]
        refine wpAnyH_take (i := 0) (oi := _) (v := ?_) rfl (by kernel_rfl) (by kernel_rfl) (by kernel_rfl) (fun _ _ _ h => h) (Or.inl ⟨by rfl, ?_⟩) (by assumption) ?_
        rotate_left
        · (intro w hSw; (try dsimp only at hSw); go_simp)
          all_goals with_reducible rfl
        go_simp
        refine wpAnyH_take (i := 1) (oi := _) (v := ?_) rfl (by kernel_rfl) (by kernel_rfl) (by kernel_rfl) (fun _ _ _ h => h) (Or.inl ⟨by rfl, ?_⟩) (by assumption) ?_
        rotate_left
        · (intro w hSw; (try dsimp only at hSw); go_simp)
          all_goals with_reducible rfl
        go_simp
        refine wpAnyH_take (i := 2) (oi := _) (v := ?_) rfl (by kernel_rfl) (by kernel_rfl) (by kernel_rfl) (fun _ _ _ h => h) (Or.inl ⟨by rfl, ?_⟩) (by assumption) ?_
        rotate_left
        · (intro w hSw; (try dsimp only at hSw); go_simp)
          all_goals with_reducible rfl
        go_simp
        refine wpAnyH_take (i := 3) (oi := _) (v := ?_) rfl (by kernel_rfl) (by kernel_rfl) (by kernel_rfl) (fun _ _ _ h => h) (Or.inl ⟨by rfl, ?_⟩) (by assumption) ?_
        rotate_left
        · (intro w hSw; (try dsimp only at hSw); go_simp)
          all_goals with_reducible rfl
        go_simp
        refine wpAnyH_take (i := 4) (oi := _) (v := ?_) rfl (by kernel_rfl) (by kernel_rfl) (by kernel_rfl) (fun _ _ _ h => h) (Or.inl ⟨by rfl, ?_⟩) (by assumption) ?_
        rotate_left
        · (intro w hSw; (try dsimp only at hSw); go_simp)
          all_goals with_reducible rfl
        go_simp
        refine wpAnyH_take (i := 5) (oi := _) (v := ?_) rfl (by kernel_rfl) (by kernel_rfl) (by kernel_rfl) (fun _ _ _ h => h) (Or.inl ⟨by rfl, ?_⟩) (by assumption) ?_
        rotate_left
        · (intro w hSw; (try dsimp only at hSw); go_simp)
          all_goals with_reducible rfl
        go_simp
        refine wpAnyH_take (i := 6) (oi := _) (v := ?_) rfl (by kernel_rfl) (by kernel_rfl) (by kernel_rfl) (fun _ _ _ h => h) (Or.inl ⟨by rfl, ?_⟩) (by assumption) ?_
        rotate_left
        · (intro w hSw; (try dsimp only at hSw); go_simp)
          all_goals with_reducible rfl
        go_simp
        refine wpAnyH_take (i := 7) (oi := _) (v := ?_) rfl (by kernel_rfl) (by kernel_rfl) (by kernel_rfl) (fun _ _ _ h => h) (Or.inl ⟨by rfl, ?_⟩) (by assumption) ?_
        rotate_left
        · (intro w hSw; (try dsimp only at hSw); go_simp)
          all_goals with_reducible rfl
        go_simp
        refine wpAnyH_ready (rs := [8]) (by kernel_rfl) (by simp) ?_
        refine AllReadyH.cons (o := _) rfl (fun K hK => ?_) AllReadyH.nil
        rw [if_pos (by rfl)]
        unfold Oper.wp
        go_simp
        refine hK.out _ _ (HS8.out _ HK8a.out) (fun hHeld => ?_)
        clear hK K
        try simp only [Act.put, List.setIfInBounds_toArray, List.set_cons_zero, List.set_cons_succ]
        refine wpAnyH_take (i := 9) (oi := _) (v := ?_) rfl (by kernel_rfl) (by kernel_rfl) (by kernel_rfl) (fun _ _ _ h => h) (Or.inl ⟨by rfl, ?_⟩) (by assumption) ?_
        rotate_left
        · (intro w hSw; (try dsimp only at hSw); go_simp)
          all_goals with_reducible rfl
        go_simp
        refine wpAnyH_done (by kernel_rfl) ?_ _
        simp only [RL.endQ]
        refine wp_store_row 39 _ _ rfl wr.heap.size #[.string xn, .int .i64 x1, .int .i64 x2, .int .i64 x3, .int .i64 x4, .int .i64 x5, .int .i64 x6, .int .i64 x7, .slice ne1 nl.length ne3, .slice xa1 xa2 xa3] (by rfl) (by rfl) 39 #[.string ⟨#[]⟩, .int .i64 0, .int .i64 0, .int .i64 0, .int .i64 0, .int .i64 0, .int .i64 0, .int .i64 0, .slice none 0 0, .slice none 0 0] (heap_alloc_new _ _) (by rw [info_node10]; rfl) rfl (by simp [Value.oneCell']) ?_
        dsimp only [Act.put]
        change Exit.then _ _ _ _ ((wr.drew.alloc (.cells #[.string ⟨#[]⟩, .int .i64 0, .int .i64 0, .int .i64 0, .int .i64 0, .int .i64 0, .int .i64 0, .int .i64 0, .slice none 0 0, .slice none 0 0] 39)).setRow wr.drew.heap.size #[.string xn, .int .i64 x1, .int .i64 x2, .int .i64 x3, .int .i64 x4, .int .i64 x5, .int .i64 x6, .int .i64 x7, .slice ne1 nl.length ne3, .slice xa1 xa2 xa3])
        have HX6 : Hid (((wr.drew.alloc (.cells #[.string ⟨#[]⟩, .int .i64 0, .int .i64 0, .int .i64 0, .int .i64 0, .int .i64 0, .int .i64 0, .int .i64 0, .slice none 0 0, .slice none 0 0] 39)).setRow wr.drew.heap.size #[.string xn, .int .i64 x1, .int .i64 x2, .int .i64 x3, .int .i64 x4, .int .i64 x5, .int .i64 x6, .int .i64 x7, .slice ne1 nl.length ne3, .slice xa1 xa2 xa3]).heap[wr.heap.size]? = some (.cells #[.string xn, .int .i64 x1, .int .i64 x2, .int .i64 x3, .int .i64 x4, .int .i64 x5, .int .i64 x6, .int .i64 x7, .slice ne1 nl.length ne3, .slice xa1 xa2 xa3] 39 (0, 0))) := HX5.out
        generalize (wr.drew.alloc (.cells #[.string ⟨#[]⟩, .int .i64 0, .int .i64 0, .int .i64 0, .int .i64 0, .int .i64 0, .int .i64 0, .int .i64 0, .slice none 0 0, .slice none 0 0] 39)).setRow wr.drew.heap.size #[.string xn, .int .i64 x1, .int .i64 x2, .int .i64 x3, .int .i64 x4, .int .i64 x5, .int .i64 x6, .int .i64 x7, .slice ne1 nl.length ne3, .slice xa1 xa2 xa3] = w4 at *
        generalize wr.heap.size = D at *
        have HR4 := hide (HR.out.new K5.out)
        have HNE4 := hide (HNE.out.new K5.out)
        have HKp4 : Hid (Keep (fun j => w2.heap.size ≤ j) w2 w4) := HKp.out.trans K5.out fun _ f => f.elim
        have q0 := cell_blk HX6.out 0 (v := .string xn) rfl
        have q8 := cell_blk HX6.out 8 (v := .slice ne1 nl.length ne3) rfl
        have co4 := K5.out.cell co fun f => f
        clear HS8 HX5 HX6 HK8a K5 HR HNE HKp hHeld n0 n1 n2 n3 n4 n5 n6 n7 n8 n9 co c2r HNo
        go_wp2_with fail
        go_loopw [9, 10] (fun v9 i wq => ∃ j : Nat, i = .int .i64 (j : Nat) ∧ j ≤ nl.length ∧ Hid (∃ us, Rw wq w4.heap.size v9 us ((nl.take j).map fun e => Ls.getD e.toNat []) ∧ Keep (fun _ => False) w4 wq)) (fun _ i _ => nl.length - (intOf i).toNat)
        case atStart => exact ⟨0, rfl, Nat.zero_le _, [], Rw.nil _ _, Keep.refl _ _⟩
        case round =>
          obtain ⟨j, rfl, hj, HD⟩ := hrel
          obtain ⟨us, hu, hkq⟩ := HD.out
          by_cases hjt : j < nl.length
          · have hjt' : (j : Int) < (nl.length : Int) := by omega
            obtain ⟨gE, oE, e, ee, hgE, hej, hec⟩ := HNE4.out.at (i := j) hjt
            dsimp only at ee
            subst ee
            obtain ⟨he0, hen⟩ := HXe.out e (List.mem_of_getElem? hej)
            obtain ⟨m, rfl⟩ : ∃ m : Nat, e = m := ⟨e.toNat, by omega⟩
            have cE := hkq.cell hec fun f => f
            have q8r := hkq.cell q8 fun f => f
            have hvl := HR4.out.len
            have hmn : m < n := by omega
            obtain ⟨u, hum⟩ : ∃ u, vs[m]? = some u := ⟨_, List.getElem?_eq_getElem (by have := HOl.out; omega)⟩
            obtain ⟨r, hrm⟩ : ∃ r, Ls[m]? = some r := ⟨_, List.getElem?_eq_getElem (by have := HOl.out; omega)⟩
            obtain ⟨ra, rc, eu, hrd, hr0, hrb⟩ := HR4.out.rd hum hrm
            have cR : wr.cell? ⟨w2.heap.size, m, none⟩ = some u := hkq.cell (HR4.out.cell HOl.out hum) fun f => f
            subst eu
            have HTk : Hid ((nl.take (j + 1)).map (fun e => Ls.getD e.toNat []) = (nl.take j).map (fun e => Ls.getD e.toNat []) ++ [r]) := by
              rw [Gr.take_snoc nl j _ hej, List.map_append]
              congr 1
              exact congrArg (fun y => [y]) (getD_at hrm)
            have hul : us.length = j := by rw [hu.len]; simp; omega
            have HO : Hid ((wr.alloc (.cells #[.slice ra r.length rc] 35)).ownsRow w4.heap.size 35 1 u9 j us) := by rw [← hul]; exact hu.row.alloc _
            have HC := hide (Ow.cell_one wr (.slice ra r.length rc) 35)
            have HSz : Hid (w4.heap.size ≤ (wr.alloc (.cells #[.slice ra r.length rc] 35)).heap.size) := Nat.le_trans hkq.size (Keep.alloc (fun _ => False) _ _).size
            have HU := hide hu
            have HKq := hide hkq
            have HUl := hide hul
            have HRr : Hid (Rd wr ra r.length r ∧ (ra = none → rc = 0) ∧ ∀ ad, ra = some ad → u9.ownBlock ≠ some ad.block ∧ ad.block < wr.heap.size) := ⟨hrd.stay (S := fun _ => False) hkq fun _ _ _ f => f, hr0, fun ad ead => by
              obtain ⟨g, eg, _, hg⟩ := hrb ad ead
              subst eg
              refine ⟨fun eb => ?_, Nat.lt_of_lt_of_le hg hkq.size⟩
              have := (hu.row.lt g eb).1
              omega⟩
            have hj1 : j + 1 ≤ 1048576 := by omega
            clear hu hkq HD hej hec hrd hr0 hrb hum hul hrm
            go_wp2_with (at_builtin; refine Ow.wp_appendL rfl _ _ rfl w4.heap.size u9 j us rfl HO.out _ ra r.length rc rfl HC.out hj1 HSz.out ?_; intro v9' w6 ho6 hk6 hnb; have HO6 := hide ho6; have HK6 := hide hk6; have HN6 := hide hnb; clear ho6 hk6 hnb)
            go_roundw
            case rel =>
              refine ⟨j + 1, by go_num, by omega, _, by rw [HTk.out]; exact HU.out.add (Keep.alloc _ _ _) (by rw [HUl.out]; exact HO6.out) HK6.out HN6.out HRr.out.1 HRr.out.2.1 HRr.out.2.2, ((HKq.out.more (Keep.alloc _ _ _)).trans HK6.out fun i h => .inr ?_)⟩
              exact (HU.out.row.lt i h).1
            case measure => simp [intOf]; omega
          · have hjt' : ¬ (j : Int) < (nl.length : Int) := by omega
            have q8r := hkq.cell q8 fun f => f
            have hul : us.length = nl.length := by rw [hu.len, List.length_map, List.length_take]; omega
            rw [List.take_of_length_le (by omega)] at hu
            obtain ⟨aI, cI, e9, hins⟩ := hu.ins (by rw [List.length_map]; omega)
            subst e9
            rw [List.length_map] at hins
            have HS14 : Hid (∀ W, Keep (fun _ => False) wr W → (fun W' : World => W'.cell? ⟨gO, k, none⟩ = some (.int .i64 (i : Int)) ∧ W'.cell? ⟨D, 0, none⟩ = some (.string xn)) W) := fun W kW => ⟨kW.cell (hkq.cell co4 fun f => f) fun f => f, kW.cell (hkq.cell q0 fun f => f) fun f => f⟩
            have htot : tot (nl.map fun e => Ls.getD e.toNat []) ≤ 1048576 := by
              have := tot_le (ls := nl.map fun e => Ls.getD e.toNat []) fun y hy => by
                obtain ⟨e, he, rfl⟩ := List.mem_map.1 hy
                obtain ⟨he0, hen⟩ := HXe.out e he
                obtain ⟨r, hrm⟩ : ∃ r, Ls[e.toNat]? = some r := ⟨_, List.getElem?_eq_getElem (by have := HOl.out; omega)⟩
                rw [getD_at hrm]
                exact (HR4.out.sm r (List.mem_of_getElem? hrm)).2
              rw [List.length_map] at this
              omega
            have HWo := hide (refWork_any xn hxs aI nl.length cI _ wr.drew (hins.keep (Below.refl _ _).drew) htot (by omega))
            have HRq := hide ((HR4.out.new hkq).new (Keep.drew (fun _ => False) wr))
            have HKq := hide (hkq.more (Keep.drew (fun _ => False) wr))
            obtain ⟨uo, huo⟩ : ∃ u, vs[i]? = some u := ⟨_, List.getElem?_eq_getElem (by have := HOl.out; have := HR4.out.len; omega)⟩
            have HUo := hide huo
            simp only [List.length_map]
            clear hu hins hkq HD hul htot huo hjt
            go_upto_region 14 with fail
            refine RL.wp_region_held_last (S := fun W' : World => W'.cell? ⟨gO, k, none⟩ = some (.int .i64 (i : Int)) ∧ W'.cell? ⟨D, 0, none⟩ = some (.string xn)) rfl (by kernel_rfl) (by kernel_rfl) (HS14.out _ (Keep.drew _ _)) (fun hHeld => ?_)
            change wpAnyH _ _ _ _ _ 11 (Array.replicate 11 false) _ _
            simp only [List.dropLast, List.getLast, List.cons_append, List.nil_append, RL.still]
            refine wpAnyH_take (i := 0) (oi := _) (v := ?_) rfl (by kernel_rfl) (by kernel_rfl) (by kernel_rfl) (fun _ _ _ h => h) (Or.inl ⟨by rfl, ?_⟩) (by assumption) ?_
            rotate_left
            · (intro w hSw; (try dsimp only at hSw); go_simp)
              all_goals with_reducible rfl
            go_simp
            refine wpAnyH_take (i := 1) (oi := _) (v := ?_) rfl (by kernel_rfl) (by kernel_rfl) (by kernel_rfl) (fun _ _ _ h => h) (Or.inl ⟨by rfl, ?_⟩) (by assumption) ?_
            rotate_left
            · (intro w hSw; (try dsimp only at hSw); go_simp)
              all_goals with_reducible rfl
            go_simp
            refine wpAnyH_take (i := 2) (oi := _) (v := ?_) rfl (by kernel_rfl) (by kernel_rfl) (by kernel_rfl) (fun _ _ _ h => h) (Or.inl ⟨by rfl, ?_⟩) (by assumption) ?_
            rotate_left
            · (intro w hSw; (try dsimp only at hSw); go_simp)
              all_goals with_reducible rfl
            go_simp
            refine wpAnyH_take (i := 3) (oi := _) (v := ?_) rfl (by kernel_rfl) (by kernel_rfl) (by kernel_rfl) (fun _ _ _ h => h) (Or.inl ⟨by rfl, ?_⟩) (by assumption) ?_
            rotate_left
            · (intro w hSw; (try dsimp only at hSw); go_simp)
              all_goals with_reducible rfl
            go_simp
            refine wpAnyH_take (i := 4) (oi := _) (v := ?_) rfl (by kernel_rfl) (by kernel_rfl) (by kernel_rfl) (fun _ _ _ h => h) (Or.inl ⟨by rfl, ?_⟩) (by assumption) ?_
            rotate_left
            · (intro w hSw; (try dsimp only at hSw); go_simp)
              all_goals with_reducible rfl
            go_simp
            refine wpAnyH_take (i := 5) (oi := _) (v := ?_) rfl (by kernel_rfl) (by kernel_rfl) (by kernel_rfl) (fun _ _ _ h => h) (Or.inl ⟨by rfl, ?_⟩) (by assumption) ?_
            rotate_left
            · (intro w hSw; (try dsimp only at hSw); go_simp)
              all_goals with_reducible rfl
            go_simp
            refine wpAnyH_take (i := 6) (oi := _) (v := ?_) rfl (by kernel_rfl) (by kernel_rfl) (by kernel_rfl) (fun _ _ _ h => h) (Or.inl ⟨by rfl, ?_⟩) (by assumption) ?_
            rotate_left
            · (intro w hSw; (try dsimp only at hSw); go_simp)
              all_goals with_reducible rfl
            go_simp
            refine wpAnyH_take (i := 7) (oi := _) (v := ?_) rfl (by kernel_rfl) (by kernel_rfl) (by kernel_rfl) (fun _ _ _ h => h) (Or.inl ⟨by rfl, ?_⟩) (by assumption) ?_
            rotate_left
            · (intro w hSw; (try dsimp only at hSw); go_simp)
              all_goals with_reducible rfl
            go_simp
            refine wpAnyH_ready (rs := [8]) (by kernel_rfl) (by simp) ?_
            refine AllReadyH.cons (o := _) rfl (fun K hK => ?_) AllReadyH.nil
            rw [if_pos (by rfl)]
            go_simp
            go_at_call 16
            refine (HWo.out).mono ?_
            rintro e w7 ⟨rfl, hgt, hg7, hb7⟩
            have HR7 := hide (HRq.out.new (Keep.ofBelow hb7 (Nat.le_refl _)))
            have c7 : w7.cell? ⟨w2.heap.size, i, none⟩ = some uo := HR7.out.cell HOl.out HUo.out
            have f7 : w7.frozen? ⟨w2.heap.size, i, none⟩ = false := by
              have h := HR7.out.row
              rw [HOl.out] at h
              exact h.frozenAt i
            have hwl : (wk Ls ⟨⟨xn, x1, x2, x3, x4, x5, x6, x7, (ne1, nl.length, ne3), (xa1, xa2, xa3)⟩, nl, al⟩).length = 4 := wk_len _ _
            have HPu := hide (HRq.out.put HOl.out hwl hb7 hg7 (by omega) (by have h1 := HKq.out.size; have h2 := HKp4.out.size; omega) (sm_four _) i)
            have HKb := hide hb7
            clear hgt hg7 hwl HWo
            generalize w7.heap.size - 1 = g7 at *
            go_simp
            refine hK.out _ _ (HS14.out _ ((Keep.drew _ _).more (Keep.ofBelow hb7 (Nat.le_refl _)))) (fun hHeld => ?_)
            clear hK K hb7
            try simp only [Act.put, List.setIfInBounds_toArray, List.set_cons_zero, List.set_cons_succ]
            refine wpAnyH_take (i := 9) (oi := _) (v := ?_) rfl (by kernel_rfl) (by kernel_rfl) (by kernel_rfl) (fun _ _ _ h => h) (Or.inl ⟨by rfl, ?_⟩) (by assumption) ?_
            rotate_left
            · (intro w hSw; (try dsimp only at hSw); go_simp)
              all_goals with_reducible rfl
            go_simp
            refine wpAnyH_take (i := 10) (oi := _) (v := ?_) rfl (by kernel_rfl) (by kernel_rfl) (by kernel_rfl) (fun _ _ _ h => h) (Or.inl ⟨by rfl, ?_⟩) (by assumption) ?_
            rotate_left
            · (intro w hSw; (try dsimp only at hSw); go_simp)
              all_goals with_reducible rfl
            go_simp
            refine wpAnyH_done (by kernel_rfl) ?_ _
            simp only [RL.endQ]
            unfold Oper.wp
            go_simp
            go_wp2_with fail
            go_roundw
            case rel =>
              refine ⟨k + 1, by go_num, by omega, _, by rw [HWk.out]; exact HPu.out, ?_⟩
              refine ((HKp4.out.more (HKq.out.mono fun _ f => f.elim)).more (Keep.ofBelow HKb.out (Nat.le_refl _))).more ((keep_cell _ _ _ _).mono fun j h => ?_)
              have h' : j = w2.heap.size := h
              omega
            case measure => simp [intOf]; omega
      · have hlt' : ¬ (k : Int) < (l.length : Int) := by omega
        obtain ⟨vs, hr, hkp⟩ := HD.out
        rw [List.take_of_length_le (by omega)] at hr
        have HE := hide (HRe.out _ _ _ (hr.base (Nat.le_trans KW.out.size K2.out.size)))
        have HKe : Hid (Keep (fun _ => False) w wr) := (KW.out.more K2.out).trans hkp fun j h => .inr (by have h1 := K2.out.size; have h2 := KW.out.size; omega)
        clear hr hkp HD hlt hk
        go_wp2_with fail
        go_ret2
        exact ⟨HE.out, HKe.out⟩
  · have hz : ((((chk nm dl xs).2 : Nat) : Int) != 0) = true := by simpa using h0
    have HR : Hid (∀ w', RsE nm dl xs w.heap.size (.returned (.tuple #[.slice none 0 0, .int .i64 ((chk nm dl xs).2 : Nat)])) w') := fun w' => ⟨_, [], [], rfl, ⟨l, HIO.out, fun h => absurd h h0, fun _ => rfl⟩, Re.nil _ _⟩
    generalize (chk nm dl xs).2 = cd at *
    clear h0
    go_wp2_with fail
    go_ret2
    exact ⟨HR.out _, KW.out.more K2.out⟩
end Cw
end Go.Proofs.Ytgjiaajeionofaa
