/- CrewResults: the walk. -/
import Derived.Test.YtgjiaajeionofaaKRsS
import Derived.Test.YtgjiaajeionofaaRSma
namespace Go.Proofs.Ytgjiaajeionofaa
namespace Cw
open Go.RowKit Gr Go.Deep
open Ow (typ_ne own_form)
open Rn (er CapP NdX)

theorem alk_er {x y : No} (h : er x = er y) : Alk x y := by
  obtain ⟨⟨a0, a1, a2, a3, a4, a5, a6, a7, a8, a9⟩, a10, a11⟩ := x
  obtain ⟨⟨b0, b1, b2, b3, b4, b5, b6, b7, b8, b9⟩, b10, b11⟩ := y
  simp only [er, No.mk.injEq, Nd.mk.injEq] at h
  obtain ⟨⟨h0, h1, h2, h3, h4, h5, h6, h7, _⟩, h8, h9⟩ := h
  exact ⟨h8, h9, h0, h1, h2, h3, h4, h5, h6, h7⟩
theorem er_at {xs ys : List No} (he : ys.map er = xs.map er) {i : Nat} {x y : No} (hx : xs[i]? = some x) (hy : ys[i]? = some y) : er x = er y := by
  have h1 : (ys.map er)[i]? = some (er y) := by rw [List.getElem?_map, hy]; rfl
  rw [he, List.getElem?_map, hx] at h1
  injection h1
theorem er_mem {xs ys : List No} (he : ys.map er = xs.map er) {y : No} (hy : y ∈ ys) : ∃ x ∈ xs, Alk x y := by
  obtain ⟨i, hi⟩ := List.mem_iff_getElem?.1 hy
  have hl : ys.length = xs.length := by have := congrArg List.length he; simpa using this
  obtain ⟨x, hx⟩ : ∃ x, xs[i]? = some x := ⟨_, List.getElem?_eq_getElem (by have := (List.getElem?_eq_some_iff.1 hi).1; omega)⟩
  exact ⟨x, List.mem_of_getElem? hx, alk_er (er_at he hx hi)⟩
theorem edge_le : ∀ {xs : List No} {x : No}, x ∈ xs → x.nl.length + x.al.length ≤ edges xs
  | y :: xs, x, h => by
    have e : edges (y :: xs) = y.nl.length + y.al.length + edges xs := by unfold edges; simp
    rcases List.mem_cons.1 h with rfl | h
    · omega
    · have := edge_le h
      omega
theorem info_plan3 : (Try.prog.info? 24).map (·.size) = some 3 := by kernel_rfl
theorem isR_len {nm : ByteArray} {dl : Int} {xs : List No} {Ls : List (List Nat)} (h : IsR nm dl xs Ls) : Ls.length ≤ 64 := by
  obtain ⟨l, _, h1, h2⟩ := h
  by_cases h0 : (chk nm dl xs).2 = 0
  · rw [h1 h0, outM_len]
    exact (chk_ok h0).2.2.2.1.1
  · rw [h2 h0]
    exact Nat.zero_le _
set_option maxRecDepth 100000 in
set_option maxHeartbeats 4000000 in
theorem res_walk (nm : ByteArray) (dl : Int) (s : Option Addr × Nat × Nat) (xs : List No) (w : World) (hP : RdP w.heap.size w s xs) (hs : Sz nm xs) (hc : CapP xs) (hnm : ∀ x ∈ xs, x.q.nm.size ≤ 140737488351232) :
    Calls Try.prog 3 #[.agg #[.string nm, .int .i64 dl, .slice s.1 s.2.1 s.2.2]] w fun e w' => e = .returned (.bool true) ∧ Below w.heap.size w w' := by
  obtain ⟨a, n, c⟩ := s
  have hnx : n = xs.length := hP.1
  have HN := hide hnx
  have hb0 : Below w.heap.size w (w.alloc (.cells #[.string nm, .int .i64 dl, .slice a n c] 24)) := (Below.refl _ _).alloc (Nat.le_refl _) _
  have HB0 := hide hb0
  have HX0 := hide (heap_alloc_new w (.cells #[.string nm, .int .i64 dl, .slice a n c] 24))
  have HP := hide hP
  have HS := hide hs
  have HC := hide hc
  have HNm := hide hnm
  clear hP hs hc hnm hb0 hnx
  go_enter Try.func3, Try.ntmps3
  go_wp2_with fail
  generalize w.alloc (.cells #[.string nm, .int .i64 dl, .slice a n c] 24) = w0 at *
  refine (awake_any _).mono ?_
  rintro e w1 ⟨rfl, hb1⟩
  have HB1 := hide (HB0.out.trans (hb1.mono HB0.out.size))
  have HX1 := hide ((Keep.ofBelow (S := fun _ => False) hb1 (Nat.le_refl _)).blk HX0.out fun f => f)
  clear hb1 HB0 HX0
  have HSm := hide (small_any nm dl (a, n, c) xs w.heap.size w1 (HP.out.new (Keep.ofBelow HB1.out (Nat.le_refl _))))
  obtain ⟨x10, x11, x12⟩ : w1.cell? ⟨w.heap.size, 0, none⟩ = some (.string nm) ∧ w1.cell? ⟨w.heap.size, 1, none⟩ = some (.int .i64 dl) ∧ w1.cell? ⟨w.heap.size, 2, none⟩ = some (.slice a n c) := ⟨cell_blk HX1.out 0 rfl, cell_blk HX1.out 1 rfl, cell_blk HX1.out 2 rfl⟩
  go_wp2_with fail
  go_at_call 5
  refine (HSm.out).mono ?_
  rintro e w2 ⟨⟨b, rfl, hbs⟩, k2⟩
  have HB2 := hide (HB1.out.trans (k2.below HB1.out.size fun _ f => f.elim))
  have HX2 := hide (k2.blk HX1.out fun f => f)
  clear k2 HB1 HX1 HSm x10 x11 x12
  obtain ⟨x20, x21, x22⟩ : w2.cell? ⟨w.heap.size, 0, none⟩ = some (.string nm) ∧ w2.cell? ⟨w.heap.size, 1, none⟩ = some (.int .i64 dl) ∧ w2.cell? ⟨w.heap.size, 2, none⟩ = some (.slice a n c) := ⟨cell_blk HX2.out 0 rfl, cell_blk HX2.out 1 rfl, cell_blk HX2.out 2 rfl⟩
  cases b with
  | false =>
    clear hbs
    go_wp2_with fail
    go_ret
    exact ⟨rfl, HB2.out⟩
  | true =>
    have HSz := hide (hbs rfl)
    clear hbs
    have HPl := hide (Rn.bare_any nm dl (a, n, c) xs w2 ((HP.out.new (Keep.ofBelow HB2.out (Nat.le_refl _))).mono HB2.out.size) HC.out (by have := HSz.out; omega) fun x hx => by have h1 := edge_le hx; have h2 := HSz.out; exact ⟨by omega, by omega⟩)
    go_wp2_with fail
    go_at_call 6
    refine (HPl.out).mono ?_
    rintro e w3 ⟨aq, cq, ys, rfl, hyl, hnd, hye, hb3⟩
    have HYl := hide hyl
    have HYe := hide hye
    have HYz : Hid (∀ y ∈ ys, y.nl.length ≤ 20000 ∧ y.al.length ≤ 20000 ∧ y.q.nm.size ≤ 140737488351232) := fun y hy => by
      obtain ⟨x, hx, hA⟩ := er_mem hye hy
      have h1 := edge_le hx
      have h2 := HSz.out
      have h3 := HNm.out x hx
      rw [← hA.1, ← hA.2.1, ← hA.2.2.1]
      exact ⟨by omega, by omega, h3⟩
    have HQ3 : Hid (RdP w3.heap.size w3 (aq, xs.length, cq) ys) := hnd.rd (by have := HSz.out; omega) fun y hy => by have := HYz.out y hy; exact ⟨by omega, by omega⟩
    have HSy : Hid (Sz nm ys) := ⟨HS.out.1, fun y hy => by have := (HYz.out y hy).2.2; omega⟩
    obtain ⟨hx4, hb4⟩ := alloc_setB (w := w3) #[.string ⟨#[]⟩, .int .i64 0, .slice none 0 0] 24 #[.string nm, .int .i64 dl, .slice aq xs.length cq]
    have HB4 := hide ((HB2.out.trans (hb3.mono HB2.out.size)).trans (hb4.mono (HB2.out.trans (hb3.mono HB2.out.size)).size))
    have HX4 := hide ((Keep.ofBelow (S := fun _ => False) (hb3.trans (hb4.mono hb3.size)) (Nat.le_refl _)).blk HX2.out fun f => f)
    have HD4 := hide hx4
    have HQ4 := hide ((HQ3.out.new (Keep.ofBelow hb4 (Nat.le_refl _))).mono hb4.size)
    have HP4 := hide ((HP.out.new (Keep.ofBelow HB4.out (Nat.le_refl _))).mono HB4.out.size)
    have h34 : w3.heap.size < ((w3.alloc (.cells #[.string ⟨#[]⟩, .int .i64 0, .slice none 0 0] 24)).setRow w3.heap.size #[.string nm, .int .i64 dl, .slice aq xs.length cq]).heap.size := (Array.getElem?_eq_some_iff.1 hx4).1
    have HI3 : Hid ((Try.prog.info? 24).map (·.size) = some (#[.string nm, .int .i64 dl, .slice aq xs.length cq] : Array Value).size) := info_plan3
    clear hyl hnd hye hb3 hx4 hb4 HPl HQ3 HX2 HB2 x20 x21 x22
    go_upto_region 6 with (refine wpList_store_row rfl 24 _ _ rfl w3.heap.size #[.string nm, .int .i64 dl, .slice aq xs.length cq] rfl rfl 24 _ (heap_alloc_new _ _) HI3.out rfl (by simp [Value.oneCell']) ?_)
    change Code.wp _ _ _ _ ((w3.alloc (.cells #[.string ⟨#[]⟩, .int .i64 0, .slice none 0 0] 24)).setRow w3.heap.size #[.string nm, .int .i64 dl, .slice aq xs.length cq])
    generalize (w3.alloc (.cells #[.string ⟨#[]⟩, .int .i64 0, .slice none 0 0] 24)).setRow w3.heap.size #[.string nm, .int .i64 dl, .slice aq xs.length cq] = w4 at *
    generalize w3.heap.size = D at *
    have H34 := hide h34
    clear h34 HI3
    obtain ⟨d0, d1, d2⟩ : w4.cell? ⟨D, 0, none⟩ = some (.string nm) ∧ w4.cell? ⟨D, 1, none⟩ = some (.int .i64 dl) ∧ w4.cell? ⟨D, 2, none⟩ = some (.slice aq xs.length cq) := ⟨cell_blk HD4.out 0 rfl, cell_blk HD4.out 1 rfl, cell_blk HD4.out 2 rfl⟩
    have HPw : Hid (w.heap.size < w4.heap.size) := (Array.getElem?_eq_some_iff.1 HX4.out).1
    -- whatever lies below w4 stays
    have HU : Hid (∀ W, Keep (fun k => w4.heap.size ≤ k) w4 W → RdP W.heap.size W (a, n, c) xs ∧ RdP W.heap.size W (aq, xs.length, cq) ys ∧ Below w.heap.size w W ∧ (W.cell? ⟨D, 0, none⟩ = some (.string nm) ∧ W.cell? ⟨D, 1, none⟩ = some (.int .i64 dl) ∧ W.cell? ⟨D, 2, none⟩ = some (.slice aq xs.length cq)) ∧ (W.cell? ⟨w.heap.size, 0, none⟩ = some (.string nm) ∧ W.cell? ⟨w.heap.size, 1, none⟩ = some (.int .i64 dl) ∧ W.cell? ⟨w.heap.size, 2, none⟩ = some (.slice a n c))) := fun W k => by
      have hD := k.blk HD4.out (fun h => by have := H34.out; omega)
      have hX := k.blk HX4.out (fun h => by have := HPw.out; omega)
      exact ⟨(HP4.out.keep k fun i h => h).mono k.size, (HQ4.out.keep k fun i h => h).mono k.size, HB4.out.trans (k.below HB4.out.size fun i h => Nat.le_trans HB4.out.size h), ⟨cell_blk hD 0 rfl, cell_blk hD 1 rfl, cell_blk hD 2 rfl⟩, ⟨cell_blk hX 0 rfl, cell_blk hX 1 rfl, cell_blk hX 2 rfl⟩⟩
    have HRA : Hid (∀ W, Keep (fun k => w4.heap.size ≤ k) w4 W → Calls Try.prog 7 #[.agg #[.string nm, .int .i64 dl, .slice aq xs.length cq]] W fun e w' => RsE nm dl ys W.heap.size e w' ∧ Keep (fun _ => False) W w') := fun W k => results_any nm dl (aq, xs.length, cq) ys W (HU.out W k).2.1 HSy.out fun y hy => (HYz.out y hy).2.2
    have HAlk : Hid (AlkP nm dl xs nm dl ys) := ⟨rfl, rfl, HYl.out.symm, fun i x y hx hy => alk_er (er_at HYe.out hx hy)⟩
    have HCk : Hid ((chk nm dl ys).2 = (chk nm dl xs).2) := by
      show _ = _
      rw [← chk_er nm dl ys, HYe.out, chk_er]
    have HIR : Hid (∀ Ls Ms, IsR nm dl ys Ls → IsR nm dl xs Ms → Ls = Ms) := fun Ls Ms h1 h2 => (h1.of HYe.out).uniq h2
    clear HQ4 HP4 HX4 HD4
    have CA := hide (HRA.out w4 (Keep.refl _ _))
    go_wp2_with fail
    go_at_call 7
    refine (CA.out).mono ?_
    rintro e w5 ⟨⟨v6, vsA, LA, rfl, hiA, hrA⟩, k5⟩
    rw [HCk.out]
    have HRe5 := hide hrA
    have HiA := hide hiA
    have K5 : Hid (Keep (fun k => w4.heap.size ≤ k) w4 w5) := k5.mono fun _ f => f.elim
    clear k5 hrA hiA CA d0 d1 d2
    obtain ⟨hP5, hQ5, _, ⟨d0, d1, d2⟩, ⟨x0, x1, x2⟩⟩ := HU.out w5 K5.out
    have CS := hide (refSame_any nm dl (a, n, c) xs nm dl (aq, xs.length, cq) ys _ _ w5 hP5 hQ5)
    clear hP5 hQ5
    go_wp2_with fail
    go_at_call 8
    refine (CS.out).mono ?_
    rintro e w6 ⟨⟨r, rfl, hr⟩, k6⟩
    obtain rfl : r = true := hr.2 HAlk.out
    have HRe6 := hide (HRe5.out.new k6)
    have K6 : Hid (Keep (fun k => w4.heap.size ≤ k) w4 w6) := K5.out.trans k6 fun _ f => f.elim
    have H56 : Hid (w5.heap.size ≤ w6.heap.size) := k6.size
    have H46 : Hid (w4.heap.size ≤ w6.heap.size) := K6.out.size
    have HAl : Hid (∀ (i : Nat) u b, vsA[i]? = some u → u.ownBlock = some b → w4.heap.size ≤ b ∧ b < w5.heap.size) := fun i u b hu hb => HRe5.out.lt hu hb
    have HVl : Hid (∀ b, v6.ownBlock = some b → w4.heap.size ≤ b ∧ b < w5.heap.size) := fun b hb => HRe5.out.row.lt b hb
    clear hr k6 CS d0 d1 d2 x0 x1 x2 K5 HRe5
    obtain ⟨_, _, _, ⟨d0, d1, d2⟩, ⟨x0, x1, x2⟩⟩ := HU.out w6 K6.out
    have CA := hide (HRA.out w6 K6.out)
    go_wp2_with fail
    go_at_call 7
    refine (CA.out).mono ?_
    rintro e w7 ⟨⟨v9, vsB, LB, rfl, hiB, hrB⟩, k7⟩
    rw [HCk.out]
    have HRa7 := hide (HRe6.out.new k7)
    have HRb7 := hide hrB
    have HiB := hide hiB
    have K7 : Hid (Keep (fun k => w4.heap.size ≤ k) w4 w7) := K6.out.trans k7 fun _ f => f.elim
    have H67 : Hid (w6.heap.size ≤ w7.heap.size) := k7.size
    clear k7 hrB hiB CA d0 d1 d2 x0 x1 x2 K6 HRe6
    obtain ⟨hP7, _, _, ⟨d0, d1, d2⟩, ⟨x0, x1, x2⟩⟩ := HU.out w7 K7.out
    have CR := hide (refResults_any nm dl (a, n, c) xs w7 hP7 HS.out HNm.out)
    clear hP7
    go_wp2_with fail
    go_at_call 9
    refine (CR.out).mono ?_
    rintro e w8 ⟨⟨v11, vsW, LL, rfl, hiW, hrW⟩, k8⟩
    have hLA := HIR.out _ _ HiA.out hiW
    have hLB := HIR.out _ _ HiB.out hiW
    have HLl := hide (isR_len hiW)
    have HRa8 : Hid (Re w4.heap.size w8 v6 vsA LL) := by rw [← hLA]; exact HRa7.out.new k8
    have HRb8 : Hid (Re w6.heap.size w8 v9 vsB LL) := by rw [← hLB]; exact HRb7.out.new k8
    have HRw8 := hide hrW
    have HiW := hide hiW
    have K8 : Hid (Keep (fun k => w4.heap.size ≤ k) w4 w8) := K7.out.trans k8 fun _ f => f.elim
    have H78 : Hid (w7.heap.size ≤ w8.heap.size) := k8.size
    have HBl : Hid (∀ (i : Nat) u b, vsB[i]? = some u → u.ownBlock = some b → w6.heap.size ≤ b ∧ b < w7.heap.size) := fun i u b hu hb => HRb7.out.lt hu hb
    clear hLA hLB
    clear k8 hrW hiW CR d0 d1 d2 x0 x1 x2 K7 HRa7 HRb7 HiA HiB
    have hLb : LL.length ≤ 64 := HLl.out
    obtain ⟨aA, cA, eA, insA⟩ := HRa8.out.ins (by omega)
    obtain ⟨aB, cB, eB, insB⟩ := HRb8.out.ins (by omega)
    obtain ⟨aW, cW, eW, insW⟩ := HRw8.out.ins (by omega)
    subst eA eB eW
    generalize (chk nm dl xs).2 = cd at *
    have HSa := hide (sameBytes_same aA aW LL.length cA cW LL w8 insA insW)
    clear insA insB insW
    go_wp2_with fail
    go_at_call 10
    refine (HSa.out).mono ?_
    rintro e w9 ⟨rfl, m9, hw9⟩
    have k9 : Keep (fun _ => False) w8 w9 := by rw [hw9]; exact Keep.ofBelow (drewN_belowC _ _) (Nat.le_refl _)
    have HK9 := hide k9
    obtain ⟨aB', cB', eB, insB⟩ := (HRb8.out.new k9).ins (by omega)
    obtain ⟨aW', cW', eW, insW⟩ := (HRw8.out.new k9).ins (by omega)
    injection eB with e1 _ e3
    injection eW with e4 _ e6
    subst e1 e3 e4 e6
    have HSb := hide (sameBytes_same aB aW LL.length cB cW LL w9 insB insW)
    clear hw9 k9 insB insW HSa
    go_wp2_with fail
    go_at_call 10
    refine (HSb.out).mono ?_
    rintro e w10 ⟨rfl, m10, hw10⟩
    have K910 : Hid (Keep (fun _ => False) w8 w10) := HK9.out.more (by rw [hw10]; exact Keep.ofBelow (drewN_belowC _ _) (Nat.le_refl _))
    have HRa10 := hide (HRa8.out.new K910.out)
    have HRb10 := hide (HRb8.out.new K910.out)
    have HRw10 := hide (HRw8.out.new K910.out)
    have K10 : Hid (Keep (fun k => w4.heap.size ≤ k) w4 w10) := K8.out.trans K910.out fun _ f => f.elim
    have H1A := hide HRa10.out.one
    have H1B := hide HRb10.out.one
    clear hw10 HSb HK9 K910 HRa8 HRb8 HRw8 K8
    go_upto_region 17 with (first
      | (at_builtin; refine wp_appendLs rfl _ _ rfl w10.heap.size v12 LL.length vsA rfl HO11.out w6.heap.size (.slice aB LL.length cB) LL.length vsB rfl HRb11.out.row H1B.out (by omega) HK11.out.size ?_; intro v13 w12 ho hk hnb; have HO12 := hide ho; have HK12 : Hid (Keep (fun k => w10.heap.size ≤ k) w11 w12) := hk.mono fun j e => (HO11.out.lt j e).1; clear ho hk hnb)
      | (at_builtin; refine wp_appendLs rfl _ _ rfl w10.heap.size (.slice none 0 0) 0 [] rfl (World.ownsRow_nil _ _ _ _) w4.heap.size (.slice aA LL.length cA) LL.length vsA rfl HRa10.out.row H1A.out (by omega) (Nat.le_refl _) ?_; intro v12 w11 ho hk hnb; rw [Nat.zero_add, List.nil_append] at ho; have HO11 := hide ho; have HK11 : Hid (Keep (fun _ => False) w10 w11) := hk.mono (fun j e => by cases e); have HRb11 := hide (HRb10.out.new HK11.out); clear ho hk hnb))
    have K1012 : Hid (Keep (fun _ => False) w10 w12) := HK11.out.trans HK12.out fun i h => .inr h
    have HRa12 := hide (HRa10.out.new K1012.out)
    have HRb12 := hide (HRb10.out.new K1012.out)
    have HRw12 := hide (HRw10.out.new K1012.out)
    have K12 : Hid (Keep (fun k => w4.heap.size ≤ k) w4 w12) := K10.out.trans K1012.out fun _ f => f.elim
    have HTw := hide (HRa12.out.two HRb12.out fun i j u t b hu ht hb hb' => by
      have h1 := (HAl.out i u b hu hb).2
      have h2 := (HBl.out j t b ht hb').1
      have h3 := H56.out
      omega)
    have HO12' : Hid (w12.ownsRow w10.heap.size 35 1 v13 (LL ++ LL).length (vsA ++ vsB)) := by rw [List.length_append]; exact HO12.out
    have HOw := hide (owned_list w12 HO12'.out (by rw [List.length_append, List.length_append, HRa12.out.len, HRb12.out.len]) HTw.out.1 HTw.out.2 (fun l hl => by
      have := (HRa12.out.sm l ((List.mem_append.1 hl).elim id id)).2
      omega) (by rw [List.length_append]; omega))
    have HSv : Hid (∀ i, Sv (vsA ++ vsB) i → w4.heap.size ≤ i ∧ i < w7.heap.size ∧ (Value.slice aA LL.length cA).ownBlock ≠ some i) := fun i ⟨j, u, hu, hb⟩ => by
      have h56 := H56.out
      have h67 := H67.out
      by_cases hj : j < vsA.length
      · rw [List.getElem?_append_left hj] at hu
        have h1 := HAl.out j u i hu hb
        obtain ⟨l, hl⟩ : ∃ l, LL[j]? = some l := ⟨_, List.getElem?_eq_getElem (by rw [← HRa12.out.len]; exact hj)⟩
        exact ⟨by omega, by omega, typ_ne (HRa12.out.own j u l hu hl) HRa12.out.row (by decide) hb⟩
      · rw [List.getElem?_append_right (by omega)] at hu
        have h1 := HBl.out _ u i hu hb
        refine ⟨?_, by omega, fun e => ?_⟩
        · have h2 := H46.out
          omega
        · have h3 := HVl.out i e
          omega
    clear HO11 HO12 HK11 HK12 HRb11 HRa10 HRb10 HRw10 K10 H1A H1B HTw HO12'
    go_wp2_with fail
    go_at_call 11
    refine (HOw.out).mono ?_
    rintro e w13 ⟨rfl, hk13⟩
    have HV13 := hide (ownsRow_keep HRa12.out.row hk13 fun i h => (HSv.out i h).2.2)
    have HRw13 := hide (HRw12.out.keep hk13 (fun i h e => by have h1 := (HSv.out i h).2.1; have h2 := (HRw12.out.row.lt i e).1; omega) fun j u i hu h e => by have h1 := (HSv.out i h).2.1; have h2 := (HRw12.out.lt hu e).1; omega)
    have K13 : Hid (Keep (fun k => w4.heap.size ≤ k) w4 w13) := K12.out.trans hk13 fun i h => .inl (HSv.out i h).1
    clear hk13 HOw HRa12 HRb12 HRw12 K12 K1012 HSv
    go_wp2_with fail
    go_loopw [17] (fun iv wr => ∃ i : Nat, iv = .int .i64 (i : Nat) ∧ i ≤ LL.length ∧ Hid (∃ xs, wr.ownsRow w4.heap.size 35 1 (.slice aA LL.length cA) LL.length xs ∧ Keep (fun k => (Value.slice aA LL.length cA).ownBlock = some k) w13 wr)) (fun iv _ => LL.length - (intOf iv).toNat)
    case atStart => exact ⟨0, rfl, Nat.zero_le _, _, HV13.out, Keep.refl _ _⟩
    case round =>
      clear HV13
      obtain ⟨i, rfl, hi, HD⟩ := hrel
      by_cases hlt : i < LL.length
      · have hlt' : (i : Int) < (LL.length : Int) := by omega
        obtain ⟨us, ho, hk⟩ := HD.out
        obtain ⟨ga, ca, e⟩ := own_form ho (by omega)
        injection e with eA _ eC
        subst eA
        obtain ⟨y, hy⟩ : ∃ y, us[i]? = some y := ⟨_, List.getElem?_eq_getElem (by have := ho.1; omega)⟩
        have cc := ho.cellAt i (by omega)
        rw [hy] at cc
        have fz := ho.frozenAt i
        have N1 : Hid (∃ xs, (wr.setCell ⟨ga, i, none⟩ (.slice none 0 0)).ownsRow w4.heap.size 35 1 (.slice (some ⟨ga, 0, none⟩) LL.length cA) LL.length xs ∧ Keep (fun k => (Value.slice (some ⟨ga, 0, none⟩) LL.length cA).ownBlock = some k) w13 (wr.setCell ⟨ga, i, none⟩ (.slice none 0 0))) := ⟨_, (ho.stored i _).1, hk.more (Keep.setCell (S := fun k => (Value.slice (some ⟨ga, 0, none⟩) LL.length cA).ownBlock = some k) wr (p := ⟨ga, i, none⟩) rfl _)⟩
        clear ho hy hk HD eC
        go_wp2_with fail
        go_roundw
        case rel => exact ⟨i + 1, by go_num, by omega, N1.out⟩
        case measure => simp [intOf]; omega
      · have hlt' : ¬ (i : Int) < (LL.length : Int) := by omega
        obtain ⟨us, ho, hk⟩ := HD.out
        obtain ⟨w14, hw14⟩ : ∃ x, x = wr := ⟨_, rfl⟩
        subst hw14
        have K14 : Hid (Keep (fun k => w4.heap.size ≤ k) w4 w14) := K13.out.trans hk fun j e => .inl (HVl.out j e).1
        have HRw14 := hide (HRw13.out.keep hk (fun j h e => by have h1 := (HVl.out j h).2; have h2 := (HRw13.out.row.lt j e).1; have h3 := H56.out; have h4 := H67.out; omega) fun q u j hu h e => by have h1 := (HVl.out j h).2; have h2 := (HRw13.out.lt hu e).1; have h3 := H56.out; have h4 := H67.out; omega)
        clear ho hk HD hlt hi K13 HRw13
        obtain ⟨_, _, _, ⟨d0, d1, d2⟩, _⟩ := HU.out w14 K14.out
        have CA := hide (HRA.out w14 K14.out)
        go_wp2_with fail
        clear hlt'
        go_at_call 7
        refine (CA.out).mono ?_
        rintro e w15 ⟨⟨v18, vsC, LC, rfl, hiC, hrC⟩, k15⟩
        rw [HCk.out]
        have hLC := HIR.out _ _ hiC HiW.out
        rw [hLC] at hrC
        obtain ⟨aC, cC, eC, insC⟩ := hrC.ins (by omega)
        obtain ⟨aW', cW', eW, insW⟩ := (HRw14.out.new k15).ins (by omega)
        subst eC
        injection eW with e4 _ e6
        subst e4 e6
        have HSc := hide (sameBytes_same aC aW LL.length cC cW LL w15 insC insW)
        have HB15 := hide ((HU.out w15 (K14.out.trans k15 fun _ f => f.elim)).2.2.1)
        have heq : ((cd : Int) == (cd : Int)) = true := by simp
        clear hLC hrC hiC insC insW k15 CA d0 d1 d2
        go_wp2_with fail
        go_at_call 10
        refine (HSc.out).mono ?_
        rintro e w16 ⟨rfl, m16, hw16⟩
        have HB16 : Hid (Below w.heap.size w w16) := by rw [hw16]; exact HB15.out.trans ((drewN_belowC _ _).mono HB15.out.size)
        clear hw16
        go_wp2_with fail
        go_ret
        exact ⟨rfl, HB16.out⟩
end Cw
end Go.Proofs.Ytgjiaajeionofaa
