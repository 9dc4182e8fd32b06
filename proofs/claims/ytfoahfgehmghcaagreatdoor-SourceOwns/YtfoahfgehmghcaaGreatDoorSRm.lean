/- Law room of package source: the walk. -/
import Derived.Test.YtfoahfgehmghcaaGreatDoorRLst
import Derived.Test.YtfoahfgehmghcaaGreatDoorURea
import Derived.Deep.DeepMust
import Derived.Deep.WholeRow
namespace Go.Proofs.YtfoahfgehmghcaaGreatDoor
namespace So
open Go.RowKit

/-- a plan with room -/
structure RoE (B : Nat) (w : World) (va fv : Value) (ys : List Gr.No) : Prop where
  nodes : w.ownsRow B 32 10 va ys.length (U.flat (ys.map (·.q)))
  ls : ∀ y ∈ ys, Ls2 B w y.q.ne y.nl 71 72 ∧ Ls2 B w y.q.af y.al 73 74
  full : w.ownsRow B 30 1 fv (2 * ys.length) (fes ys)
theorem Ls2.mk {B B2 : Nat} {w : World} {g cap : Nat} {z : List Int} {m1 m2 : Int} (h : w.ownsRow B2 3 1 (.slice (some ⟨g, 0, none⟩) (z.length + 2) cap) (z.length + 2) (zi z ++ [.int .i64 m1, .int .i64 m2])) (hB : B ≤ B2) : Ls2 B w (some ⟨g, 0, none⟩, z.length, cap) z m1 m2 := ⟨g, cap, rfl, ownsRow_base h hB⟩
theorem blk_two (w : World) (a b : Value) (t : TypeId) : (w.alloc (.cells #[a, b] t)).heap[w.heap.size]? = some (.cells #[a, b] t (0, 0)) := heap_alloc_new w _
set_option maxRecDepth 100000 in
set_option maxHeartbeats 4000000 in
theorem room_any (nm : ByteArray) (dl : Int) (s : Option Addr × Nat × Nat) (xs : List Gr.No) (w : World) (hP : Gr.RdP w.heap.size w s xs) (hc0 : s.1 = none → s.2.2 = 0) (hcp : ∀ x ∈ xs, (x.q.ne.1 = none → x.q.ne.2.2 = 0) ∧ (x.q.af.1 = none → x.q.af.2.2 = 0)) (hl : xs.length ≤ 20000) (hz : ∀ x ∈ xs, x.nl.length ≤ 20000 ∧ x.al.length ≤ 20000) :
    Calls Tryz.prog 6 #[.agg #[.string nm, .int .i64 dl, .slice s.1 s.2.1 s.2.2]] w fun e w' => ∃ va vc fa fc ys, e = .returned (.tuple #[.agg #[.string nm, .int .i64 dl, .slice va xs.length vc], .slice fa (2 * xs.length) fc]) ∧ ys.length = xs.length ∧ RoE w.heap.size w' (.slice va xs.length vc) (.slice fa (2 * xs.length) fc) ys ∧ ys.map U.er = xs.map U.er ∧ Below w.heap.size w w' := by
  obtain ⟨a, n, c⟩ := s
  have hn : n = xs.length := hP.1
  subst hn
  have HP := hide hP
  have HC0 := hide hc0
  have HCP := hide hcp
  have HZ := hide hz
  have HL := hide hl
  have k1 := Keep.alloc (fun _ => False) w (.cells #[.string nm, .int .i64 dl, .slice a xs.length c] 24)
  have b1 := heap_alloc_new w (.cells #[.string nm, .int .i64 dl, .slice a xs.length c] 24)
  have k2 := Keep.alloc (fun _ => False) (w.alloc (.cells #[.string nm, .int .i64 dl, .slice a xs.length c] 24)) (.cells #[.string ⟨#[]⟩, .int .i64 0, .slice none 0 0] 24)
  have b2 := heap_alloc_new (w.alloc (.cells #[.string nm, .int .i64 dl, .slice a xs.length c] 24)) (.cells #[.string ⟨#[]⟩, .int .i64 0, .slice none 0 0] 24)
  have k3 := Keep.alloc (fun _ => False) ((w.alloc (.cells #[.string nm, .int .i64 dl, .slice a xs.length c] 24)).alloc (.cells #[.string ⟨#[]⟩, .int .i64 0, .slice none 0 0] 24)) (.cells #[.string nm, .int .i64 dl, .slice a xs.length c] 24)
  have b3 := heap_alloc_new ((w.alloc (.cells #[.string nm, .int .i64 dl, .slice a xs.length c] 24)).alloc (.cells #[.string ⟨#[]⟩, .int .i64 0, .slice none 0 0] 24)) (.cells #[.string nm, .int .i64 dl, .slice a xs.length c] 24)
  have z1 : (w.alloc (.cells #[.string nm, .int .i64 dl, .slice a xs.length c] 24)).heap.size = w.heap.size + 1 := by simp
  have z2 : ((w.alloc (.cells #[.string nm, .int .i64 dl, .slice a xs.length c] 24)).alloc (.cells #[.string ⟨#[]⟩, .int .i64 0, .slice none 0 0] 24)).heap.size = w.heap.size + 1 + 1 := by simp
  rw [z1] at b2
  rw [z2] at b3
  have HB1 := hide (k3.blk (k2.blk b1 (fun f => f)) (fun f => f))
  have HB2 := hide (k3.blk b2 (fun f => f))
  have HB3 := hide b3
  have K3 := hide ((k1.more k2).more k3)
  clear k1 k2 k3 b1 b2 b3 z1 z2 hP hc0 hcp hz hl
  go_enter Tryz.func6, Tryz.ntmps6
  go_upto_region 2 with fail
  generalize ((w.alloc (.cells #[.string nm, .int .i64 dl, .slice a xs.length c] 24)).alloc (.cells #[.string ⟨#[]⟩, .int .i64 0, .slice none 0 0] 24)).alloc (.cells #[.string nm, .int .i64 dl, .slice a xs.length c] 24) = w3 at *
  generalize hB0 : w.heap.size = B at *
  have HB := hide hB0
  clear hB0
  have HP3 : Hid (Gr.RdP B w3 (a, xs.length, c) xs) := HP.out.keep K3.out fun _ f => f.elim
  have kE := Keep.alloc (fun _ => False) w3 (.cells #[] 32)
  have c2 := kE.cell (cell_blk HB1.out 2 (v := .slice a xs.length c) rfl) (fun f => f)
  have e2 := cell_blk HB1.out 2 (v := .slice a xs.length c) rfl
  have hn0 : xs.length ≤ 1048576 := by have := HL.out; omega
  clear kE
  go_upto_region 3 with (at_builtin; go_must (refine wp_cloneN rfl _ _ rfl rfl B (a, xs.length, c) xs rfl HP3.out HC0.out hn0 ?_); intro v' w5 ho hk; obtain ⟨va, vc, hv⟩ := ownsRow_shape ho; subst hv; have q2 := cell_blk (hk.blk HB3.out (fun f => f)) 2 (v := .slice a xs.length c) rfl; have q2f := frozen_blk (hk.blk HB3.out (fun f => f)) 2; have HO5 := hide ho; have K5 := hide hk; clear ho hk c2 e2)
  have I0 : Hid (RoI B nm dl (a, xs.length, c) w (w5.setCell ⟨B + 1 + 1, 2, none⟩ (.slice va xs.length vc)) (.slice va xs.length vc) (.slice none 0 0) [] xs) := by
    have kk := keep_cell w5 (B + 1 + 1) 2 (.slice va xs.length vc)
    have h3 := K5.out.blk HB3.out (fun f => f)
    have hs3 : B + 1 + 1 < w3.heap.size := (Array.getElem?_eq_some_iff.1 HB3.out).1
    refine ⟨kk.blk (K5.out.blk HB1.out (fun f => f)) (by omega), (set_blk h3 2 _).trans rfl, kk.blk (K5.out.blk HB2.out (fun f => f)) (by omega), ((K3.out.mono fun _ f => f.elim).more (K5.out.mono fun _ f => f.elim)).more (kk.mono fun q e => by omega), ?_, fun y hy => (by cases hy), World.ownsRow_nil _ _ _ _⟩
    have h4 : w5.ownsRow B 32 10 (.slice va xs.length vc) xs.length (U.flat (xs.map (·.q))) := ownsRow_base HO5.out (by omega)
    simp only [List.length_nil, Nat.zero_add, List.nil_append]
    exact U.own_keep h4 kk fun q hq e => by
      have := (HO5.out.lt q hq).1
      omega
  generalize w5.setCell ⟨B + 1 + 1, 2, none⟩ (.slice va xs.length vc) = w6 at *
  clear q2 q2f HO5 K5 HP3 HB1 HB2 HB3 K3 hn0
  have e2 := cell_blk I0.out.q 2 (v := .slice va xs.length vc) rfl
  go_wp2_with fail
  go_loopw [5, 6] (fun fv iv wr => ∃ (i m : Nat) (fa : Option Addr) (fc : Nat) (ys : List Gr.No), fv = .slice fa m fc ∧ iv = .int .i64 (i : Nat) ∧ i ≤ xs.length ∧ Hid (m = 2 * i ∧ ys.length = i ∧ ys.map U.er = (xs.take i).map U.er ∧ RoI B nm dl (a, xs.length, c) w wr (.slice va xs.length vc) (.slice fa m fc) ys (xs.drop i))) (fun _ iv _ => xs.length - (intOf iv).toNat)
  case atStart => exact ⟨0, 0, none, 0, [], rfl, rfl, by omega, rfl, rfl, rfl, I0.out⟩
  case round => as_aux_lemma =>
    clear I0 e2
    obtain ⟨i, m, fa, fc, ys, rfl, rfl, hi, HD⟩ := hrel
    obtain ⟨hm, hyl, hye, hR⟩ := HD.out
    have HM := hide hm
    have HYL := hide hyl
    have HYE := hide hye
    have HR := hide hR
    have q2 := cell_blk hR.q 2 (v := .slice va xs.length vc) rfl
    clear HD hm hyl hye hR
    by_cases hlt : i < xs.length
    · as_aux_lemma =>
      have hlt' : (i : Int) < (xs.length : Int) := by omega
      obtain ⟨g, off, x, ha, hg, hx, hN, hz1, hz2⟩ := (HP.out.keep HR.out.kp fun q h => by have := HB.out; omega).at hlt
      have ha2 : a = some ⟨g, off, none⟩ := ha
      clear ha
      subst ha2
      have HX := hide hx
      have hxm := List.mem_of_getElem? hx
      have HCx := hide (HCP.out x hxm)
      have hzx := HZ.out x hxm
      have HDr : Hid (xs.drop i = x :: xs.drop (i + 1)) := by
        obtain ⟨e1, e2⟩ := List.getElem?_eq_some_iff.1 hx
        show _ = _
        rw [List.drop_eq_getElem_cons e1, e2]
      have R0 : Hid (RoI B nm dl (some ⟨g, off, none⟩, xs.length, c) w wr (.slice va xs.length vc) (.slice fa m fc) ys (x :: xs.drop (i + 1))) := by
        have h1 := HR.out
        rw [HDr.out] at h1
        exact h1
      have HPx : Hid (∀ W, Keep (fun _ => False) wr W → Gr.NodeAt W g (off + i * 10) x.q ∧ Gr.RdZ B W x.q.ne x.nl ∧ Gr.RdZ B W x.q.af x.al) := fun W k => ⟨hN.keep k (fun f => f), hz1.keep k (fun _ f => f.elim), hz2.keep k (fun _ f => f.elim)⟩
      have HGB := hide hg
      have HER : Hid (∀ s1 s2, U.er ⟨{ x.q with ne := s1, af := s2 }, x.nl, x.al⟩ = U.er x) := fun _ _ => rfl
      obtain ⟨⟨nm', la, bu, cl, be, ba, ca, ji, ⟨ne1, ne2, ne3⟩, ⟨af1, af2, af3⟩⟩, nl, al⟩ := x
      have l1 : ne2 = nl.length := hz1.1
      have l2 : af2 = al.length := hz2.1
      subst l1 l2
      dsimp only at hzx HCx
      obtain ⟨hza, hzb⟩ := hzx
      clear hx hxm hN hz1 hz2 hg HR HDr
      have kE := Keep.alloc (fun _ => False) wr (.cells #[] 3)
      have p2 := cell_blk R0.out.p1 2 (v := .slice (some ⟨g, off, none⟩) xs.length c) rfl
      have p2e := kE.cell p2 (fun f => f)
      have n8 : (wr.alloc (.cells #[] 3)).cell? ⟨g, off + i * 10 + 8, none⟩ = some (.slice ne1 nl.length ne3) := (HPx.out _ kE).1 8 _ rfl
      have n8r : wr.cell? ⟨g, off + i * 10 + 8, none⟩ = some (.slice ne1 nl.length ne3) := (HPx.out _ (Keep.refl _ _)).1 8 _ rfl
      have HZA := hide (show nl.length ≤ 1048576 by omega)
      have HZB := hide (show al.length ≤ 1048576 by omega)
      clear kE hza hzb
      go_upto_region 8 with (first
        | (at_builtin; refine wp_cloneZ rfl _ _ rfl rfl B (ne1, nl.length, ne3) nl rfl (HPx.out _ (Keep.refl _ _)).2.1 HCx.out.1 HZA.out ?_; intro v' w5 ho hk; obtain ⟨a5, c5, hv⟩ := ownsRow_shape ho; subst hv; have HO5 := hide ho; have K5 := hide hk; clear ho hk p2 p2e n8 n8r q2)
        | (at_builtin; go_must (refine wp_app2I rfl _ _ rfl wr.heap.size (.slice a5 nl.length c5) nl.length (zi nl) rfl (ownsRow_new HO5.out (Keep.alloc _ _ _)) w5.heap.size (.int .i64 71) (.int .i64 72) rfl (blk_two w5 _ _ _) rfl rfl (by have := HZA.out; omega) (Nat.le_trans K5.out.size (Keep.alloc (fun _ => False) w5 (.cells #[.int .i64 71, .int .i64 72] 3)).size) ?_); intro v' w6 ho hk _; obtain ⟨g1, c1, hv⟩ := own_form ho (by omega); subst hv; have HO6 := hide ho; have K6 : Hid (Keep (fun _ => False) wr w6) := (K5.out.more (Keep.alloc _ _ _)).trans hk (fun q hq => .inr ((HO5.out.lt q hq).1)); clear ho hk))
      have p2 := K6.out.cell (cell_blk R0.out.p1 2 (v := .slice (some ⟨g, off, none⟩) xs.length c) rfl) (fun f => f)
      have kE := Keep.alloc (fun _ => False) w6 (.cells #[] 3)
      have p2e := kE.cell p2 (fun f => f)
      have n9 : (w6.alloc (.cells #[] 3)).cell? ⟨g, off + i * 10 + 9, none⟩ = some (.slice af1 al.length af3) := (HPx.out _ (K6.out.more kE)).1 9 _ rfl
      have n9r : w6.cell? ⟨g, off + i * 10 + 9, none⟩ = some (.slice af1 al.length af3) := (HPx.out _ K6.out).1 9 _ rfl
      clear kE HO5 K5
      go_upto_region 9 with (first
        | (at_builtin; refine wp_cloneZ rfl _ _ rfl rfl B (af1, al.length, af3) al rfl (HPx.out _ K6.out).2.2 HCx.out.2 HZB.out ?_; intro v' w7 ho hk; obtain ⟨a7, c7, hv⟩ := ownsRow_shape ho; subst hv; have HO7 := hide ho; have K7 := hide hk; clear ho hk p2 p2e n9 n9r)
        | (at_builtin; go_must (refine wp_app2I rfl _ _ rfl w6.heap.size (.slice a7 al.length c7) al.length (zi al) rfl (ownsRow_new HO7.out (Keep.alloc _ _ _)) w7.heap.size (.int .i64 73) (.int .i64 74) rfl (blk_two w7 _ _ _) rfl rfl (by have := HZB.out; omega) (Nat.le_trans K7.out.size (Keep.alloc (fun _ => False) w7 (.cells #[.int .i64 73, .int .i64 74] 3)).size) ?_); intro v' w8 ho hk _; obtain ⟨g2, c2, hv⟩ := own_form ho (by omega); subst hv; have HO8 := hide ho; have K8 : Hid (Keep (fun _ => False) w6 w8) := (K7.out.more (Keep.alloc _ _ _)).trans hk (fun q hq => .inr ((HO7.out.lt q hq).1)); clear ho hk))
      have R8 := hide ((R0.out.new K6.out).new K8.out)
      have hBw : B ≤ wr.heap.size := by
        have h1 := R0.out.kp.size
        have h2 := HB.out
        omega
      have hBw6 : B ≤ w6.heap.size := Nat.le_trans hBw K6.out.size
      have L1 : Hid (Ls2 B w8 (some ⟨g1, 0, none⟩, nl.length, c1) nl 71 72) := Ls2.mk (ownsRow_new HO6.out K8.out) hBw
      have L2 : Hid (Ls2 B w8 (some ⟨g2, 0, none⟩, al.length, c2) al 73 74) := Ls2.mk HO8.out hBw6
      have hc1 := own_cap HO6.out
      have hc2 := own_cap HO8.out
      have HPw := hide (HPx.out _ (K6.out.more K8.out)).1
      obtain ⟨gq, cq, hgq⟩ := own_form R8.out.nodes (by simp; omega)
      injection hgq with hg1 hg2 hg3
      subst hg1
      clear hg2 hg3
      have hgB : B ≤ gq := (R8.out.nodes.lt gq rfl).1
      have hgg : g ≠ gq := by have := HGB.out; omega
      have HGG := hide hgg
      have hb1 : nl.length ≤ c1 := by omega
      have hb2 : al.length ≤ c2 := by omega
      have HB2' := hide hb2
      clear hBw hBw6 hgB hgg hc1 hc2 HO7 K7 hb2
      have kD : Keep (fun _ => False) w8 w8.drew := Keep.drew _ _
      obtain ⟨R9, ⟨old, hold⟩, hfr⟩ := (R8.out.new kD).put rfl (j := 8) (v := .slice (some ⟨g1, 0, none⟩) nl.length c1) (x2 := ⟨⟨nm', la, bu, cl, be, ba, ca, ji, (some ⟨g1, 0, none⟩, nl.length, c1), (af1, al.length, af3)⟩, nl, al⟩) (by omega) rfl
      rw [HYL.out] at hold hfr R9
      have L1' := hide ((L1.out.keep kD (fun _ _ f => f.elim)).keep (keep_cell w8.drew gq (i * 10 + 8) (.slice (some ⟨g1, 0, none⟩) nl.length c1)) ((R8.out.new kD).notI rfl))
      have L2' := hide ((L2.out.keep kD (fun _ _ f => f.elim)).keep (keep_cell w8.drew gq (i * 10 + 8) (.slice (some ⟨g1, 0, none⟩) nl.length c1)) ((R8.out.new kD).notI rfl))
      have HPw' := hide ((HPw.out.keep kD (fun f => f)).keep (keep_cell w8.drew gq (i * 10 + 8) (.slice (some ⟨g1, 0, none⟩) nl.length c1)) HGG.out)
      have R9' := hide R9
      have hold8 : w8.cell? ⟨gq, i * 10 + 8, none⟩ = some old := hold
      have hfr8 : w8.frozen? ⟨gq, i * 10 + 8, none⟩ = false := hfr
      have p2 := cell_blk R8.out.p1 2 (v := .slice (some ⟨g, off, none⟩) xs.length c) rfl
      have q2 := cell_blk R8.out.q 2 (v := .slice (some ⟨gq, 0, none⟩) xs.length vc) rfl
      have n8 : w8.cell? ⟨g, off + i * 10 + 8, none⟩ = some (.slice ne1 nl.length ne3) := HPw.out 8 _ rfl
      clear kD R9 R8 L1 L2 HPw hold hfr K8 K6 HO6 HO8 R0 HPx HCx
      have hsl := slice_hi_runI (some ⟨g1, 0, none⟩) (nl.length + 2) c1 nl.length hb1
      clear hb1
      refine RL.wp_region_held_last (S := fun W : World => W.cell? ⟨B, 2, none⟩ = some (.slice (some ⟨g, off, none⟩) xs.length c) ∧ W.cell? ⟨B + 1 + 1, 2, none⟩ = some (.slice (some ⟨gq, 0, none⟩) xs.length vc) ∧ W.cell? ⟨g, off + i * 10 + 8, none⟩ = some (.slice ne1 nl.length ne3)) rfl (by kernel_rfl) (by kernel_rfl) ⟨p2, q2, n8⟩ (fun hHeld => ?_)
      change wpAnyH _ _ _ _ _ 15 (Array.replicate 15 false) _ _
      simp only [List.dropLast, List.getLast, List.cons_append, List.nil_append, RL.still]
      refine wpAnyH_take (i := 0) (oi := _) (v := ?_) rfl (by kernel_rfl) (by kernel_rfl) (by kernel_rfl) (fun _ _ _ h => h) (Or.inl ⟨by rfl, ?_⟩) (by assumption) ?_
      rotate_left
      · (intro w hSw; (try dsimp only at hSw); go_simp)
        all_goals with_reducible rfl
      go_simp
      refine wpAnyH_take (i := 1) (oi := _) (v := ?_) rfl (by kernel_rfl) (by kernel_rfl) (by kernel_rfl) (fun _ _ _ h => h) (Or.inl ⟨by rfl, ?_⟩) (by assumption) ?_
      rotate_left
      · (intro w hSw; (try dsimp only at hSw); go_simp)
        all_goals with_reducible rfl
      go_simp
      refine wpAnyH_take (i := 2) (oi := _) (v := ?_) rfl (by kernel_rfl) (by kernel_rfl) (by kernel_rfl) (fun _ _ _ h => h) (Or.inl ⟨by rfl, ?_⟩) (by assumption) ?_
      rotate_left
      · (intro w hSw; (try dsimp only at hSw); go_simp)
        all_goals with_reducible rfl
      go_simp
      refine wpAnyH_take (i := 3) (oi := _) (v := ?_) rfl (by kernel_rfl) (by kernel_rfl) (by kernel_rfl) (fun _ _ _ h => h) (Or.inl ⟨by rfl, ?_⟩) (by assumption) ?_
      rotate_left
      · (intro w hSw; (try dsimp only at hSw); go_simp)
        all_goals with_reducible rfl
      go_simp
      refine wpAnyH_take (i := 4) (oi := _) (v := ?_) rfl (by kernel_rfl) (by kernel_rfl) (by kernel_rfl) (fun _ _ _ h => h) (Or.inl ⟨by rfl, ?_⟩) (by assumption) ?_
      rotate_left
      · (intro w hSw; (try dsimp only at hSw); go_simp)
        all_goals with_reducible rfl
      go_simp
      refine wpAnyH_take (i := 5) (oi := _) (v := ?_) rfl (by kernel_rfl) (by kernel_rfl) (by kernel_rfl) (fun _ _ _ h => h) (Or.inl ⟨by rfl, ?_⟩) (by assumption) ?_
      rotate_left
      · (intro w hSw; (try dsimp only at hSw); go_simp)
        all_goals with_reducible rfl
      go_simp
      refine wpAnyH_take (i := 6) (oi := _) (v := ?_) rfl (by kernel_rfl) (by kernel_rfl) (by kernel_rfl) (fun _ _ _ h => h) (Or.inl ⟨by rfl, ?_⟩) (by assumption) ?_
      rotate_left
      · (intro w hSw; (try dsimp only at hSw); go_simp)
        all_goals with_reducible rfl
      go_simp
      refine wpAnyH_take (i := 7) (oi := _) (v := ?_) rfl (by kernel_rfl) (by kernel_rfl) (by kernel_rfl) (fun _ _ _ h => h) (Or.inl ⟨by rfl, ?_⟩) (by assumption) ?_
      rotate_left
      · (intro w hSw; (try dsimp only at hSw); go_simp)
        all_goals with_reducible rfl
      go_simp
      refine wpAnyH_take (i := 8) (oi := _) (v := ?_) rfl (by kernel_rfl) (by kernel_rfl) (by kernel_rfl) (fun _ _ _ h => h) (Or.inl ⟨by rfl, ?_⟩) (by assumption) ?_
      rotate_left
      · (intro w hSw; (try dsimp only at hSw); go_simp)
        all_goals with_reducible rfl
      go_simp
      refine wpAnyH_take (i := 9) (oi := _) (v := ?_) rfl (by kernel_rfl) (by kernel_rfl) (by kernel_rfl) (fun _ _ _ h => h) (Or.inl ⟨by rfl, ?_⟩) (by assumption) ?_
      rotate_left
      · (intro w hSw; (try dsimp only at hSw); go_simp)
        all_goals with_reducible rfl
      go_simp
      refine wpAnyH_take (i := 10) (oi := _) (v := ?_) rfl (by kernel_rfl) (by kernel_rfl) (by kernel_rfl) (fun _ _ _ h => h) (Or.inl ⟨by rfl, ?_⟩) (by assumption) ?_
      rotate_left
      · (intro w hSw; (try dsimp only at hSw); go_simp)
        all_goals with_reducible rfl
      go_simp
      refine wpAnyH_take (i := 11) (oi := _) (v := ?_) rfl (by kernel_rfl) (by kernel_rfl) (by kernel_rfl) (fun _ _ _ h => h) (Or.inl ⟨by rfl, ?_⟩) (by assumption) ?_
      rotate_left
      · (intro w hSw; (try dsimp only at hSw); go_simp)
        all_goals with_reducible rfl
      go_simp
      refine wpAnyH_take (i := 12) (oi := _) (v := ?_) rfl (by kernel_rfl) (by kernel_rfl) (by kernel_rfl) (fun _ _ _ h => h) (Or.inl ⟨by rfl, ?_⟩) (by assumption) ?_
      rotate_left
      · (intro w hSw; (try dsimp only at hSw); go_simp)
        all_goals with_reducible rfl
      go_simp
      refine wpAnyH_take (i := 13) (oi := _) (v := ?_) rfl (by kernel_rfl) (by kernel_rfl) (by kernel_rfl) (fun _ _ _ h => h) (Or.inl ⟨by rfl, ?_⟩) (by assumption) ?_
      rotate_left
      · (intro w hSw; (try dsimp only at hSw); go_simp)
        all_goals with_reducible rfl
      go_simp
      refine wpAnyH_take (i := 14) (oi := _) (v := ?_) rfl (by kernel_rfl) (by kernel_rfl) (by kernel_rfl) (fun _ _ _ h => h) (Or.inl ⟨by rfl, ?_⟩) (by assumption) ?_
      rotate_left
      · (intro w hSw; (try dsimp only at hSw); go_simp)
        all_goals with_reducible rfl
      go_simp
      refine wpAnyH_done (by kernel_rfl) ?_ _
      simp only [RL.endQ]
      have d1 : w8.drew.cell? ⟨gq, i * 10 + 8, none⟩ = some old := hold8
      have d2 : w8.drew.frozen? ⟨gq, i * 10 + 8, none⟩ = false := hfr8
      unfold Oper.wp
      go_simp
      clear d1 d2 hHeld
      clear hold8 hfr8 p2 q2 n8 hsl
      have e9 : (w8.setCell ⟨gq, i * 10 + 8, none⟩ (.slice (some ⟨g1, 0, none⟩) nl.length c1)).drew = w8.drew.setCell ⟨gq, i * 10 + 8, none⟩ (.slice (some ⟨g1, 0, none⟩) nl.length c1) := rfl
      rw [e9]
      clear e9
      generalize w8.drew.setCell ⟨gq, i * 10 + 8, none⟩ (.slice (some ⟨g1, 0, none⟩) nl.length c1) = w9 at *
      have kD : Keep (fun _ => False) w9 w9.drew := Keep.drew _ _
      obtain ⟨R10, ⟨old, hold⟩, hfr⟩ := (R9'.out.new kD).put rfl (j := 9) (v := .slice (some ⟨g2, 0, none⟩) al.length c2) (x2 := ⟨⟨nm', la, bu, cl, be, ba, ca, ji, (some ⟨g1, 0, none⟩, nl.length, c1), (some ⟨g2, 0, none⟩, al.length, c2)⟩, nl, al⟩) (by omega) rfl
      rw [HYL.out] at hold hfr R10
      have L1 := hide ((L1'.out.keep kD (fun _ _ f => f.elim)).keep (keep_cell w9.drew gq (i * 10 + 9) (.slice (some ⟨g2, 0, none⟩) al.length c2)) ((R9'.out.new kD).notI rfl))
      have L2 := hide ((L2'.out.keep kD (fun _ _ f => f.elim)).keep (keep_cell w9.drew gq (i * 10 + 9) (.slice (some ⟨g2, 0, none⟩) al.length c2)) ((R9'.out.new kD).notI rfl))
      have R10' := hide R10
      have hold9 : w9.cell? ⟨gq, i * 10 + 9, none⟩ = some old := hold
      have hfr9 : w9.frozen? ⟨gq, i * 10 + 9, none⟩ = false := hfr
      have p2 := cell_blk R9'.out.p1 2 (v := .slice (some ⟨g, off, none⟩) xs.length c) rfl
      have q2 := cell_blk R9'.out.q 2 (v := .slice (some ⟨gq, 0, none⟩) xs.length vc) rfl
      have n9 : w9.cell? ⟨g, off + i * 10 + 9, none⟩ = some (.slice af1 al.length af3) := HPw'.out 9 _ rfl
      have hb2 := HB2'.out
      clear kD R10 R9' L1' L2' HPw' hold hfr HB2'
      have hsl := slice_hi_runI (some ⟨g2, 0, none⟩) (al.length + 2) c2 al.length hb2
      clear hb2
      go_upto_region 10 with fail
      refine RL.wp_region_held_last (S := fun W : World => W.cell? ⟨B, 2, none⟩ = some (.slice (some ⟨g, off, none⟩) xs.length c) ∧ W.cell? ⟨B + 1 + 1, 2, none⟩ = some (.slice (some ⟨gq, 0, none⟩) xs.length vc) ∧ W.cell? ⟨g, off + i * 10 + 9, none⟩ = some (.slice af1 al.length af3)) rfl (by kernel_rfl) (by kernel_rfl) ⟨p2, q2, n9⟩ (fun hHeld => ?_)
      change wpAnyH _ _ _ _ _ 15 (Array.replicate 15 false) _ _
      simp only [List.dropLast, List.getLast, List.cons_append, List.nil_append, RL.still]
      refine wpAnyH_take (i := 0) (oi := _) (v := ?_) rfl (by kernel_rfl) (by kernel_rfl) (by kernel_rfl) (fun _ _ _ h => h) (Or.inl ⟨by rfl, ?_⟩) (by assumption) ?_
      rotate_left
      · (intro w hSw; (try dsimp only at hSw); go_simp)
        all_goals with_reducible rfl
      go_simp
      refine wpAnyH_take (i := 1) (oi := _) (v := ?_) rfl (by kernel_rfl) (by kernel_rfl) (by kernel_rfl) (fun _ _ _ h => h) (Or.inl ⟨by rfl, ?_⟩) (by assumption) ?_
      rotate_left
      · (intro w hSw; (try dsimp only at hSw); go_simp)
        all_goals with_reducible rfl
      go_simp
      refine wpAnyH_take (i := 2) (oi := _) (v := ?_) rfl (by kernel_rfl) (by kernel_rfl) (by kernel_rfl) (fun _ _ _ h => h) (Or.inl ⟨by rfl, ?_⟩) (by assumption) ?_
      rotate_left
      · (intro w hSw; (try dsimp only at hSw); go_simp)
        all_goals with_reducible rfl
      go_simp
      refine wpAnyH_take (i := 3) (oi := _) (v := ?_) rfl (by kernel_rfl) (by kernel_rfl) (by kernel_rfl) (fun _ _ _ h => h) (Or.inl ⟨by rfl, ?_⟩) (by assumption) ?_
      rotate_left
      · (intro w hSw; (try dsimp only at hSw); go_simp)
        all_goals with_reducible rfl
      go_simp
      refine wpAnyH_take (i := 4) (oi := _) (v := ?_) rfl (by kernel_rfl) (by kernel_rfl) (by kernel_rfl) (fun _ _ _ h => h) (Or.inl ⟨by rfl, ?_⟩) (by assumption) ?_
      rotate_left
      · (intro w hSw; (try dsimp only at hSw); go_simp)
        all_goals with_reducible rfl
      go_simp
      refine wpAnyH_take (i := 5) (oi := _) (v := ?_) rfl (by kernel_rfl) (by kernel_rfl) (by kernel_rfl) (fun _ _ _ h => h) (Or.inl ⟨by rfl, ?_⟩) (by assumption) ?_
      rotate_left
      · (intro w hSw; (try dsimp only at hSw); go_simp)
        all_goals with_reducible rfl
      go_simp
      refine wpAnyH_take (i := 6) (oi := _) (v := ?_) rfl (by kernel_rfl) (by kernel_rfl) (by kernel_rfl) (fun _ _ _ h => h) (Or.inl ⟨by rfl, ?_⟩) (by assumption) ?_
      rotate_left
      · (intro w hSw; (try dsimp only at hSw); go_simp)
        all_goals with_reducible rfl
      go_simp
      refine wpAnyH_take (i := 7) (oi := _) (v := ?_) rfl (by kernel_rfl) (by kernel_rfl) (by kernel_rfl) (fun _ _ _ h => h) (Or.inl ⟨by rfl, ?_⟩) (by assumption) ?_
      rotate_left
      · (intro w hSw; (try dsimp only at hSw); go_simp)
        all_goals with_reducible rfl
      go_simp
      refine wpAnyH_take (i := 8) (oi := _) (v := ?_) rfl (by kernel_rfl) (by kernel_rfl) (by kernel_rfl) (fun _ _ _ h => h) (Or.inl ⟨by rfl, ?_⟩) (by assumption) ?_
      rotate_left
      · (intro w hSw; (try dsimp only at hSw); go_simp)
        all_goals with_reducible rfl
      go_simp
      refine wpAnyH_take (i := 9) (oi := _) (v := ?_) rfl (by kernel_rfl) (by kernel_rfl) (by kernel_rfl) (fun _ _ _ h => h) (Or.inl ⟨by rfl, ?_⟩) (by assumption) ?_
      rotate_left
      · (intro w hSw; (try dsimp only at hSw); go_simp)
        all_goals with_reducible rfl
      go_simp
      refine wpAnyH_take (i := 10) (oi := _) (v := ?_) rfl (by kernel_rfl) (by kernel_rfl) (by kernel_rfl) (fun _ _ _ h => h) (Or.inl ⟨by rfl, ?_⟩) (by assumption) ?_
      rotate_left
      · (intro w hSw; (try dsimp only at hSw); go_simp)
        all_goals with_reducible rfl
      go_simp
      refine wpAnyH_take (i := 11) (oi := _) (v := ?_) rfl (by kernel_rfl) (by kernel_rfl) (by kernel_rfl) (fun _ _ _ h => h) (Or.inl ⟨by rfl, ?_⟩) (by assumption) ?_
      rotate_left
      · (intro w hSw; (try dsimp only at hSw); go_simp)
        all_goals with_reducible rfl
      go_simp
      refine wpAnyH_take (i := 12) (oi := _) (v := ?_) rfl (by kernel_rfl) (by kernel_rfl) (by kernel_rfl) (fun _ _ _ h => h) (Or.inl ⟨by rfl, ?_⟩) (by assumption) ?_
      rotate_left
      · (intro w hSw; (try dsimp only at hSw); go_simp)
        all_goals with_reducible rfl
      go_simp
      refine wpAnyH_take (i := 13) (oi := _) (v := ?_) rfl (by kernel_rfl) (by kernel_rfl) (by kernel_rfl) (fun _ _ _ h => h) (Or.inl ⟨by rfl, ?_⟩) (by assumption) ?_
      rotate_left
      · (intro w hSw; (try dsimp only at hSw); go_simp)
        all_goals with_reducible rfl
      go_simp
      refine wpAnyH_take (i := 14) (oi := _) (v := ?_) rfl (by kernel_rfl) (by kernel_rfl) (by kernel_rfl) (fun _ _ _ h => h) (Or.inl ⟨by rfl, ?_⟩) (by assumption) ?_
      rotate_left
      · (intro w hSw; (try dsimp only at hSw); go_simp)
        all_goals with_reducible rfl
      go_simp
      refine wpAnyH_done (by kernel_rfl) ?_ _
      simp only [RL.endQ]
      have d1 : w9.drew.cell? ⟨gq, i * 10 + 9, none⟩ = some old := hold9
      have d2 : w9.drew.frozen? ⟨gq, i * 10 + 9, none⟩ = false := hfr9
      unfold Oper.wp
      go_simp
      clear d1 d2 hHeld
      clear hold9 hfr9 p2 q2 n9 hsl
      have e9 : (w9.setCell ⟨gq, i * 10 + 9, none⟩ (.slice (some ⟨g2, 0, none⟩) al.length c2)).drew = w9.drew.setCell ⟨gq, i * 10 + 9, none⟩ (.slice (some ⟨g2, 0, none⟩) al.length c2) := rfl
      rw [e9]
      clear e9
      generalize w9.drew.setCell ⟨gq, i * 10 + 9, none⟩ (.slice (some ⟨g2, 0, none⟩) al.length c2) = w10 at *
      have kA : Keep (fun _ => False) w10 (w10.alloc (.cells #[.slice (some ⟨g1, 0, none⟩) (nl.length + 2) c1, .slice (some ⟨g2, 0, none⟩) (al.length + 2) c2] 30)) := Keep.alloc _ _ _
      have R11 := hide (R10'.out.new kA)
      have L11 := hide (L1.out.keep kA (fun _ _ f => f.elim))
      have L12 := hide (L2.out.keep kA (fun _ _ f => f.elim))
      have HF : Hid ((w10.alloc (.cells #[.slice (some ⟨g1, 0, none⟩) (nl.length + 2) c1, .slice (some ⟨g2, 0, none⟩) (al.length + 2) c2] 30)).ownsRow B 30 1 (.slice fa m fc) m (fes ys)) := by
        have h1 := R11.out.full
        rw [HYL.out, ← HM.out] at h1
        exact h1
      have hmb : m + 2 ≤ 1000000000 := by
        have h1 := HM.out
        have h2 := HL.out
        omega
      have hbs : B ≤ (w10.alloc (.cells #[.slice (some ⟨g1, 0, none⟩) (nl.length + 2) c1, .slice (some ⟨g2, 0, none⟩) (al.length + 2) c2] 30)).heap.size := by
        have h1 := R11.out.kp.size
        have h2 := HB.out
        omega
      have HBs := hide hbs
      clear R10' L1 L2 kA hbs
      have hwi : IntKind.i64.wrap ((i : Int) + 1) = (i : Int) + 1 := by rw [IntKind.wrap_i64]; have := HL.out; omega
      go_wp2_with (at_builtin; go_must (refine wp_app2L rfl _ _ rfl B (.slice fa m fc) m (fes ys) rfl HF.out w10.heap.size (.slice (some ⟨g1, 0, none⟩) (nl.length + 2) c1) (.slice (some ⟨g2, 0, none⟩) (al.length + 2) c2) rfl (blk_two w10 _ _ _) rfl rfl hmb HBs.out ?_); intro v' w11 ho hk _; obtain ⟨fa2, fc2, hv⟩ := ownsRow_shape ho; subst hv; have HO := hide ho; have HK := hide hk; clear ho hk)
      have N1 : Hid (RoI B nm dl (some ⟨g, off, none⟩, xs.length, c) w w11 (.slice (some ⟨gq, 0, none⟩) xs.length vc) (.slice fa2 (m + 2) fc2) (ys ++ [⟨⟨nm', la, bu, cl, be, ba, ca, ji, (some ⟨g1, 0, none⟩, nl.length, c1), (some ⟨g2, 0, none⟩, al.length, c2)⟩, nl, al⟩]) (xs.drop (i + 1))) := by
        refine R11.out.done L11.out L12.out ?_ HK.out
        have h1 := HO.out
        have h2 : m + 2 = 2 * ys.length + 2 := by
          have e1 := HYL.out
          have e2 := HM.out
          omega
        rw [h2] at h1 ⊢
        exact h1
      have NE : Hid ((ys ++ [(⟨⟨nm', la, bu, cl, be, ba, ca, ji, (some ⟨g1, 0, none⟩, nl.length, c1), (some ⟨g2, 0, none⟩, al.length, c2)⟩, nl, al⟩ : Gr.No)]).map U.er = (xs.take (i + 1)).map U.er) := by
        show _ = _
        rw [Gr.take_snoc _ _ _ HX.out, List.map_append, List.map_append, HYE.out]
        rfl
      clear R11 L11 L12 HF HBs HO HK hmb hwi
      go_roundw
      · exact ⟨i + 1, m + 2, fa2, fc2, _, rfl, rfl, by omega, by have := HM.out; omega, by have := HYL.out; simp; omega, NE.out, N1.out⟩
      · show xs.length - ((i : Int) + 1).toNat < xs.length - (i : Int).toNat
        omega
    · as_aux_lemma =>
      have hge : ¬ ((i : Int) < (xs.length : Int)) := by omega
      have hie : i = xs.length := by omega
      have R1 : Hid (RoI B nm dl (a, xs.length, c) w wr (.slice va xs.length vc) (.slice fa m fc) ys []) := by
        have h1 := HR.out
        rw [List.drop_eq_nil_of_le (by omega)] at h1
        exact h1
      have q0 := cell_blk R1.out.q 0 (v := .string nm) rfl
      have q1 := cell_blk R1.out.q 1 (v := .int .i64 dl) rfl
      have r0 := cell_blk R1.out.r 0 (v := .string ⟨#[]⟩) rfl
      have r1 := cell_blk R1.out.r 1 (v := .int .i64 0) rfl
      have r2 := cell_blk R1.out.r 2 (v := .slice none 0 0) rfl
      have r0f := frozen_blk R1.out.r 0
      have r1f := frozen_blk R1.out.r 1
      have r2f := frozen_blk R1.out.r 2
      clear HR
      go_wp2_with fail
      refine bodyPost_ret (U.res_read rfl _ _ (B + 1) _ _ _ rfl (U.put3_blk R1.out.r _ _ _)) rfl ?_
      have kk := U.put3_keep wr (B + 1) (.string nm) (.int .i64 dl) (.slice va xs.length vc)
      have hyx : ys.length = xs.length := HYL.out.trans hie
      have hm2 : m = 2 * xs.length := by rw [HM.out, hie]
      have hne : ∀ {t : TypeId} {q : Nat} {cs : Array Value}, t ≠ 24 → wr.heap[q]? = some (.cells cs t (0, 0)) → q ≠ B + 1 := fun ht hc e => by
        rw [e, R1.out.r] at hc
        injection hc with hc
        injection hc with _ hc
        exact ht hc.symm
      have hint : ∀ q cur, q = B + 1 → wr.heap[q]? ≠ some (.cells cur 3 (0, 0)) := fun q cur e hc => hne (by decide) hc e
      refine ⟨va, vc, fa, fc, (by rw [← hm2]; rfl), ys, hyx, ?_, ?_, ?_⟩
      · rw [← hm2, HB.out]
        have hn := R1.out.nodes
        have hf := R1.out.full
        simp only [List.append_nil, List.length_nil, Nat.add_zero] at hn
        refine ⟨U.own_keep hn kk fun q hq e => ?_, fun y hy => ⟨(R1.out.ls y hy).1.keep kk hint, (R1.out.ls y hy).2.keep kk hint⟩, U.own_keep hf kk fun q hq e => ?_⟩
        · obtain ⟨_, _, cur, hcur⟩ := U.own_blk hn hq
          exact hne (by decide) hcur e
        · obtain ⟨_, _, cur, hcur⟩ := U.own_blk hf hq
          exact hne (by decide) hcur e
      · rw [HYE.out, hie, List.take_length]
      · exact (R1.out.kp.more (kk.mono fun q e => by omega)).below (Nat.le_refl _) (fun q h => by rw [HB.out]; exact h)
end So
end Go.Proofs.YtfoahfgehmghcaaGreatDoor
