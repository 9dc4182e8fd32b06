/- Law SourceOwns: the walk. -/
import Derived.Test.YtfoahfgehmghcaaGreatDoorSOu
import Derived.Test.YtfoahfgehmghcaaGreatDoorUKno
import Derived.Test.YtfoahfgehmghcaaGreatDoorUTrT
import Derived.Test.YtfoahfgehmghcaaGreatDoorUSpP
import Derived.Test.YtfoahfgehmghcaaGreatDoorRSma
namespace Go.Proofs.YtfoahfgehmghcaaGreatDoor
namespace So
open Go.RowKit

theorem few_lens {xs : List Gr.No} (h : xs.length + Gr.edges xs ≤ 20000) : xs.length ≤ 20000 ∧ ∀ x ∈ xs, x.nl.length ≤ 20000 ∧ x.al.length ≤ 20000 := by
  have key : ∀ {xs : List Gr.No} {x : Gr.No}, x ∈ xs → x.nl.length + x.al.length ≤ Gr.edges xs := fun {xs x} hx => by
    induction xs with
    | nil => cases hx
    | cons y ys ih =>
      rcases List.mem_cons.1 hx with rfl | hx
      · simp [Gr.edges]
      · have := ih hx
        simp [Gr.edges] at this ⊢
        omega
  exact ⟨by omega, fun x hx => by have := key hx; omega⟩
theorem sz_er {nm : ByteArray} {xs ys : List Gr.No} (h : Gr.Sz nm xs) (he : ys.map U.er = xs.map U.er) : Gr.Sz nm ys := ⟨h.1, fun y hy => by
  have h1 : U.er y ∈ xs.map U.er := by rw [← he]; exact List.mem_map_of_mem hy
  obtain ⟨x, hx, e⟩ := List.mem_map.1 h1
  have h2 := congrArg (fun z : Gr.No => z.q.nm) e
  have h2 : x.q.nm = y.q.nm := h2
  rw [← h2]
  exact h.2 x hx⟩
set_option maxRecDepth 100000 in
set_option maxHeartbeats 8000000 in
theorem owns_walk (nm : List UInt8) (dl : Int) (a : Option Addr) (n c : Nat) (xs : List Gr.No) (nm2 : ByteArray) (dl2 : Int) (a2 : Option Addr) (n2 c2 : Nat) (xs2 : List Gr.No) (w : World) (hP : Gr.RdP w.heap.size w (a, n, c) xs) (hs : Gr.Sz (U.ba nm) xs) (hcp : ∀ x ∈ xs, (x.q.ne.1 = none → x.q.ne.2.2 = 0) ∧ (x.q.af.1 = none → x.q.af.2.2 = 0)) (hc0 : a = none → c = 0)
    (hP2 : Gr.RdP w.heap.size w (a2, n2, c2) xs2) (hs2 : Gr.Sz nm2 xs2) (hcp2 : ∀ x ∈ xs2, (x.q.ne.1 = none → x.q.ne.2.2 = 0) ∧ (x.q.af.1 = none → x.q.af.2.2 = 0)) (hc02 : a2 = none → c2 = 0) (hA : U.EnvA w) (hI : U.EnvI w) :
    Calls Tryz.prog 3 #[.agg #[.string (U.ba nm), .int .i64 dl, .slice a n c], .agg #[.string nm2, .int .i64 dl2, .slice a2 n2 c2]] w fun e w' => e = .returned (.bool true) ∧ Below w.heap.size w w' := by
  have hn : n = xs.length := hP.1
  have hn2 : n2 = xs2.length := hP2.1
  subst hn hn2
  have KN := hide U.known_any
  have SM1 := hide (fun B W h => Gr.small_any (U.ba nm) dl (a, xs.length, c) xs B W h)
  have SM2 := hide (fun B W h => Gr.small_any nm2 dl2 (a2, xs2.length, c2) xs2 B W h)
  have RM1 := hide (fun W h hl hz => room_any (U.ba nm) dl (a, xs.length, c) xs W h hc0 hcp hl hz)
  have RM2 := hide (fun W h hl hz => room_any nm2 dl2 (a2, xs2.length, c2) xs2 W h hc02 hcp2 hl hz)
  have MK := hide (fun W h hl hz => marked_any (U.ba nm) dl (a, xs.length, c) xs W h hc0 hcp hl hz)
  have TXg := hide (fun (s : Option Addr × Nat × Nat) (ys : List Gr.No) (W : World) (h : Gr.RdP W.heap.size W s ys) (hE : U.EnvI W) (hz : Gr.Sz (U.ba nm) ys) => U.text_any nm dl s ys W.heap.size W h (Nat.le_refl _) hE hz)
  have RCg := hide (fun (s : Option Addr × Nat × Nat) (ys : List Gr.No) (W : World) (h : Gr.RdP W.heap.size W s ys) (hz : Gr.Sz (U.ba nm) ys) => U.Tr.refText_any nm dl s ys W.heap.size W h (Nat.le_refl _) hz)
  have HTe : Hid (∀ xs ys : List Gr.No, xs.map U.er = ys.map U.er → U.txt nm dl xs = U.txt nm dl ys ∧ Gr.chk (U.ba nm) dl xs = Gr.chk (U.ba nm) dl ys) := fun xs ys h => ⟨by rw [← U.txt_er nm dl xs, h, U.txt_er], by rw [← U.chk_er (U.ba nm) dl xs, h, U.chk_er]⟩
  have HTl := hide (txt_len nm dl)
  have HSz := hide hs
  have HSz2 := hide hs2
  have b1 := heap_alloc_new w (.cells #[.string (U.ba nm), .int .i64 dl, .slice a xs.length c] 24)
  have b2 := heap_alloc_new (w.alloc (.cells #[.string (U.ba nm), .int .i64 dl, .slice a xs.length c] 24)) (.cells #[.string nm2, .int .i64 dl2, .slice a2 xs2.length c2] 24)
  have z1 : (w.alloc (.cells #[.string (U.ba nm), .int .i64 dl, .slice a xs.length c] 24)).heap.size = w.heap.size + 1 := by simp
  have z2 : ((w.alloc (.cells #[.string (U.ba nm), .int .i64 dl, .slice a xs.length c] 24)).alloc (.cells #[.string nm2, .int .i64 dl2, .slice a2 xs2.length c2] 24)).heap.size = w.heap.size + 1 + 1 := by simp
  rw [z1] at b2
  have bb := ((Below.refl w.heap.size w).alloc (Nat.le_refl _) (.cells #[.string (U.ba nm), .int .i64 dl, .slice a xs.length c] 24)).alloc (by simp) (.cells #[.string nm2, .int .i64 dl2, .slice a2 xs2.length c2] 24)
  have b1' := (Below.heap_alloc (w.alloc (.cells #[.string (U.ba nm), .int .i64 dl, .slice a xs.length c] 24)) (.cells #[.string nm2, .int .i64 dl2, .slice a2 xs2.length c2] 24) w.heap.size (by simp)).trans b1
  generalize hNM : U.ba nm = NM at *
  generalize hA0 : w.heap.size = A at *
  have HM : Hid (∀ W, Below (A + 1 + 1) ((w.alloc (.cells #[.string NM, .int .i64 dl, .slice a xs.length c] 24)).alloc (.cells #[.string nm2, .int .i64 dl2, .slice a2 xs2.length c2] 24)) W → (W.cell? ⟨A, 0, none⟩ = some (.string NM) ∧ W.cell? ⟨A, 1, none⟩ = some (.int .i64 dl) ∧ W.cell? ⟨A, 2, none⟩ = some (.slice a xs.length c)) ∧ (W.cell? ⟨A + 1, 0, none⟩ = some (.string nm2) ∧ W.cell? ⟨A + 1, 1, none⟩ = some (.int .i64 dl2) ∧ W.cell? ⟨A + 1, 2, none⟩ = some (.slice a2 xs2.length c2)) ∧ Gr.RdP W.heap.size W (a, xs.length, c) xs ∧ Gr.RdP W.heap.size W (a2, xs2.length, c2) xs2 ∧ U.EnvA W ∧ U.EnvI W ∧ Below A w W ∧ A + 1 + 1 ≤ W.heap.size) := fun W k => by
    have h1 := (k.block A (by omega)).trans b1'
    have h2 := (k.block (A + 1) (by omega)).trans b2
    have kk := bb.trans (k.mono (by omega))
    have hz : A + 1 + 1 ≤ W.heap.size := by have := k.size; omega
    have ke := Keep.ofBelow (S := fun _ => False) kk (by omega)
    have kk' := kk
    rw [← hA0] at kk
    exact ⟨⟨cell_blk h1 0 rfl, cell_blk h1 1 rfl, cell_blk h1 2 rfl⟩, ⟨cell_blk h2 0 rfl, cell_blk h2 1 rfl, cell_blk h2 2 rfl⟩, (hP.keep ke (fun _ f => f.elim)).mono (by omega), (hP2.keep ke (fun _ f => f.elim)).mono (by omega), hA.below kk, hI.below kk, kk', hz⟩
  have HZ2 := hide z2
  clear b1 b2 z1 z2 bb b1' hP hP2 hA hI hs hs2 hcp hcp2 hc0 hc02
  go_enter Tryz.func3, Tryz.ntmps3
  go_upto_region 1 with fail
  generalize ((w.alloc (.cells #[.string NM, .int .i64 dl, .slice a xs.length c] 24)).alloc (.cells #[.string nm2, .int .i64 dl2, .slice a2 xs2.length c2] 24)) = w2 at *
  have KN1 := hide (KN.out w2 (HM.out w2 (Below.refl _ _)).2.2.2.2.1 (HM.out w2 (Below.refl _ _)).2.2.2.2.2.1)
  clear KN
  go_upto_region 4 with (go_at_call 4; refine KN1.out.mono ?_; rintro e w3 ⟨rfl, b3⟩; have X3 : Hid (Below (A + 1 + 1) w2 w3) := b3.mono (by rw [HZ2.out]; exact Nat.le_refl _); clear b3)
  obtain ⟨⟨p0, p1, p2⟩, ⟨o0, o1, o2⟩, r1, r2, _, _, hbw, hzw⟩ := HM.out w3 X3.out
  have R1 := hide r1
  have HBW := hide hbw
  have HZW := hide hzw
  clear r1 r2 hbw hzw KN1 HZ2 o0 o1 o2
  go_upto_region 6 with (first
    | (go_at_call 5; refine (SM1.out _ w3 R1.out).mono ?_; rintro e w4 ⟨⟨b, rfl, hb⟩, k4⟩; have X4 : Hid (Below (A + 1 + 1) w2 w4) := X3.out.trans (k4.below HZW.out (fun _ f => f.elim)); have HB1 := hide hb; have M4 := HM.out w4 X4.out; have o0 := M4.2.1.1; have o1 := M4.2.1.2.1; have o2 := M4.2.1.2.2; have R2 := hide M4.2.2.2.1; have HBW4 := hide M4.2.2.2.2.2.2.1; have HZW4 := hide M4.2.2.2.2.2.2.2; clear M4 hb k4 p0 p1 p2 R1 HBW X3 HZW; cases b)
    | (go_at_call 5; refine (SM2.out _ w4 R2.out).mono ?_; rintro e w5 ⟨⟨b, rfl, hb⟩, k5⟩; have X5 : Hid (Below (A + 1 + 1) w2 w5) := X4.out.trans (k5.below HZW4.out (fun _ f => f.elim)); have HB2 := hide hb; clear hb k5 o0 o1 o2 R2 HBW4 X4 HZW4; cases b))
  · go_ret
    exact ⟨rfl, HBW4.out⟩
  · go_ret
    exact ⟨rfl, (HM.out w5 X5.out).2.2.2.2.2.2.1⟩
  have hfew := few_lens (HB1.out (by trivial))
  have hfew2 := few_lens (HB2.out (by trivial))
  have HF1 := hide hfew
  have HF2 := hide hfew2
  have M5 := HM.out w5 X5.out
  have p0 := M5.1.1
  have p1 := M5.1.2.1
  have p2 := M5.1.2.2
  have RM := hide (RM1.out w5 M5.2.2.1 hfew.1 hfew.2)
  have HAz : Hid (A + 1 + 1 ≤ w5.heap.size) := M5.2.2.2.2.2.2.2
  clear M5 hfew hfew2 RM1 SM1 SM2 HB1 HB2
  go_upto_region 7 with (go_at_call 6; refine RM.out.mono ?_; rintro e w6 ⟨va, vc, fa, fc, ys, rfl, hyl, hE, her, b6⟩; have HYL := hide hyl; have HE := hide hE; have HER := hide her; have B6 := hide b6; clear hyl hE her b6 p0 p1 p2 RM)
  have b7 := (Below.refl w6.heap.size w6).alloc (Nat.le_refl _) (.cells #[.string NM, .int .i64 dl, .slice va xs.length vc] 24)
  have HQ7 := hide (heap_alloc_new w6 (.cells #[.string NM, .int .i64 dl, .slice va xs.length vc] 24))
  have HE7 := hide (HE.out.below b7)
  have hz6 : A + 1 + 1 ≤ w6.heap.size := Nat.le_trans HAz.out B6.out.size
  have X7 : Hid (Below (A + 1 + 1) w2 (w6.alloc (.cells #[.string NM, .int .i64 dl, .slice va xs.length vc] 24))) := (X5.out.trans (B6.out.mono HAz.out)).trans (b7.mono hz6)
  have HZ6 := hide hz6
  have HS7 : Hid ((w6.alloc (.cells #[.string NM, .int .i64 dl, .slice va xs.length vc] 24)).heap.size = w6.heap.size + 1) := by show _ = _; simp
  clear b7 hz6 HE B6 X5
  generalize w6.alloc (.cells #[.string NM, .int .i64 dl, .slice va xs.length vc] 24) = w7 at *
  generalize hQ : w6.heap.size = Q at *
  clear hQ
  have hzy := er_lens HER.out HF1.out.2
  have HZY := hide hzy
  have hrd : Gr.RdP w7.heap.size w7 (va, xs.length, vc) ys := by
    have h1 := HE7.out
    have h2 : RoE w5.heap.size w7 (.slice va ys.length vc) (.slice fa (2 * xs.length) fc) ys := by rw [HYL.out]; exact h1
    have h3 := h2.rd (by rw [HYL.out]; exact HF1.out.1) hzy
    rw [HYL.out] at h3
    exact h3
  have hcap0 : va = none → vc = 0 := by
    have h1 := HE7.out.nodes
    rw [HYL.out] at h1
    exact own_c0 h1
  have HRD := hide hrd
  have HC0 := hide hcap0
  have kE := Keep.alloc (fun _ => False) w7 (.cells #[] 32)
  have q2 := cell_blk HQ7.out 2 (v := .slice va xs.length vc) rfl
  have q2e := kE.cell q2 (fun f => f)
  have hyn : ys.length ≤ 1048576 := by have h1 := HYL.out; have h2 := HF1.out.1; omega
  clear hzy hrd hcap0 kE
  iterate 10 go_step
  refine wp_cloneN (by kernel_rfl) (.tmp 54) (.tmp 56) (by kernel_rfl) (by kernel_rfl) w7.heap.size (va, xs.length, vc) ys (by kernel_rfl) HRD.out HC0.out hyn ?_
  intro v' w8 ho hk
  obtain ⟨ua, uc, hv⟩ := ownsRow_shape ho
  subst hv
  have HO8 := hide ho
  have K8 := hide hk
  clear ho hk q2 q2e
  iterate 3 go_step
  refine Go.Great.wpList_buildSliceTo (by kernel_rfl) 22 32 1 #[(0, .tmp 58)] (by kernel_rfl) w8.heap.size rfl (some 59) (by kernel_rfl) Tryz.underlying22 sp.q.row.toArray (by kernel_rfl) ?_
  have kS := Keep.alloc (fun _ => False) w8 (.cells sp.q.row.toArray 32)
  have HOs : Hid ((w8.alloc (.cells sp.q.row.toArray 32)).ownsRow 0 32 10 (.slice ua ys.length uc) ys.length (U.flat (ys.map (·.q)))) := ownsRow_base (ownsRow_new HO8.out kS) (Nat.zero_le _)
  have HCs : Hid (∀ j u, sp.q.row[j]? = some u → (w8.alloc (.cells sp.q.row.toArray 32)).cell? ((⟨w8.heap.size, 0, none⟩ : Addr).add j) = some u) := fun j u hu => by
    rw [Addr.add_mid, Nat.zero_add]
    exact cell_blk (heap_alloc_new w8 _) j (by simpa using hu)
  refine wp_appendN (by kernel_rfl) (.tmp 57) (.tmp 59) (by kernel_rfl) (.slice ua ys.length uc) ys.length (U.flat (ys.map (·.q))) (by kernel_rfl) HOs.out ⟨w8.heap.size, 0, none⟩ sp.q.row rfl sp_one (by kernel_rfl) HCs.out (by omega) ?_
  intro v' w9 ap
  obtain ⟨gF, cF, hv⟩ := own_form ap.own (by omega)
  subst hv
  have hz7 : A + 1 + 1 ≤ w7.heap.size := by have := HZ6.out; have := HS7.out; omega
  have hgF : w7.heap.size ≤ gF := by
    have h0 := K8.out.size
    have h1 := kS.size
    rcases ap.pl with e | e
    · exact (HO8.out.lt gF e.symm).1
    · injection e with e
      have e : gF = _ := e
      omega
  have hK9 : Keep (fun _ => False) w7 w9 := (K8.out.more kS).trans ap.keep fun q hq => .inr ((HO8.out.lt q hq).1)
  have HK9 := hide hK9
  have HF9 : Hid (w9.ownsRow A 32 10 (.slice (some ⟨gF, 0, none⟩) (xs.length + 1) cF) (xs.length + 1) (U.flat ((ys ++ [sp]).map (·.q)))) := by
    have h1 := own_up (B := A) ap.own (fun g e => by cases e; show A ≤ gF; omega)
    have e : U.flat (ys.map (·.q)) ++ sp.q.row = U.flat ((ys ++ [sp]).map (·.q)) := by rw [List.map_append]; exact (U.flat_snoc _ _).symm
    rw [e, HYL.out] at h1
    exact h1
  have HGF := hide hgF
  have HZ7 := hide hz7
  have hcF := own_cap HF9.out
  rw [HYL.out]
  clear ap hgF hK9 kS HOs HCs hz7 K8 HO8 HRD HC0 hyn
  go_upto_region 8 with fail
  have X9 : Hid (Below (A + 1 + 1) w2 w9) := X7.out.trans (HK9.out.below HZ7.out (fun _ f => f.elim))
  have hb9 := HK9.out.blk HQ7.out (fun f => f)
  have q8 := cell_blk hb9 2 (v := .slice va xs.length vc) rfl
  have f8 := frozen_blk hb9 2
  have p2 := (HM.out w9 X9.out).1.2.2
  have hr8 := slice_hi_runN (some ⟨gF, 0, none⟩) (xs.length + 1) cF xs.length (by omega)
  have kq := keep_cell w9 Q 2 (.slice (some ⟨gF, 0, none⟩) xs.length cF)
  have hQt : ∀ g cur t, g = Q → w9.heap[g]? = some (.cells cur t (0, 0)) → t ≠ 32 ∧ t ≠ 3 ∧ t ≠ 30 := fun g cur t e hc => by
    rw [e, hb9] at hc
    injection hc with hc
    injection hc with _ hc
    subst hc
    exact ⟨by decide, by decide, by decide⟩
  have hE9 := HE7.out.keepT HK9.out (fun _ _ _ f => f.elim)
  have S10 : Hid (S9 A Q gF cF xs.length NM dl w2 ys (w9.setCell ⟨Q, 2, none⟩ (.slice (some ⟨gF, 0, none⟩) xs.length cF))) := by
    refine ⟨⟨(set_blk hb9 2 _).trans rfl, HYL.out, ownsRow_keep HF9.out kq (fun i e h => ?_), fun y hy => ?_⟩, X9.out.trans (kq.below (Nat.le_trans HZ7.out HK9.out.size) (fun i e => by have := HZ6.out; omega)), Nat.le_trans (Nat.le_trans HZ7.out HK9.out.size) kq.size⟩
    · injection h with h
      have h : gF = i := h
      have := HGF.out
      have := HS7.out
      omega
    · have h1 := hE9.ls y hy
      have hA : A ≤ w5.heap.size := by have := HAz.out; omega
      exact ⟨(h1.1.base hA).keep kq fun g cur e hc => (hQt g cur _ e hc).2.1 rfl, (h1.2.base hA).keep kq fun g cur e hc => (hQt g cur _ e hc).2.1 rfl⟩
  have E10 : Hid (RoE w5.heap.size (w9.setCell ⟨Q, 2, none⟩ (.slice (some ⟨gF, 0, none⟩) xs.length cF)) (.slice va xs.length vc) (.slice fa (2 * xs.length) fc) ys) := hE9.keepT kq hQt
  have HGF2 : Hid (A + 1 + 1 ≤ gF) := Nat.le_trans HZ7.out HGF.out
  clear hb9 kq hQt hE9 HE7 HQ7 X7 X9 HK9 HF9 HGF HZ7 HZ6 HS7
  obtain ⟨TX, hTX⟩ : ∃ t, U.ba (U.txt nm dl xs) = t := ⟨_, rfl⟩
  obtain ⟨ck, hck⟩ : ∃ t, (Gr.chk NM dl xs).2 = t := ⟨_, rfl⟩
  have HTX : Hid (TX.size ≤ 65536) := by
    show _ ≤ _
    rw [← hTX]
    rw [U.ba_size]
    exact HTl.out xs
  have TXq : Hid (∀ (s : Option Addr × Nat × Nat) (ys : List Gr.No) (W : World), Gr.RdP W.heap.size W s ys → U.EnvI W → ys.map U.er = xs.map U.er → Calls Tryz.prog 7 #[.agg #[.string NM, .int .i64 dl, .slice s.1 s.2.1 s.2.2]] W fun e w' => e = .returned (.tuple #[.string TX, .int .i64 (ck : Nat)]) ∧ Below W.heap.size W w') := fun s ys W h1 h2 h3 => by
    have h4 := TXg.out s ys W h1 h2 (sz_er HSz.out h3)
    rw [(HTe.out ys xs h3).1, (HTe.out ys xs h3).2, hTX, hck] at h4
    exact h4
  have RCp : Hid (∀ (W : World), Gr.RdP W.heap.size W (a, xs.length, c) xs → Calls Tryz.prog 8 #[.agg #[.string NM, .int .i64 dl, .slice a xs.length c]] W fun e w' => e = .returned (.tuple #[.string TX, .int .i64 (ck : Nat)]) ∧ Below W.heap.size W w') := fun W h1 => by
    have h4 := RCg.out (a, xs.length, c) xs W h1 HSz.out
    rw [hTX, hck] at h4
    exact h4
  clear hTX hck
  go_upto_region 9 with fail
  clear q8 f8 hr8 p2
  generalize w9.setCell ⟨Q, 2, none⟩ (.slice (some ⟨gF, 0, none⟩) xs.length cF) = w10 at *
  obtain ⟨q0, q1, q2⟩ := S10.out.cells
  have T1 := hide (TXq.out (some ⟨gF, 0, none⟩, xs.length, cF) ys w10 (S10.out.fr.rd HF1.out.1 HZY.out) (HM.out w10 S10.out.be).2.2.2.2.2.1 HER.out)
  go_upto_region 10 with (go_at_call 7; refine T1.out.mono ?_; rintro e w11 ⟨rfl, b11⟩; have S11 := hide (S10.out.below b11); have E11 := hide (E10.out.below b11); clear b11 q0 q1 q2 S10 E10 T1)
  obtain ⟨q0, q1, q2⟩ := S11.out.cells
  have T1 := hide (TXq.out (some ⟨gF, 0, none⟩, xs.length, cF) ys w11 (S11.out.fr.rd HF1.out.1 HZY.out) (HM.out w11 S11.out.be).2.2.2.2.2.1 HER.out)
  go_upto_region 11 with (go_at_call 7; refine T1.out.mono ?_; rintro e w12 ⟨rfl, b12⟩; have S12 := hide (S11.out.below b12); have E12 := hide (E11.out.below b12); clear b12 q0 q1 q2 S11 E11 T1)
  obtain ⟨p0, p1, p2⟩ := (HM.out w12 S12.out.be).1
  have T1 := hide (RCp.out w12 (HM.out w12 S12.out.be).2.2.1)
  go_upto_region 12 with (go_at_call 8; refine T1.out.mono ?_; rintro e w13 ⟨rfl, b13⟩; have S13 := hide (S12.out.below b13); have E13 := hide (E12.out.below b13); clear b13 p0 p1 p2 S12 E12 T1 RCp)
  obtain ⟨p0, p1, p2⟩ := (HM.out w13 S13.out.be).1
  obtain ⟨q0, q1, q2⟩ := S13.out.cells
  have PL := hide (U.plans_any NM dl (a, xs.length, c) (some ⟨gF, 0, none⟩, xs.length, cF) xs ys _ _ w13 (HM.out w13 S13.out.be).2.2.1 (S13.out.fr.rd HF1.out.1 HZY.out) HER.out.symm)
  go_upto_region 14 with (first
    | (go_at_call 9; refine PL.out.mono ?_; rintro e w14 ⟨rfl, k14⟩; have b14 := k14.below (Nat.le_refl _) (fun _ f => f.elim); have S14 := hide (S13.out.below b14); have E14 := hide (E13.out.below b14); clear k14 b14 p0 p1 p2 q0 q1 q2 S13 E13 PL; have M14 := HM.out w14 S14.out.be; have p0 := M14.1.1; have p1 := M14.1.2.1; have p2 := M14.1.2.2; have MK1 := hide (MK.out w14 M14.2.2.1 HF1.out.1 HF1.out.2 _ _ _ _ ys E14.out HER.out); clear M14 MK)
    | (go_at_call 10; refine MK1.out.mono ?_; rintro e w15 ⟨rfl, b15⟩; have S15 := hide (S14.out.below b15); clear b15 p0 p1 p2 MK1 S14 E14; have M15 := HM.out w15 S15.out.be; have p2 := M15.1.2.2; clear M15; have nF : w15.cell? ⟨gF, xs.length * 10, none⟩ = some (.string ⟨#[115, 112, 97, 114, 101]⟩) := S15.out.fr.node (i := xs.length) (x := sp) (by rw [← HYL.out]; simp) (j := 0) (u := .string ⟨#[115, 112, 97, 114, 101]⟩) rfl; have hlt1 : (xs.length : Int) < ((xs.length + 1 : Nat) : Int) := by omega))
  have HSz1 : Hid (∀ y ∈ ys, y.q.nm.size ≤ 9223372036854775807) := er_nm HER.out HSz.out.2
  clear nF p2 hlt1 TXq
  obtain ⟨o0, o1, o2⟩ := (HM.out w15 S15.out.be).2.1
  have RM3 := hide (RM2.out w15 (HM.out w15 S15.out.be).2.2.2.1 HF2.out.1 HF2.out.2)
  have HGl : Hid (gF < w15.heap.size) := (U.own_blk S15.out.fr.row (g := gF) rfl).2.1
  generalize hB2 : w15.heap.size = B2 at *
  have HB2 := hide hB2
  clear hB2
  go_upto_region 15 with go_loud (go_at_call 6; refine RM3.out.mono ?_; rintro e w16 ⟨va2, vc2, fa2, fc2, os, rfl, hol, hE2, her2, b16⟩; have S16 := hide (S15.out.below (by rw [HB2.out]; exact b16)); have HOL := hide hol; have E16 := hide hE2; have HER2 := hide her2; clear hol hE2 her2 b16 o0 o1 o2 RM3 S15 RM2 HB2)
  have b17 := (Below.refl w16.heap.size w16).alloc (Nat.le_refl _) (.cells #[.string nm2, .int .i64 dl2, .slice va2 xs2.length vc2] 24)
  have S17 : Hid (L9 A Q gF cF xs.length NM dl w2 B2 w16.heap.size nm2 dl2 va2 xs2.length vc2 (.slice fa2 (2 * xs2.length) fc2) os ys (w16.alloc (.cells #[.string nm2, .int .i64 dl2, .slice va2 xs2.length vc2] 24))) :=
    ⟨S16.out.below b17, E16.out.below b17, heap_alloc_new w16 _, fun y hy => ⟨(HZY.out y hy).1, (HZY.out y hy).2, HSz1.out y hy⟩⟩
  have HOK : Hid (∀ x ∈ os, x.nl.length ≤ 20000 ∧ x.al.length ≤ 20000 ∧ x.q.nm.size ≤ 9223372036854775807) := fun x hx => ⟨(er_lens HER2.out HF2.out.2 x hx).1, (er_lens HER2.out HF2.out.2 x hx).2, er_nm HER2.out HSz2.out.2 x hx⟩
  clear b17 S16 E16 HSz1 HZY HER2 HSz2
  generalize w16.alloc (.cells #[.string nm2, .int .i64 dl2, .slice va2 xs2.length vc2] 24) = w17 at *
  generalize w16.heap.size = O at *
  go_wp2_with fail
  go_loopw [17] (fun iv wr => ∃ k : Nat, iv = .int .i64 (k : Nat) ∧ k ≤ xs.length ∧ k ≤ xs2.length ∧ Hid (∃ zs, L9 A Q gF cF xs.length NM dl w2 B2 O nm2 dl2 va2 xs2.length vc2 (.slice fa2 (2 * xs2.length) fc2) os zs wr)) (fun iv _ => xs.length - (intOf iv).toNat)
  case atStart => exact ⟨0, rfl, Nat.zero_le _, Nat.zero_le _, ys, S17.out⟩
  case round =>
    clear S17
    obtain ⟨k, rfl, hk1, hk2, HI⟩ := hrel
    obtain ⟨zs, HL⟩ : ∃ zs, Hid (L9 A Q gF cF xs.length NM dl w2 B2 O nm2 dl2 va2 xs2.length vc2 (.slice fa2 (2 * xs2.length) fc2) os zs wr) := HI.out
    have q2 := HL.out.s9.cells.2.2
    have o2 := cell_blk HL.out.ob 2 (v := .slice va2 xs2.length vc2) rfl
    obtain ⟨bb, hbb⟩ : ∃ bb, decide (k < xs.length ∧ k < xs2.length) = bb := ⟨_, rfl⟩
    have HBB := hide hbb
    clear HI hbb
    go_upto_region 16 with fail
    go_cut [142] from 131 to 153 (fun v wx => v = .bool bb ∧ wx = wr)
    case first =>
      by_cases h1 : k < xs.length
      · have h1' : (k : Int) < (xs.length : Int) := by omega
        by_cases h2 : k < xs2.length
        · have h2' : (k : Int) < (xs2.length : Int) := by omega
          have HF : Hid (bb = true) := by rw [← HBB.out]; exact decide_eq_true ⟨h1, h2⟩
          clear h1 h2
          go_wp2_with fail
          go_meet
          rw [HF.out]
          exact ⟨rfl, rfl⟩
        · have h2' : ¬ ((k : Int) < (xs2.length : Int)) := by omega
          have HF : Hid (bb = false) := by rw [← HBB.out]; exact decide_eq_false fun h => h2 h.2
          clear h1 h2
          go_wp2_with fail
          go_meet
          rw [HF.out]
          exact ⟨rfl, rfl⟩
      · have h1' : ¬ ((k : Int) < (xs.length : Int)) := by omega
        have HF : Hid (bb = false) := by rw [← HBB.out]; exact decide_eq_false fun h => h1 h.1
        clear h1
        go_wp2_with fail
        go_meet
        rw [HF.out]
        exact ⟨rfl, rfl⟩
    case rest =>
      obtain ⟨rfl, hwc⟩ := hcut
      subst hwc
      cases bb with
      | true =>
        obtain ⟨h1, h2⟩ := of_decide_eq_true HBB.out
        obtain ⟨x, hx⟩ : ∃ x, os[k]? = some x := ⟨_, List.getElem?_eq_getElem (by rw [HOL.out]; exact h2)⟩
        obtain ⟨g, hga, hnc⟩ := HL.out.node HOL.out hx
        subst hga
        obtain ⟨PUT, TH⟩ := (HL.out.below (Below.refl _ _).drew).put h1 hx HGl.out HGF2.out (HOK.out x (List.mem_of_getElem? hx))
        have n0 : wc.cell? ⟨g, k * 10, none⟩ = some (.string x.q.nm) := hnc 0 _ rfl
        have n1 : wc.cell? ⟨g, k * 10 + 1, none⟩ = some (.int .i64 x.q.la) := hnc 1 _ rfl
        have n2 : wc.cell? ⟨g, k * 10 + 2, none⟩ = some (.int .i64 x.q.bu) := hnc 2 _ rfl
        have n3 : wc.cell? ⟨g, k * 10 + 3, none⟩ = some (.int .i64 x.q.cl) := hnc 3 _ rfl
        have n4 : wc.cell? ⟨g, k * 10 + 4, none⟩ = some (.int .i64 x.q.be) := hnc 4 _ rfl
        have n5 : wc.cell? ⟨g, k * 10 + 5, none⟩ = some (.int .i64 x.q.ba) := hnc 5 _ rfl
        have n6 : wc.cell? ⟨g, k * 10 + 6, none⟩ = some (.int .i64 x.q.ca) := hnc 6 _ rfl
        have n7 : wc.cell? ⟨g, k * 10 + 7, none⟩ = some (.int .i64 x.q.ji) := hnc 7 _ rfl
        have n8 : wc.cell? ⟨g, k * 10 + 8, none⟩ = some (.slice x.q.ne.1 x.q.ne.2.1 x.q.ne.2.2) := hnc 8 _ rfl
        have n9 : wc.cell? ⟨g, k * 10 + 9, none⟩ = some (.slice x.q.af.1 x.q.af.2.1 x.q.af.2.2) := hnc 9 _ rfl
        have HPUT := hide PUT
        have HTH := hide TH
        have h1' : (k : Int) < (xs.length : Int) := by omega
        have h2' : (k : Int) < (xs2.length : Int) := by omega
        clear PUT TH hx hnc HBB
        go_upto_region 18 with fail
        as_aux_lemma =>
        refine RL.wp_region_held_last (S := fun wx => wx.cell? ⟨Q, 2, none⟩ = some (.slice (some ⟨gF, 0, none⟩) xs.length cF) ∧ wx.cell? ⟨O, 2, none⟩ = some (.slice (some ⟨g, 0, none⟩) xs2.length vc2) ∧ wx.cell? ⟨g, k * 10, none⟩ = some (.string x.q.nm) ∧ wx.cell? ⟨g, k * 10 + 1, none⟩ = some (.int .i64 x.q.la) ∧ wx.cell? ⟨g, k * 10 + 2, none⟩ = some (.int .i64 x.q.bu) ∧ wx.cell? ⟨g, k * 10 + 3, none⟩ = some (.int .i64 x.q.cl) ∧ wx.cell? ⟨g, k * 10 + 4, none⟩ = some (.int .i64 x.q.be) ∧ wx.cell? ⟨g, k * 10 + 5, none⟩ = some (.int .i64 x.q.ba) ∧ wx.cell? ⟨g, k * 10 + 6, none⟩ = some (.int .i64 x.q.ca) ∧ wx.cell? ⟨g, k * 10 + 7, none⟩ = some (.int .i64 x.q.ji) ∧ wx.cell? ⟨g, k * 10 + 8, none⟩ = some (.slice x.q.ne.1 x.q.ne.2.1 x.q.ne.2.2) ∧ wx.cell? ⟨g, k * 10 + 9, none⟩ = some (.slice x.q.af.1 x.q.af.2.1 x.q.af.2.2)) rfl (by kernel_rfl) (by kernel_rfl) ⟨q2, o2, n0, n1, n2, n3, n4, n5, n6, n7, n8, n9⟩ (fun hHeld => ?_)
        change wpAnyH _ _ _ _ _ 10 (Array.replicate 10 false) _ _
        simp only [List.dropLast, List.getLast, List.cons_append, List.nil_append, RL.still]
        refine wpAnyH_take (i := 0) (oi := _) (v := ?_) rfl (by kernel_rfl) (by kernel_rfl) (by kernel_rfl) (fun _ _ _ h => h) (Or.inl ⟨by rfl, ?_⟩) (by assumption) ?_
        rotate_left
        · (intro w hSw; (try dsimp only at hSw); go_simp)
          all_goals with_reducible rfl
        go_simp
        refine wpAnyH_take (i := 1) (oi := _) (v := ?_) rfl (by kernel_rfl) (by kernel_rfl) (by kernel_rfl) (fun _ _ _ h => h) (Or.inl ⟨by rfl, ?_⟩) (by assumption) ?_
        rotate_left
        · (intro w hSw; (try dsimp only at hSw); go_simp)
          all_goals with_reducible rfl
        go_simp
        refine wpAnyH_take (i := 2) (oi := _) (v := ?_) rfl (by kernel_rfl) (by kernel_rfl) (by kernel_rfl) (fun _ _ _ h => h) (Or.inl ⟨by rfl, ?_⟩) (by assumption) ?_
        rotate_left
        · (intro w hSw; (try dsimp only at hSw); go_simp)
          all_goals with_reducible rfl
        go_simp
        refine wpAnyH_take (i := 3) (oi := _) (v := ?_) rfl (by kernel_rfl) (by kernel_rfl) (by kernel_rfl) (fun _ _ _ h => h) (Or.inl ⟨by rfl, ?_⟩) (by assumption) ?_
        rotate_left
        · (intro w hSw; (try dsimp only at hSw); go_simp)
          all_goals with_reducible rfl
        go_simp
        refine wpAnyH_take (i := 4) (oi := _) (v := ?_) rfl (by kernel_rfl) (by kernel_rfl) (by kernel_rfl) (fun _ _ _ h => h) (Or.inl ⟨by rfl, ?_⟩) (by assumption) ?_
        rotate_left
        · (intro w hSw; (try dsimp only at hSw); go_simp)
          all_goals with_reducible rfl
        go_simp
        refine wpAnyH_take (i := 5) (oi := _) (v := ?_) rfl (by kernel_rfl) (by kernel_rfl) (by kernel_rfl) (fun _ _ _ h => h) (Or.inl ⟨by rfl, ?_⟩) (by assumption) ?_
        rotate_left
        · (intro w hSw; (try dsimp only at hSw); go_simp)
          all_goals with_reducible rfl
        go_simp
        refine wpAnyH_take (i := 6) (oi := _) (v := ?_) rfl (by kernel_rfl) (by kernel_rfl) (by kernel_rfl) (fun _ _ _ h => h) (Or.inl ⟨by rfl, ?_⟩) (by assumption) ?_
        rotate_left
        · (intro w hSw; (try dsimp only at hSw); go_simp)
          all_goals with_reducible rfl
        go_simp
        refine wpAnyH_take (i := 7) (oi := _) (v := ?_) rfl (by kernel_rfl) (by kernel_rfl) (by kernel_rfl) (fun _ _ _ h => h) (Or.inl ⟨by rfl, ?_⟩) (by assumption) ?_
        rotate_left
        · (intro w hSw; (try dsimp only at hSw); go_simp)
          all_goals with_reducible rfl
        go_simp
        refine wpAnyH_take (i := 8) (oi := _) (v := ?_) rfl (by kernel_rfl) (by kernel_rfl) (by kernel_rfl) (fun _ _ _ h => h) (Or.inl ⟨by rfl, ?_⟩) (by assumption) ?_
        rotate_left
        · (intro w hSw; (try dsimp only at hSw); go_simp)
          all_goals with_reducible rfl
        go_simp
        refine wpAnyH_take (i := 9) (oi := _) (v := ?_) rfl (by kernel_rfl) (by kernel_rfl) (by kernel_rfl) (fun _ _ _ h => h) (Or.inl ⟨by rfl, ?_⟩) (by assumption) ?_
        rotate_left
        · (intro w hSw; (try dsimp only at hSw); go_simp)
          all_goals with_reducible rfl
        go_simp
        refine wpAnyH_done (by kernel_rfl) ?_ _
        simp only [RL.endQ]
        refine wp_store_mid 32 _ _ rfl gF (k * 10) x.q.row.toArray (by rfl) (by rfl) HTH.out (by kernel_rfl) (all_oneCell_toArray (row_one x.q)) ?_
        dsimp only [Act.put]
        clear hHeld n0 n1 n2 n3 n4 n5 n6 n7 n8 n9 q2 o2 HTH h1' h2' HL
        have hkb : (k : Int) < 20000 := by have := HF1.out.1; omega
        show _
        have HP2 : Hid (L9 A Q gF cF xs.length NM dl w2 B2 O nm2 dl2 (some ⟨g, 0, none⟩) xs2.length vc2 (.slice fa2 (2 * xs2.length) fc2) os (zs.set k x) (wc.drew.setCells gF (k * 10) x.q.row.toArray.toList)) := HPUT.out
        clear HPUT
        generalize wc.drew.setCells gF (k * 10) x.q.row.toArray.toList = w20 at *
        go_wp2_with fail
        go_roundw
        case rel => exact ⟨k + 1, by go_num, by omega, by omega, zs.set k x, HP2.out⟩
        case measure => (show xs.length - ((k : Int) + 1).toNat < xs.length - (k : Int).toNat; omega)
      | false =>
        have hlen : zs.length = xs.length := HL.out.s9.fr.len
        have SA := hide HL.out.s9
        have hz := fun y hy => (⟨(HL.out.ok y hy).1, (HL.out.ok y hy).2.1⟩ : y.nl.length ≤ 20000 ∧ y.al.length ≤ 20000)
        have HSzz : Hid (Gr.Sz NM zs) := ⟨HSz.out.1, fun y hy => (HL.out.ok y hy).2.2⟩
        have HZZ := hide hz
        have rmq := room_any NM dl (some ⟨gF, 0, none⟩, xs.length, cF) zs wc (SA.out.fr.rd HF1.out.1 hz) (fun e => by cases e) SA.out.fr.cp (by rw [hlen]; exact HF1.out.1) hz
        rw [hlen] at rmq
        have RMq := hide rmq
        have HLN := hide hlen
        clear HL o2 HBB hk1 hk2 hz rmq hlen HOK HGl HOL HF2
        obtain ⟨q0, q1, q2⟩ := SA.out.cells
        obtain ⟨TX2, hTX2⟩ : ∃ t, U.ba (U.txt nm dl zs) = t := ⟨_, rfl⟩
        obtain ⟨ck2, hck2⟩ : ∃ t, (Gr.chk NM dl zs).2 = t := ⟨_, rfl⟩
        have HTX2 : Hid (TX2.size ≤ 65536) := by
          show _ ≤ _
          rw [← hTX2, U.ba_size]
          exact HTl.out zs
        have TXz : Hid (∀ (W : World), Gr.RdP W.heap.size W (some ⟨gF, 0, none⟩, xs.length, cF) zs → U.EnvI W → Calls Tryz.prog 7 #[.agg #[.string NM, .int .i64 dl, .slice (some ⟨gF, 0, none⟩) xs.length cF]] W fun e w' => e = .returned (.tuple #[.string TX2, .int .i64 (ck2 : Nat)]) ∧ Below W.heap.size W w') := fun W h1 h2 => by
          have h4 := TXg.out (some ⟨gF, 0, none⟩, xs.length, cF) zs W h1 h2 HSzz.out
          rw [hTX2, hck2] at h4
          exact h4
        have RCz : Hid (∀ (W : World) (s : Option Addr × Nat × Nat) (ys : List Gr.No), Gr.RdP W.heap.size W s ys → ys.map U.er = zs.map U.er → Calls Tryz.prog 8 #[.agg #[.string NM, .int .i64 dl, .slice s.1 s.2.1 s.2.2]] W fun e w' => e = .returned (.tuple #[.string TX2, .int .i64 (ck2 : Nat)]) ∧ Below W.heap.size W w') := fun W s ys h1 h2 => by
          have h4 := RCg.out s ys W h1 (sz_er HSzz.out h2)
          rw [(HTe.out ys zs h2).1, (HTe.out ys zs h2).2, hTX2, hck2] at h4
          exact h4
        clear hTX2 hck2 TXg RCg HTe HTl
        go_upto_region 20 with (go_at_call 6; refine RMq.out.mono ?_; rintro e w21 ⟨va3, vc3, fa3, fc3, zz, rfl, hzl, hE3, her3, b21⟩; have S21 := hide (SA.out.below b21); have HZL := hide hzl; have E21 := hide hE3; have HER3 := hide her3; clear hzl hE3 her3 b21 q0 q1 q2 RMq SA)
        have hzl : zz.length = xs.length := HZL.out
        have hr3 : Gr.RdP w21.heap.size w21 (va3, xs.length, vc3) zz := by
          have h1 := E21.out
          have h2 : RoE wc.heap.size w21 (.slice va3 zz.length vc3) (.slice fa3 (2 * xs.length) fc3) zz := by rw [hzl]; exact h1
          have h3 := h2.rd (by rw [hzl]; exact HF1.out.1) (er_lens HER3.out HZZ.out)
          rw [hzl] at h3
          exact h3
        have b22 := (Below.refl w21.heap.size w21).alloc (Nat.le_refl _) (.cells #[.string NM, .int .i64 dl, .slice va3 xs.length vc3] 24)
        have HN22 := hide (heap_alloc_new w21 (.cells #[.string NM, .int .i64 dl, .slice va3 xs.length vc3] 24))
        have S22 := hide (S21.out.below b22)
        have R22 := hide (rd_new hr3 b22)
        clear b22 hr3 hzl S21 HZL E21
        generalize w21.alloc (.cells #[.string NM, .int .i64 dl, .slice va3 xs.length vc3] 24) = w22 at *
        generalize w21.heap.size = N at *
        obtain ⟨q0, q1, q2⟩ := S22.out.cells
        have T1 := hide (TXz.out w22 (S22.out.fr.rd HF1.out.1 HZZ.out) (HM.out w22 S22.out.be).2.2.2.2.2.1)
        go_upto_region 21 with (go_at_call 7; refine T1.out.mono ?_; rintro e w23 ⟨rfl, b23⟩; have S23 := hide (S22.out.below b23); have R23 := hide (rd_new R22.out b23); have HN23 := hide ((Keep.ofBelow (S := fun _ => False) b23 (Nat.le_refl _)).blk HN22.out (fun f => f)); clear b23 q0 q1 q2 S22 R22 HN22 T1 TXz)
        have n0 := cell_blk HN23.out 0 (v := .string NM) rfl
        have n1 := cell_blk HN23.out 1 (v := .int .i64 dl) rfl
        have n2 := cell_blk HN23.out 2 (v := .slice va3 xs.length vc3) rfl
        have T1 := hide (RCz.out w23 (va3, xs.length, vc3) zz R23.out HER3.out)
        go_upto_region 24 with (go_at_call 8; refine T1.out.mono ?_; rintro e w24 ⟨rfl, b24⟩; have S24 := hide (S23.out.below b24); clear b24 n0 n1 n2 S23 R23 HN23 T1 RCz)
        obtain ⟨r1, hr1⟩ : ∃ r, U.parse TX.data.toList = r := ⟨_, rfl⟩
        obtain ⟨r2, hr2⟩ : ∃ r, U.parse TX2.data.toList = r := ⟨_, rfl⟩
        have PO1 : Hid (∀ W, U.EnvA W → Calls Tryz.prog 11 #[.string TX] W (U.ParseOwn r1 W)) := fun W h => by
          rw [← hr1]; exact U.parse_own TX W (by have := HTX.out; omega) h
        have PO2 : Hid (∀ W, U.EnvA W → Calls Tryz.prog 11 #[.string TX2] W (U.ParseOwn r2 W)) := fun W h => by
          rw [← hr2]; exact U.parse_own TX2 W (by have := HTX2.out; omega) h
        have PR1 : Hid (∀ W, Calls Tryz.prog 12 #[.string TX] W (U.ParseEnd r1 W)) := fun W => by
          rw [← hr1]; exact U.Sp.refParse_any TX W (by have := HTX.out; omega)
        have PR2 : Hid (∀ W, Calls Tryz.prog 12 #[.string TX2] W (U.ParseEnd r2 W)) := fun W => by
          rw [← hr2]; exact U.Sp.refParse_any TX2 W (by have := HTX2.out; omega)
        clear hr1 hr2 HTX HTX2
        have HAB1 : Hid (A + 1 + 1 ≤ w24.heap.size) := S24.out.sz
        have T1 := hide (PO1.out w24 (HM.out w24 S24.out.be).2.2.2.2.1)
        go_upto_region 25 with (go_at_call 11; refine T1.out.mono ?_; rintro e w25 h; obtain ⟨s1, x1, he, b, nx, er⟩ := px_any h; subst he; have HB25 : Hid (w24.heap.size ≤ w25.heap.size) := b.size; have S25 := hide (S24.out.below b); have D1 : Hid (Nx w24.heap.size w25.heap.size w25 s1 x1 ∧ x1.map U.er = prEs r1) := ⟨nx, er⟩; clear b nx er h T1 S24)
        have bl := heap_alloc_new w25 (.cells #[.string (prNm r1), .int .i64 (prDl r1), .slice s1.1 s1.2.1 s1.2.2] 24)
        have ba := (Below.refl w25.heap.size w25).alloc (Nat.le_refl _) (.cells #[.string (prNm r1), .int .i64 (prDl r1), .slice s1.1 s1.2.1 s1.2.2] 24)
        have S26 := hide (S25.out.below ba)
        have HO1 : Hid (w24.heap.size ≤ w25.heap.size) := HB25.out
        have D1a : Hid (Pd (w25.alloc (.cells #[.string (prNm r1), .int .i64 (prDl r1), .slice s1.1 s1.2.1 s1.2.2] 24)) w25.heap.size r1 s1 x1 w24.heap.size w25.heap.size) := ⟨D1.out.1.below ba, bl, D1.out.2⟩
        have hzz : (w25.alloc (.cells #[.string (prNm r1), .int .i64 (prDl r1), .slice s1.1 s1.2.1 s1.2.2] 24)).heap.size = w25.heap.size + 1 := by simp
        have HZ26 := hide hzz
        clear bl ba hzz S25 D1 HB25
        generalize w25.alloc (.cells #[.string (prNm r1), .int .i64 (prDl r1), .slice s1.1 s1.2.1 s1.2.2] 24) = w26 at *
        generalize w25.heap.size = P1 at *
        have T1 := hide (PO1.out w26 (HM.out w26 S26.out.be).2.2.2.2.1)
        go_upto_region 26 with (go_at_call 11; refine T1.out.mono ?_; rintro e w27 h; obtain ⟨s2, x2, he, b, nx, er⟩ := px_any h; subst he; have HB27 : Hid (w26.heap.size ≤ w27.heap.size) := b.size; have S27 := hide (S26.out.below b); have D1b := hide (D1a.out.below b); have D2 : Hid (Nx w26.heap.size w27.heap.size w27 s2 x2 ∧ x2.map U.er = prEs r1) := ⟨nx, er⟩; clear b nx er h T1 S26 D1a)
        have bl := heap_alloc_new w27 (.cells #[.string (prNm r1), .int .i64 (prDl r1), .slice s2.1 s2.2.1 s2.2.2] 24)
        have ba := (Below.refl w27.heap.size w27).alloc (Nat.le_refl _) (.cells #[.string (prNm r1), .int .i64 (prDl r1), .slice s2.1 s2.2.1 s2.2.2] 24)
        have S28 := hide (S27.out.below ba)
        have HO2 : Hid (w26.heap.size ≤ w27.heap.size) := HB27.out
        have D1a := hide (D1b.out.below ba)
        have D2a : Hid (Pd (w27.alloc (.cells #[.string (prNm r1), .int .i64 (prDl r1), .slice s2.1 s2.2.1 s2.2.2] 24)) w27.heap.size r1 s2 x2 w26.heap.size w27.heap.size) := ⟨D2.out.1.below ba, bl, D2.out.2⟩
        have hzz : (w27.alloc (.cells #[.string (prNm r1), .int .i64 (prDl r1), .slice s2.1 s2.2.1 s2.2.2] 24)).heap.size = w27.heap.size + 1 := by simp
        have HZ28 := hide hzz
        clear bl ba hzz S27 D2 HB27 D1b
        generalize w27.alloc (.cells #[.string (prNm r1), .int .i64 (prDl r1), .slice s2.1 s2.2.1 s2.2.2] 24) = w28 at *
        generalize w27.heap.size = P2 at *
        have T1 := hide (PO2.out w28 (HM.out w28 S28.out.be).2.2.2.2.1)
        go_upto_region 27 with (go_at_call 11; refine T1.out.mono ?_; rintro e w29 h; obtain ⟨s3, x3, he, b, nx, er⟩ := px_any h; subst he; have S29 := hide (S28.out.below b); have D1b := hide (D1a.out.below b); have D2b := hide (D2a.out.below b); have D3 : Hid (Nx w28.heap.size w29.heap.size w29 s3 x3 ∧ x3.map U.er = prEs r2) := ⟨nx, er⟩; clear b nx er h T1 S28 D1a D2a)
        have bl := heap_alloc_new w29 (.cells #[.string (prNm r2), .int .i64 (prDl r2), .slice s3.1 s3.2.1 s3.2.2] 24)
        have ba := (Below.refl w29.heap.size w29).alloc (Nat.le_refl _) (.cells #[.string (prNm r2), .int .i64 (prDl r2), .slice s3.1 s3.2.1 s3.2.2] 24)
        have S30 := hide (S29.out.below ba)
        have D1a := hide (D1b.out.below ba)
        have D2a := hide (D2b.out.below ba)
        have D3a : Hid (Pd (w29.alloc (.cells #[.string (prNm r2), .int .i64 (prDl r2), .slice s3.1 s3.2.1 s3.2.2] 24)) w29.heap.size r2 s3 x3 w28.heap.size w29.heap.size) := ⟨D3.out.1.below ba, bl, D3.out.2⟩
        have hzz : (w29.alloc (.cells #[.string (prNm r2), .int .i64 (prDl r2), .slice s3.1 s3.2.1 s3.2.2] 24)).heap.size = w29.heap.size + 1 := by simp
        have HZ30 := hide hzz
        clear bl ba hzz S29 D3 D1b D2b
        generalize w29.alloc (.cells #[.string (prNm r2), .int .i64 (prDl r2), .slice s3.1 s3.2.1 s3.2.2] 24) = w30 at *
        generalize w29.heap.size = P3 at *
        have T1 := hide (PR1.out w30)
        go_upto_region 28 with (go_at_call 12; refine T1.out.mono ?_; rintro e w31 h; obtain ⟨s4, x4, he, b, nx, er⟩ := pe_any3 h; subst he; have S31 := hide (S30.out.below b); have D1b := hide (D1a.out.below b); have D2b := hide (D2a.out.below b); have D3b := hide (D3a.out.below b); have D4 : Hid (Gr.RdP w31.heap.size w31 s4 x4 ∧ x4.map U.er = prEs r1) := ⟨nx, er⟩; clear b nx er h T1 S30 D1a D2a D3a)
        have bl := heap_alloc_new w31 (.cells #[.string (prNm r1), .int .i64 (prDl r1), .slice s4.1 s4.2.1 s4.2.2] 24)
        have ba := (Below.refl w31.heap.size w31).alloc (Nat.le_refl _) (.cells #[.string (prNm r1), .int .i64 (prDl r1), .slice s4.1 s4.2.1 s4.2.2] 24)
        have S32 := hide (S31.out.below ba)
        have D1a := hide (D1b.out.below ba)
        have D2a := hide (D2b.out.below ba)
        have D3a := hide (D3b.out.below ba)
        have D4a : Hid (Pe (w31.alloc (.cells #[.string (prNm r1), .int .i64 (prDl r1), .slice s4.1 s4.2.1 s4.2.2] 24)) w31.heap.size r1 s4 x4) := ⟨rd_new D4.out.1 ba, bl, D4.out.2⟩
        have hzz : (w31.alloc (.cells #[.string (prNm r1), .int .i64 (prDl r1), .slice s4.1 s4.2.1 s4.2.2] 24)).heap.size = w31.heap.size + 1 := by simp
        have HZ32 := hide hzz
        clear bl ba hzz S31 D4 D1b D2b D3b
        generalize w31.alloc (.cells #[.string (prNm r1), .int .i64 (prDl r1), .slice s4.1 s4.2.1 s4.2.2] 24) = w32 at *
        generalize w31.heap.size = P4 at *
        have T1 := hide (PR2.out w32)
        go_upto_region 29 with (go_at_call 12; refine T1.out.mono ?_; rintro e w33 h; obtain ⟨s5, x5, he, b, nx, er⟩ := pe_any3 h; subst he; have S33 := hide (S32.out.below b); have D1b := hide (D1a.out.below b); have D2b := hide (D2a.out.below b); have D3b := hide (D3a.out.below b); have D4b := hide (D4a.out.below b); have D5 : Hid (Gr.RdP w33.heap.size w33 s5 x5 ∧ x5.map U.er = prEs r2) := ⟨nx, er⟩; clear b nx er h T1 S32 D1a D2a D3a D4a)
        have bl := heap_alloc_new w33 (.cells #[.string (prNm r2), .int .i64 (prDl r2), .slice s5.1 s5.2.1 s5.2.2] 24)
        have ba := (Below.refl w33.heap.size w33).alloc (Nat.le_refl _) (.cells #[.string (prNm r2), .int .i64 (prDl r2), .slice s5.1 s5.2.1 s5.2.2] 24)
        have S34 := hide (S33.out.below ba)
        have D1a := hide (D1b.out.below ba)
        have D2a := hide (D2b.out.below ba)
        have D3a := hide (D3b.out.below ba)
        have D4a := hide (D4b.out.below ba)
        have D5a : Hid (Pe (w33.alloc (.cells #[.string (prNm r2), .int .i64 (prDl r2), .slice s5.1 s5.2.1 s5.2.2] 24)) w33.heap.size r2 s5 x5) := ⟨rd_new D5.out.1 ba, bl, D5.out.2⟩
        have hzz : (w33.alloc (.cells #[.string (prNm r2), .int .i64 (prDl r2), .slice s5.1 s5.2.1 s5.2.2] 24)).heap.size = w33.heap.size + 1 := by simp
        have HZ34 := hide hzz
        clear bl ba hzz S33 D5 D1b D2b D3b D4b
        generalize w33.alloc (.cells #[.string (prNm r2), .int .i64 (prDl r2), .slice s5.1 s5.2.1 s5.2.2] 24) = w34 at *
        generalize w33.heap.size = P5 at *
        clear PO1 PO2 PR1 PR2
        have PL1 := hide (U.plans_any (prNm r1) (prDl r1) s1 s4 x1 x4 _ _ w34 D1a.out.nx.rd D4a.out.rd (D1a.out.er.trans D4a.out.er.symm))
        obtain ⟨a0, a1, a2⟩ := D1a.out.cells
        obtain ⟨d0, d1, d2⟩ := D4a.out.cells
        have hp1 : ¬ (((prP r1 : Nat) : Int) < 0) := by omega
        have hp2 : ¬ (((prP r2 : Nat) : Int) < 0) := by omega
        go_upto_region 31 with (first
          | (go_at_call 9; with_reducible refine PL3.out.mono ?_; rintro e w37 ⟨rfl, k37⟩; have b := k37.below (Nat.le_refl _) (fun _ f => f.elim); have S37 := hide (S36.out.below b); have D1d := hide (D1c.out.below b); have D2d := hide (D2c.out.below b); have D3d := hide (D3c.out.below b); clear k37 b a0 a1 a2 d0 d1 d2 S36 D1c D2c D3c D4c D5c PL3)
          | (go_at_call 9; with_reducible refine PL2.out.mono ?_; rintro e w36 ⟨rfl, k36⟩; have b := k36.below (Nat.le_refl _) (fun _ f => f.elim); have S36 := hide (S35.out.below b); have D1c := hide (D1b.out.below b); have D2c := hide (D2b.out.below b); have D3c := hide (D3b.out.below b); have D4c := hide (D4b.out.below b); have D5c := hide (D5b.out.below b); clear k36 b a0 a1 a2 d0 d1 d2 S35 D1b D2b D3b D4b D5b PL2; have PL3 := hide (U.plans_any (prNm r2) (prDl r2) s3 s5 x3 x5 _ _ w36 D3c.out.nx.rd D5c.out.rd (D3c.out.er.trans D5c.out.er.symm)); obtain ⟨a0, a1, a2⟩ := D3c.out.cells; obtain ⟨d0, d1, d2⟩ := D5c.out.cells)
          | (go_at_call 9; with_reducible refine PL1.out.mono ?_; rintro e w35 ⟨rfl, k35⟩; have b := k35.below (Nat.le_refl _) (fun _ f => f.elim); have S35 := hide (S34.out.below b); have D1b := hide (D1a.out.below b); have D2b := hide (D2a.out.below b); have D3b := hide (D3a.out.below b); have D4b := hide (D4a.out.below b); have D5b := hide (D5a.out.below b); clear k35 b a0 a1 a2 d0 d1 d2 S34 D1a D2a D3a D4a D5a PL1; have PL2 := hide (U.plans_any (prNm r1) (prDl r1) s2 s4 x2 x4 _ _ w35 D2b.out.nx.rd D4b.out.rd (D2b.out.er.trans D4b.out.er.symm)); obtain ⟨a0, a1, a2⟩ := D2b.out.cells; obtain ⟨d0, d1, d2⟩ := D4b.out.cells))
        obtain ⟨a0, a1, a2⟩ := D1d.out.cells
        obtain ⟨e0, e1, e2⟩ := D2d.out.cells
        obtain ⟨d0, d1, d2⟩ := D3d.out.cells
        clear hp1 hp2
        have ba := (Below.refl w37.heap.size w37).alloc (Nat.le_refl _) (.cells #[.string (prNm r1), .int .i64 (prDl r1), .slice s1.1 s1.2.1 s1.2.2, .string (prNm r1), .int .i64 (prDl r1), .slice s2.1 s2.2.1 s2.2.2, .string (prNm r2), .int .i64 (prDl r2), .slice s3.1 s3.2.1 s3.2.2] 24)
        have OW := hide (own_three (A + 1 + 1) w24.heap.size P1 w26.heap.size P2 w28.heap.size P3 w37.heap.size s1 s2 s3 x1 x2 x3 _ (prNm r1) (prNm r1) (prNm r2) (prDl r1) (prDl r1) (prDl r2) (D1d.out.nx.below ba) (D2d.out.nx.below ba) (D3d.out.nx.below ba) HAB1.out (by have := HZ26.out; omega) (by have := HZ28.out; omega) (by have := HZ26.out; have := HO1.out; omega) (by have := HZ28.out; have := HO2.out; omega) (heap_alloc_new w37 (.cells #[.string (prNm r1), .int .i64 (prDl r1), .slice s1.1 s1.2.1 s1.2.2, .string (prNm r1), .int .i64 (prDl r1), .slice s2.1 s2.2.1 s2.2.2, .string (prNm r2), .int .i64 (prDl r2), .slice s3.1 s3.2.1 s3.2.2] 24)))
        have S38 := hide (S37.out.below ba)
        clear ba D1d D2d D3d S37
        go_wp2_with (go_at_call 13; refine OW.out.mono ?_; rintro e w39 ⟨rfl, k39⟩; have HK39 := hide k39; clear k39 OW a0 a1 a2 e0 e1 e2 d0 d1 d2)
        go_ret
        have hb := (HM.out _ S38.out.be).2.2.2.2.2.2
        exact ⟨rfl, hb.1.trans (HK39.out.below (by omega) (fun i hi => by omega))⟩
end So
end Go.Proofs.YtfoahfgehmghcaaGreatDoor
