/- PackWriterOwns: the walk. -/
import Derived.Test.YtnahlhjomolmjaaPWoR
import Derived.Test.YtnahlhjomolmjaaPOwn
import Derived.Test.YtnahlhjomolmjaaPRefWb
import Derived.Test.YtnahlhjomolmjaaPBlobR
import Derived.Test.YtnahlhjomolmjaaPKnown
import Derived.Deep.RegionWith
import Derived.Deep.CutRange
namespace Go.Proofs.Ytnahlhjomolmjaa
namespace Ow
open Go.RowKit Go.Deep

theorem St.cap_le {w0 w : World} {p q f m cap : Nat} {vW vV : Value} {sW sV : K.WS} {X : List Value} {Ks : List (Value × List Nat)} (h : St w0 w p vW sW q vV sV f m cap X Ks) : m ≤ cap := by
  rcases h.row.2 with ⟨e, _⟩ | ⟨g, cap', cur, e, hbg, hg, hnc, _⟩
  · cases e
  · injection e with _ _ e3
    subst e3
    exact hnc
/-- the row whole, read -/
theorem rd_all {w : World} {f m cap : Nat} {l : List Nat} (h : w.ownsRow 0 5 1 (.slice (some ⟨f, 0, none⟩) m cap) m (B8 l)) (hd : ∀ d ∈ l, d < 256) (hs : m < 281474976710656) : Rd w (some ⟨f, 0, none⟩) m l := by
  have hl : l.length = m := by have := h.1; rw [B8_length] at this; omega
  have := rd_pre h hd hs (Nat.le_refl m)
  rwa [List.take_of_length_le (by omega)] at this
theorem full_lt {l : List Nat} (h : ∀ d ∈ l, d < 256) : ∀ d ∈ l ++ [201, 202, 203], d < 256 := fun d hd => by
  rcases List.mem_append.1 hd with hd | hd
  · exact h d hd
  · simp at hd; omega
/-- what a put of the row's beginning does -/
theorem putF {w0 W w5 : World} {p q f m cap : Nat} {vW vV : Value} {sW sV : K.WS} {l l' : List Nat} {Ks : List (Value × List Nat)} (h : St w0 W p vW sW q vV sV f m cap (B8 l) Ks) (hd : ∀ d ∈ l, d < 256) (hm : m < 281474976710656) (n : Nat) (hn : n ≤ m) (hn2 : n ≤ 140737488351232) (hl' : l.take n = l') (mb : Nat) (hb : Below W.heap.size W w5) (hmb : w5.cell? ⟨mb, 0, none⟩ = some (.int .i64 9223372036854775807)) (hge : W.heap.size ≤ mb) :
    Puts (Wset p vW) w5 p 24 #[.pointer (some ⟨mb, 0, none⟩)] (.slice (some ⟨f, 0, none⟩) n cap) (textW 9223372036854775807 l') := by
  intro w s hw _
  have h5 := h.new hb
  refine putBlob _ w5 p mb 9223372036854775807 _ n cap l' (by rw [← hl']; exact rd_pre h5.row hd hm hn) hn2 (fun e => by cases e) (fun _ b off e hk => ?_) s w hw (hw.keep.cell hmb fun hk => ?_)
  · injection e with e
    injection e with e1
    exact h5.wf b hk e1.symm
  · have := wset_ltW h.wr hk
    show False
    simp only at this
    omega
theorem rep8 (n d : Nat) : List.replicate n (Value.int .u8 (d : Int)) = B8 (List.replicate n d) := by
  unfold B8
  rw [List.map_replicate]
def tri {α : Type} (x y z : α) : Nat → α
  | 0 => x
  | 1 => y
  | _ => z
section
variable {w0 W w' : World} {p q f m cap : Nat} {vW vV : Value} {sW sV : K.WS} {X : List Value} {ax ay az : Option Addr} {lx l2 : List Nat} {cx cy cz : Nat} {vn vo vt : Value} {ln lo lt : List Nat}
theorem St.apart (h : St w0 W p vW sW q vV sV f m cap X [(.slice az l2.length cz, l2), (.slice ay l2.length cy, l2), (vt, lt), (vo, lo), (vn, ln), (.slice ax lx.length cx, lx)]) : Apart (fun j => .slice (tri ax ay az j) (tri lx.length l2.length l2.length j) (tri cx cy cz j)) := by
  have h1 := h.pw
  simp only [List.pairwise_cons, List.mem_cons, List.not_mem_nil, or_false, forall_eq_or_imp, forall_eq] at h1
  obtain ⟨⟨zy, _, _, _, zx⟩, ⟨_, _, _, yx⟩, _⟩ := h1
  intro j k g hj hk hne e1 e2
  have hj' : j = 0 ∨ j = 1 ∨ j = 2 := by omega
  have hk' : k = 0 ∨ k = 1 ∨ k = 2 := by omega
  rcases hj' with rfl | rfl | rfl <;> rcases hk' with rfl | rfl | rfl
  · exact hne rfl
  · exact yx g e2 e1
  · exact zx g e2 e1
  · exact yx g e1 e2
  · exact hne rfl
  · exact zy g e2 e1
  · exact zx g e1 e2
  · exact zy g e1 e2
  · exact hne rfl
theorem St.o3 (h : St w0 W p vW sW q vV sV f m cap X [(.slice az l2.length cz, l2), (.slice ay l2.length cy, l2), (vt, lt), (vo, lo), (vn, ln), (.slice ax lx.length cx, lx)]) : O3 (W.alloc (.cells #[.slice ax lx.length cx, .slice ay l2.length cy, .slice az l2.length cz] 22)) W.heap.size (fun j => .slice (tri ax ay az j) (tri lx.length l2.length l2.length j) (tri cx cy cz j)) (tri lx.length l2.length l2.length) (tri (B8 lx) (B8 l2) (B8 l2)) := by
  have kA := Keep.alloc (fun _ => False) W (.cells #[.slice ax lx.length cx, .slice ay l2.length cy, .slice az l2.length cz] 22)
  refine ⟨fun j hj => ?_, World.ownsRow_lit W #[.slice ax lx.length cx, .slice ay l2.length cy, .slice az l2.length cz] 3 (Nat.le_refl _) (by decide) rfl⟩
  have hj' : j = 0 ∨ j = 1 ∨ j = 2 := by omega
  rcases hj' with rfl | rfl | rfl
  · exact ownsRow_new (h.ks (.slice ax lx.length cx, lx) (by simp)).1 kA
  · exact ownsRow_new (h.ks (.slice ay l2.length cy, l2) (by simp)).1 kA
  · exact ownsRow_new (h.ks (.slice az l2.length cz, l2) (by simp)).1 kA
theorem St.after (h : St w0 W p vW sW q vV sV f m cap X [(.slice az l2.length cz, l2), (.slice ay l2.length cy, l2), (vt, lt), (vo, lo), (vn, ln), (.slice ax lx.length cx, lx)]) (k : Keep (Sb (fun j => .slice (tri ax ay az j) (tri lx.length l2.length l2.length j) (tri cx cy cz j))) (W.alloc (.cells #[.slice ax lx.length cx, .slice ay l2.length cy, .slice az l2.length cz] 22)) w') :
    Wr w' p vW sW ∧ w'.ownsRow 0 5 1 vt lt.length (B8 lt) ∧ Below w0.heap.size w0 w' := by
  have n := h.new ((Below.refl W.heap.size W).alloc (Nat.le_refl _) (.cells #[.slice ax lx.length cx, .slice ay l2.length cy, .slice az l2.length cz] 22))
  have h1 := h.pw
  simp only [List.pairwise_cons, List.mem_cons, List.not_mem_nil, or_false, forall_eq_or_imp, forall_eq] at h1
  obtain ⟨⟨_, zt, _, _, _⟩, ⟨yt, _, _, _⟩, ⟨_, _, tx⟩, _⟩ := h1
  have hs : ∀ g, Sb (fun j => .slice (tri ax ay az j) (tri lx.length l2.length l2.length j) (tri cx cy cz j)) g → ¬ Wset p vW g ∧ w0.heap.size ≤ g ∧ vt.ownBlock ≠ some g := by
    rintro g ⟨j, hj, e⟩
    have hj' : j = 0 ∨ j = 1 ∨ j = 2 := by omega
    rcases hj' with rfl | rfl | rfl
    · have := (h.ks (.slice ax lx.length cx, lx) (by simp)).2 g e
      exact ⟨this.1, this.2.2.2, fun e2 => tx g e2 e⟩
    · have := (h.ks (.slice ay l2.length cy, l2) (by simp)).2 g e
      exact ⟨this.1, this.2.2.2, fun e2 => yt g e e2⟩
    · have := (h.ks (.slice az l2.length cz, l2) (by simp)).2 g e
      exact ⟨this.1, this.2.2.2, fun e2 => zt g e e2⟩
  exact ⟨n.wr.keep k fun g hg h2 => (hs g h2).1 hg, ownsRow_keep (n.ks (vt, lt) (by simp)).1 k fun g hg => (hs g hg).2.2, n.bl.trans (k.below n.bl.size fun g hg => (hs g hg).2.1)⟩
end
set_option maxRecDepth 100000 in
set_option maxHeartbeats 4000000 in
theorem owns_walk (aB : Option Addr) (nB cB : Nat) (lB : List Nat) (aC : Option Addr) (nC cC : Nat) (lC : List Nat) (w : World) (hB : Rd w aB nB lB) (hB0 : aB = none → cB = 0) (hBn : nB ≤ 140737488351232) (hC : Rd w aC nC lC) :
    Calls Try.prog 3 #[.slice aB nB cB, .slice aC nC cC] w fun en w' => en = .returned (.bool true) ∧ Below w.heap.size w w' := by
  have HB := hide hB
  have HB0 := hide hB0
  have HC := hide hC
  have HLB : Hid ((lB ++ [201, 202, 203]).take nB = lB) := by show _ = _; rw [HB.out.1, List.take_left']; rfl
  clear hB hB0 hC
  go_enter Try.func3, Try.ntmps3
  go_wp2_with fail
  refine (known_any _).mono ?_
  rintro e w1 ⟨rfl, hb1⟩
  have HB1 := hide hb1
  clear hb1
  go_wp2_with fail
  refine (NewWriter_any 16777216 _).mono ?_
  rintro e w2 ⟨rfl, h2⟩
  have H2 := hide h2
  clear h2
  go_wp2_with fail
  refine (RNewWriter_any 16777216 _).mono ?_
  rintro e w3 ⟨rfl, h3⟩
  have H3 := hide h3
  clear h3
  have HB3 : Hid (Below w.heap.size w w3) := (HB1.out.trans (H2.out.keep.below HB1.out.size (fun i hi => by have := HB1.out.size; omega))).trans (H3.out.keep.below (by have := HB1.out.size; have := H2.out.keep.size; omega) (fun i hi => by have := HB1.out.size; have := H2.out.keep.size; omega))
  go_wp2_with fail
  refine (room_any aB nB cB lB _ (HB.out.keep HB3.out) HB0.out hBn).mono ?_
  rintro e w4 ⟨f, cap, rfl, h4, hb4⟩
  obtain ⟨vW, vV, S4⟩ := St.begin HB1.out H2.out H3.out hb4 h4
  have hcap := S4.cap_le
  have HS := hide S4
  clear S4 h4 hb4 HB3
  generalize w1.heap.size = p at *
  generalize w2.heap.size = q at *
  clear HB1 H2 H3
  generalize (⟨[], room 16777216, 0⟩ : K.WS) = s0 at *
  go_upto_region 9 with fail
  refine wp_region_any (by kernel_rfl) ?_
  change wpAny _ _ _ _ _ _ _ (World.drew _)
  have HSd := hide (HS.out.new (Below.refl _ _).drew)
  clear HS
  generalize w4.drew = W at *
  refine wpAny_take (i := 1) (v := .pointer (some ⟨p, 0, none⟩)) rfl (by kernel_rfl) (by kernel_rfl) (by kernel_rfl) (fun _ _ _ h => h) (Or.inl ⟨by rfl, fun w => by go_simp⟩) ?_
  refine wpAny_take (i := 2) (v := .slice (some ⟨f, 0, none⟩) (nB + 3) cap) rfl (by kernel_rfl) (by kernel_rfl) (by kernel_rfl) (fun _ _ _ h => h) (Or.inl ⟨by rfl, fun w => by go_simp⟩) ?_
  refine wpAny_take (i := 3) (v := .slice aB nB cB) rfl (by kernel_rfl) (by kernel_rfl) (by kernel_rfl) (fun _ _ _ h => h) (Or.inl ⟨by rfl, fun w => by go_simp⟩) ?_
  refine wpAny_take (i := 4) (v := .int .i64 nB) rfl (by kernel_rfl) (by kernel_rfl) (by kernel_rfl) (fun _ _ _ h => h) (Or.inl ⟨by rfl, fun w => by go_simp⟩) ?_
  refine wpAny_take (i := 5) (v := .slice (some ⟨f, 0, none⟩) nB cap) rfl (by kernel_rfl) (by kernel_rfl) (by kernel_rfl) (fun _ _ _ h => h) (Or.inl ⟨by rfl, fun w => by go_simp; try (intro h; omega)⟩) ?_
  refine wpAny_ready (rs := [0]) (by kernel_rfl) (by simp) ?_
  refine AllReady.cons rfl (fun K hK => ?_) AllReady.nil
  go_simp
  go_wp2_with (go_at_call 8; refine (Blobs_any 9223372036854775807 _).mono ?_; rintro e w5 ⟨mb, rfl, hm5, hge5, hb5⟩; have HM5 := hide hm5; have HB5 := hide hb5; have HG5 := hide hge5; clear hm5 hb5 hge5)
  try (refine hK _ _ ?_; clear hK K)
  refine wpAny_ready (rs := [6]) (by kernel_rfl) (by simp) ?_
  refine AllReady.cons rfl (fun K hK => ?_) AllReady.nil
  go_simp
  go_wp2_with (go_at_call 9; refine (PutB (Wset p vW) w5 p _ _ _ _ _ (textW 9223372036854775807 lB) s0 _ (HSd.out.new HB5.out).atW (putF HSd.out (full_lt HB.out.2.2.1) (by omega) nB (by omega) hBn HLB.out mb HB5.out HM5.out HG5.out) ent_putBlob).mono ?_; rintro e w6 ⟨rfl, h6⟩; have H6 := hide h6; clear h6)
  try (refine hK _ _ ?_; clear hK K)
  obtain ⟨vW2, S6⟩ := (HSd.out.new HB5.out).wput H6.out
  have HS6 := hide S6
  clear S6 H6 HSd HB5 HM5 HG5
  refine wpAny_done (by kernel_rfl) ?_ _
  go_wp2_with fail
  refine (RBlob_any (Wset q vV) w6 q 9223372036854775807 aB nB cB lB s0 w6 HS6.out.atV (HB.out.keep HS6.out.bl) HB0.out hBn).mono ?_
  rintro e w7 ⟨rfl, h7⟩
  obtain ⟨vV2, S7⟩ := HS6.out.vput h7
  have HS7 := hide S7
  clear S7 h7 HS6
  generalize putW (textW 9223372036854775807 lB) s0 = s1 at *
  go_upto_region 11 with fail
  have HF7 := hide (rd_all HS7.out.row (full_lt HB.out.2.2.1) (by omega))
  go_cut [48] from 43 to 48 (fun t wx => t = .bool false ∧ Hid (Below w7.heap.size w7 wx))
  case first =>
    have kd := conv_rd (HF7.out.keep ((Below.refl _ _).drew)) cap
    have HF8 : Hid (∀ w8 : World, Below w7.heap.size w7 w8 → (convert 22 9 (.slice (some ⟨f, 0, none⟩) (nB + 3) cap)).run Try.prog w8 = .ok (.string (str (lB ++ [201, 202, 203]))) w8) := fun w8 b => conv_rd (HF7.out.keep b) cap
    have HN : Hid (∀ (w8 : World) (f8 cap8 : Nat), w8.ownsRow w7.drew.heap.size 5 1 (.slice (some ⟨f8, 0, none⟩) (nB + 3) cap8) (nB + 3) (B8 (lB ++ [201, 202, 203])) → (convert 22 9 (.slice (some ⟨f8, 0, none⟩) (nB + 3) cap8)).run Try.prog w8 = .ok (.string (str (lB ++ [201, 202, 203]))) w8) := fun w8 f8 cap8 h8 => conv_rd (rd_all (ownsRow_base h8 (Nat.zero_le _)) (full_lt HB.out.2.2.1) (by omega)) cap8
    have HR7 := hide ((HB.out.keep HS7.out.bl).keep (Below.refl _ _).drew)
    have HBd : Hid (Below w7.heap.size w7 w7.drew) := (Below.refl _ _).drew
    generalize str (lB ++ [201, 202, 203]) = F at *
    go_region_with (go_at_call 7; refine (room_any aB nB cB lB _ HR7.out HB0.out hBn).mono ?_; rintro e w8 ⟨f8, cap8, rfl, h8, hb8⟩; have HB8 : Hid (Below w7.heap.size w7 w8) := HBd.out.trans (hb8.mono HBd.out.size); have k8 := HF8.out _ HB8.out; have k9 := HN.out _ _ _ h8; clear h8 hb8)
    all_goals (go_wp2_with fail; go_meet; exact ⟨by simp, HB8.out⟩)
  case rest =>
    obtain ⟨rfl, hb8⟩ := hcut
    have HS8 := hide (HS7.out.new hb8.out)
    clear HS7 HF7 hb8
    go_wp2_with fail
    refine (Done_any (Wset p vW2) wc p s1 wc HS8.out.atW).mono ?_
    rintro e w9 ⟨vx, rfl, ho9, hb9, hfn⟩
    obtain ⟨ax, cx, hvx⟩ := ownsRow_shape ho9
    subst hvx
    have HFX := hide hfn
    have HS9 := hide (HS8.out.add hb9 ho9)
    clear ho9 hb9 hfn HS8
    obtain ⟨l1, hl1⟩ : ∃ l1, told s1 = l1 := ⟨_, rfl⟩
    have HL1 := hide hl1
    rw [hl1] at HFX HS9
    rw [hl1]
    clear hl1
    go_wp2_with fail
    refine (fill_any (some ⟨f, 0, none⟩) (nB + 3) cap _ 77 _ HS9.out.row (by omega)).mono ?_
    rintro e w10 ⟨rfl, hr10, hk10⟩
    have HS10 := hide (HS9.out.put (hk10.mono fun k (e : _ = some k) => by simpa [Value.ownBlock] using e.symm) ((rep8 (nB + 3) 77) ▸ hr10))
    clear hr10 hk10 HS9
    have HD10 : Hid (∀ d ∈ List.replicate (nB + 3) 77, d < 256) := fun d hd => by rw [(List.mem_replicate.1 hd).2]; decide
    generalize List.replicate (nB + 3) 77 = L77 at *
    have HD11 : Hid (∀ d ∈ lC.take nB ++ L77.drop (min nC nB), d < 256) := fun d hd => by
      rcases List.mem_append.1 hd with hd | hd
      · exact HC.out.2.2.1 d (List.mem_of_mem_take hd)
      · exact HD10.out d (List.mem_of_mem_drop hd)
    obtain ⟨L11, hL11⟩ : ∃ L11, lC.take nB ++ L77.drop (min nC nB) = L11 := ⟨_, rfl⟩
    rw [hL11] at HD11
    have HL11 := hide hL11
    clear hL11
    obtain ⟨ln, hln⟩ : ∃ ln, L11.take nB = ln := ⟨_, rfl⟩
    have HLN := hide hln
    have HDN : Hid (∀ d ∈ ln, d < 256) := fun d hd => HD11.out d (List.mem_of_mem_take (hln ▸ hd))
    have hnn : ln.length ≤ nB := by rw [← hln, List.length_take]; omega
    have HNN := hide hnn
    clear hln hnn
    have hcn : ¬ cap < nB := by omega
    go_wp2_with (first
      | (refine wp_copyF rfl _ _ rfl f nB (nB + 3) cap L77 (by omega) HS10.out.row aC nC cC lC (HC.out.keep HS10.out.bl) rfl rfl ?_; intro w11 x11 hr11 hk11; rw [HL11.out] at hr11; have HS11 := hide (HS10.out.put hk11 hr11); clear hr11 hk11)
      | (at_builtin; refine wpList_append_rd rfl _ _ rfl (.slice (some ⟨w11.heap.size, 0, none⟩) 0 0) [] w11.heap.size rfl (ownsRow_empty w11) (some ⟨f, 0, none⟩) nB cap ln rfl (((HLN.out ▸ rd_pre HS11.out.row HD11.out (by omega) (by omega : nB ≤ nB + 3)) : Rd w11 _ nB ln).keep ((Below.refl _ w11).alloc (Nat.le_refl _) _)) (fun e => by cases e) (by show 0 + nB ≤ _; omega) (by simp) ?_; intro v12 w12 ho12 hg12 hnb12; rw [List.nil_append] at ho12; have hb12 := below_grown (Below.refl _ w11) _ hg12 fun k hk => ((ownsRow_empty w11).lt k hk).1; have HS12 := hide (HS11.out.add hb12 ho12); obtain ⟨an, cn, hvn⟩ := ownsRow_shape ho12; subst hvn; clear ho12 hg12 hnb12 hb12))
    go_upto_region 17 with fail
    refine wp_region_any (by kernel_rfl) ?_
    change wpAny _ _ _ _ _ _ _ (World.drew _)
    have HSd := hide (HS12.out.new (Below.refl _ _).drew)
    clear HS12
    generalize w12.drew = W2 at *
    refine wpAny_take (i := 1) (v := .pointer (some ⟨p, 0, none⟩)) rfl (by kernel_rfl) (by kernel_rfl) (by kernel_rfl) (fun _ _ _ h => h) (Or.inl ⟨by rfl, fun w => by go_simp⟩) ?_
    refine wpAny_take (i := 2) (v := .slice (some ⟨f, 0, none⟩) (nB + 3) cap) rfl (by kernel_rfl) (by kernel_rfl) (by kernel_rfl) (fun _ _ _ h => h) (Or.inl ⟨by rfl, fun w => by go_simp⟩) ?_
    refine wpAny_take (i := 3) (v := .slice aB nB cB) rfl (by kernel_rfl) (by kernel_rfl) (by kernel_rfl) (fun _ _ _ h => h) (Or.inl ⟨by rfl, fun w => by go_simp⟩) ?_
    refine wpAny_take (i := 4) (v := .int .i64 nB) rfl (by kernel_rfl) (by kernel_rfl) (by kernel_rfl) (fun _ _ _ h => h) (Or.inl ⟨by rfl, fun w => by go_simp⟩) ?_
    refine wpAny_take (i := 5) (v := .slice (some ⟨f, 0, none⟩) nB cap) rfl (by kernel_rfl) (by kernel_rfl) (by kernel_rfl) (fun _ _ _ h => h) (Or.inl ⟨by rfl, fun w => by go_simp; try (intro h; omega)⟩) ?_
    refine wpAny_ready (rs := [0]) (by kernel_rfl) (by simp) ?_
    refine AllReady.cons rfl (fun K hK => ?_) AllReady.nil
    go_simp
    go_wp2_with (go_at_call 8; refine (Blobs_any 9223372036854775807 _).mono ?_; rintro e w13 ⟨mb2, rfl, hm5, hge5, hb5⟩; have HM5 := hide hm5; have HB5 := hide hb5; have HG5 := hide hge5; clear hm5 hb5 hge5)
    try (refine hK _ _ ?_; clear hK K)
    refine wpAny_ready (rs := [6]) (by kernel_rfl) (by simp) ?_
    refine AllReady.cons rfl (fun K hK => ?_) AllReady.nil
    go_simp
    go_wp2_with (go_at_call 9; refine (PutB (Wset p vW2) w13 p _ _ _ _ _ (textW 9223372036854775807 ln) s1 _ (HSd.out.new HB5.out).atW (putF HSd.out HD11.out (by omega) nB (by omega) hBn HLN.out mb2 HB5.out HM5.out HG5.out) ent_putBlob).mono ?_; rintro e w14 ⟨rfl, h6⟩; have H6 := hide h6; clear h6)
    try (refine hK _ _ ?_; clear hK K)
    obtain ⟨vW3, S14⟩ := (HSd.out.new HB5.out).wput H6.out
    have HS14 := hide S14
    clear S14 H6 HSd HB5 HM5 HG5
    refine wpAny_done (by kernel_rfl) ?_ _
    go_wp2_with fail
    refine (fill_any (some ⟨f, 0, none⟩) (nB + 3) cap _ 78 _ HS14.out.row (by omega)).mono ?_
    rintro e w15 ⟨rfl, hr15, hk15⟩
    have HS15 := hide (HS14.out.put (hk15.mono fun k (e : _ = some k) => by simpa [Value.ownBlock] using e.symm) hr15)
    clear hr15 hk15 HS14
    go_wp2_with fail
    refine (RDone_any (Wset q vV2) w15 q s1 w15 HS15.out.atV).mono ?_
    rintro e w16 ⟨vo, rfl, ho16, hb16, _⟩
    rw [HL1.out] at ho16
    obtain ⟨ao, co, hvo⟩ := ownsRow_shape ho16
    subst hvo
    have HS16 := hide (HS15.out.add hb16 ho16)
    clear ho16 hb16 HS15
    have HRN := hide (rd_of (l := ln) (HS16.out.ks (.slice an ln.length cn, ln) (by simp)).1 HDN.out (by have := HNN.out; omega))
    go_wp2_with fail
    refine (RBlob_any (Wset q vV2) w16 q 9223372036854775807 an ln.length cn ln s1 w16 HS16.out.atV HRN.out.1 HRN.out.2 (by have := HNN.out; omega)).mono ?_
    rintro e w17 ⟨rfl, h17⟩
    obtain ⟨vV3, S17⟩ := HS16.out.vput h17
    have HS17 := hide S17
    clear S17 h17 HS16 HRN
    generalize putW (textW 9223372036854775807 ln) s1 = s2 at *
    obtain ⟨l2, hl2⟩ : ∃ l2, told s2 = l2 := ⟨_, rfl⟩
    have HL2 := hide hl2
    clear hl2
    go_wp2_with fail
    refine (RDone_any (Wset q vV3) w17 q s2 w17 HS17.out.atV).mono ?_
    rintro e w18 ⟨vt, rfl, ho18, hb18, hfn2⟩
    rw [HL2.out] at ho18 hfn2
    have HF2 := hide hfn2
    obtain ⟨aw, ct, hvt⟩ := ownsRow_shape ho18
    subst hvt
    have HS18 := hide (HS17.out.add hb18 ho18)
    clear ho18 hb18 HS17 hfn2
    go_wp2_with fail
    refine (Done_any (Wset p vW3) w18 p s2 w18 HS18.out.atW).mono ?_
    rintro e w19 ⟨vy, rfl, ho19, hb19, _⟩
    rw [HL2.out] at ho19
    obtain ⟨ay, cy, hvy⟩ := ownsRow_shape ho19
    subst hvy
    have HS19 := hide (HS18.out.add hb19 ho19)
    clear ho19 hb19 HS18
    go_wp2_with fail
    refine (Done_any (Wset p vW3) w19 p s2 w19 HS19.out.atW).mono ?_
    rintro e w20 ⟨vz, rfl, ho20, hb20, _⟩
    rw [HL2.out] at ho20
    obtain ⟨az, cz, hvz⟩ := ownsRow_shape ho20
    subst hvz
    have HS20 := hide (HS19.out.add hb20 ho20)
    clear ho20 hb20 HS19
    have HX1 := hide (rd_of (l := l1) (HS20.out.ks (.slice ax l1.length cx, l1) (by simp)).1 HFX.out.1 (by have := HFX.out.2; omega)).1
    have HO1 := hide (rd_of (l := l1) (HS20.out.ks (.slice ao l1.length co, l1) (by simp)).1 HFX.out.1 (by have := HFX.out.2; omega)).1
    have HT1 := hide (rd_of (l := l2) (HS20.out.ks (.slice aw l2.length ct, l2) (by simp)).1 HF2.out.1 (by have := HF2.out.2; omega)).1
    have HY1 := hide (rd_of (l := l2) (HS20.out.ks (.slice ay l2.length cy, l2) (by simp)).1 HF2.out.1 (by have := HF2.out.2; omega)).1
    have HZ1 := hide (rd_of (l := l2) (HS20.out.ks (.slice az l2.length cz, l2) (by simp)).1 HF2.out.1 (by have := HF2.out.2; omega)).1
    have HN3 : Hid (∀ j, j < 3 → tri l1.length l2.length l2.length j ≤ 16777216) := fun j hj => by
      have hj' : j = 0 ∨ j = 1 ∨ j = 2 := by omega
      rcases hj' with rfl | rfl | rfl
      · exact HFX.out.2
      · exact HF2.out.2
      · exact HF2.out.2
    go_wp2_with fail
    refine (alike_same ax ao l1.length cx l1.length co _ l1 _ HX1.out HO1.out).mono ?_
    rintro e w21 ⟨rfl, rfl⟩
    clear HX1 HO1
    go_wp2_with fail
    refine (alike_same ay aw l2.length cy l2.length ct _ l2 _ HY1.out HT1.out).mono ?_
    rintro e w22 ⟨rfl, rfl⟩
    clear HY1
    go_wp2_with fail
    refine (alike_same az aw l2.length cz l2.length ct _ l2 _ HZ1.out HT1.out).mono ?_
    rintro e w23 ⟨rfl, rfl⟩
    clear HZ1 HT1
    go_wp2_with fail
    refine (own_any (tri ax ay az) (tri l1.length l2.length l2.length) (tri cx cy cz) (tri (B8 l1) (B8 l2) (B8 l2)) w23.heap.size _ HS20.out.o3 (by simp) HS20.out.apart HN3.out).mono ?_
    rintro e w24 ⟨rfl, hk⟩
    have HAF := hide (HS20.out.after hk)
    clear hk HS20 HN3
    go_wp2_with fail
    refine (Done_any (Wset p vW3) w24 p s2 w24 ⟨Keep.refl _ _, vW3, HAF.out.1, fun _ hk => .inl hk⟩).mono ?_
    rintro e w25 ⟨vy2, rfl, ho25, hb25, _⟩
    rw [HL2.out] at ho25
    obtain ⟨ay2, cy2, hvy2⟩ := ownsRow_shape ho25
    subst hvy2
    have HY2 := hide (rd_of (ownsRow_base ho25 (Nat.zero_le _)) HF2.out.1 (by have := HF2.out.2; omega)).1
    have HT2 := hide ((rd_of HAF.out.2.1 HF2.out.1 (by have := HF2.out.2; omega)).1.keep hb25)
    have HE := hide (HAF.out.2.2.trans (hb25.mono HAF.out.2.2.size))
    clear HAF ho25 hb25
    go_wp2_with fail
    refine (alike_same ay2 aw l2.length cy2 l2.length ct _ l2 _ HY2.out HT2.out).mono ?_
    rintro e w26 ⟨rfl, rfl⟩
    go_wp2_with fail
    go_ret
    exact ⟨by simp, HE.out⟩
end Ow
end Go.Proofs.Ytnahlhjomolmjaa
