import Derived.Test.YtbjcckfhfbjchaaGreatCEv
import Derived.Test.YtbjcckfhfbjchaaGreatCdB
import Derived.Lib.ConvBytes
import Derived.Deep.RegionHeld3
/- Codec: known (written by cew_gen.py). -/
namespace Go.Proofs.YtbjcckfhfbjchaaGreat
namespace Cd
open Go.RowKit Go.Deep

theorem conv_below (w : World) (e : TypeId) (t : ByteArray) : Below w.heap.size w (Lib.bytesWorld w e t) := by
  refine ⟨rfl, rfl, rfl, ?_, fun k hk => Lib.bytesWorld_at_old w e t k hk⟩
  have := (Array.getElem?_eq_some_iff.1 (Lib.bytesWorld_at_new w e t)).1
  omega
theorem bytes_rd (w : World) (e : TypeId) (t : ByteArray) (ht : t.size ≤ 140737488351232) : Rd (Lib.bytesWorld w e t) (some ⟨w.heap.size, 0, none⟩) t.size (sb t) := by
  refine ⟨(sb_len t).symm, by omega, sb_lt t, .inr ⟨w.heap.size, 0, rfl, fun i hi => ?_⟩⟩
  rw [cell_of_row _ _ _ _ _ _ (Lib.bytesWorld_at_new w e t)]
  have hs : i < t.data.size := hi
  unfold Lib.bytesCells
  rw [Nat.zero_add, Array.getElem?_append_left (by simpa using hs)]
  have hg := Array.getElem?_eq_getElem hs
  simp [sb, hg]
/-- an operation with a kind, a lane and a worker alone -/
theorem opD_bare (B0 : Nat) (w : World) (k la wo : Int) (h1 : la ≤ 9223372036854775807) (h2 : wo ≤ 9223372036854775807) : OpD B0 w k ⟨#[]⟩ 0 none 0 0 ⟨#[]⟩ la wo 0 none 0 0 0 0 0 { ov0 k with la := la, wo := wo } [] :=
  ⟨rfl, rfl, ⟨rfl, by decide, .inl rfl, fun x hx => by cases hx⟩, rfl, by decide, ⟨rfl, h1⟩, ⟨rfl, h2⟩, ⟨rfl, by decide⟩, ⟨rfl, by decide, (fun d hd => by cases hd), .inl rfl⟩, by decide, fun _ => rfl, fun h => absurd rfl h, ⟨rfl, by decide⟩, ⟨rfl, (show (0 : Nat) < 18446744073709551616 by decide)⟩, ⟨rfl, by decide⟩⟩
theorem lit_sz : Gr.Sz ⟨#[112]⟩ [litN] := ⟨by decide, fun x hx => by simp only [List.mem_singleton] at hx; subst hx; decide⟩
theorem nil_sz : Gr.Sz ⟨#[]⟩ [] := ⟨by decide, fun x hx => by cases hx⟩
theorem lit_ok : POk ⟨#[112]⟩ 100 [litN] := ⟨by decide, by decide, by decide, fun x hx => by
  simp only [List.mem_singleton] at hx
  subst hx
  exact ⟨by decide, by decide, by decide, by decide, by decide, by decide, by decide, by decide, (fun x hx => by cases hx), (fun x hx => by cases hx)⟩⟩
theorem nil_ok : POk ⟨#[]⟩ 0 [] := ⟨by decide, by decide, by decide, fun x hx => by cases hx⟩
theorem lit_sb : sb ⟨#[1, 112, 100, 1, 1, 97, 0, 2, 10, 0, 4, 8, 0, 0, 0]⟩ = litB := by decide
theorem alkp_lit {xs : List Gr.No} (h : xs.map er = [litN].map er) : AlkP ⟨#[112]⟩ 100 xs ⟨#[112]⟩ 100 [litN] := by
  refine ⟨rfl, rfl, by simpa using congrArg List.length h, fun i x y hx hy => ?_⟩
  have e : (xs.map er)[i]? = ([litN].map er)[i]? := by rw [h]
  rw [List.getElem?_map, List.getElem?_map, hx, hy] at e
  simp only [Option.map_some, Option.some.injEq] at e
  have q := congrArg Gr.No.q e
  have t0 : (er x).nl = (er y).nl := congrArg Gr.No.nl e
  have t1 : (er x).al = (er y).al := congrArg Gr.No.al e
  have t2 : (er x).q.nm = (er y).q.nm := congrArg Gr.Nd.nm q
  have t3 : (er x).q.la = (er y).q.la := congrArg Gr.Nd.la q
  have t4 : (er x).q.bu = (er y).q.bu := congrArg Gr.Nd.bu q
  have t5 : (er x).q.cl = (er y).q.cl := congrArg Gr.Nd.cl q
  have t6 : (er x).q.be = (er y).q.be := congrArg Gr.Nd.be q
  have t7 : (er x).q.ba = (er y).q.ba := congrArg Gr.Nd.ba q
  have t8 : (er x).q.ca = (er y).q.ca := congrArg Gr.Nd.ca q
  have t9 : (er x).q.ji = (er y).q.ji := congrArg Gr.Nd.ji q
  exact ⟨t0, t1, t2, t3, t4, t5, t6, t7, t8, t9⟩
theorem same_lit (s : Option Addr × Nat × Nat) (xs : List Gr.No) (s' : Option Addr × Nat × Nat) (B B' : Nat) (w : World) (hP : Gr.RdP B w s xs) (hQ : Gr.RdP B' w s' [litN]) (hx : xs.map er = [litN].map er) :
    Calls Tryz.prog 21 #[.agg #[.string ⟨#[112]⟩, .int .i64 100, .slice s.1 s.2.1 s.2.2], .agg #[.string ⟨#[112]⟩, .int .i64 100, .slice s'.1 s'.2.1 s'.2.2]] w fun e w' => e = .returned (.bool true) ∧ Keep (fun _ => False) w w' := by
  refine (plan12_any ⟨#[112]⟩ 100 s xs ⟨#[112]⟩ 100 s' [litN] B B' w hP hQ).mono ?_
  rintro e w' ⟨⟨q, rfl, hq⟩, hk⟩
  obtain rfl : q = true := hq.2 (alkp_lit hx)
  exact ⟨rfl, hk⟩
theorem byt_lit : Byt (newR litB) := by
  show ∀ d ∈ litB, d < 256
  decide
set_option maxRecDepth 10000 in
set_option maxHeartbeats 4000000 in
theorem known12_any (w : World) : Calls Tryz.prog 8 #[] w fun en w' => en = .returned (.bool true) ∧ Below w.heap.size w w' := by
  have hconv : ∀ (w : World) (t : ByteArray), (convert 9 24 (.string t)).run Tryz.prog w = .ok (.slice (some ⟨w.heap.size, 0, none⟩) t.size (grownCap w t.size 0 5)) (Lib.bytesWorld w 5 t) :=
    fun w t => Lib.run_convert_string_bytes w 9 24 5 t Tryz.underlying9 Tryz.underlying24 Tryz.underlying5
  go_enter Tryz.func8, Tryz.ntmps8
  go_wp2_with fail
  refine (little_any _).mono ?_
  rintro e w1 ⟨g, rfl, hr, hb1⟩
  have HB1 := hide hb1
  have PB := hide (PlanBytes_any ⟨#[112]⟩ 100 _ 1 1 [litN] w1 hr lit_sz (fun _ => lit_ok))
  rw [lit_B, lit_C] at PB
  clear hb1 hr
  go_wp2_with fail
  refine PB.out.mono ?_
  rintro e w2 ⟨v, rfl, ho, hb2, hfn⟩
  obtain ⟨a2, c2, rfl, hr2, _⟩ := ownsRow_rd ho hfn.1 (by decide)
  have HB2 := hide (HB1.out.trans (hb2.mono HB1.out.size))
  have HR2 := hide hr2
  clear ho hb2 hfn hr2 PB HB1
  go_wp2_with fail
  have hl : Rd (Lib.bytesWorld w2 5 ⟨#[1, 112, 100, 1, 1, 97, 0, 2, 10, 0, 4, 8, 0, 0, 0]⟩) (some ⟨w2.heap.size, 0, none⟩) 15 litB := lit_sb ▸ bytes_rd w2 5 ⟨#[1, 112, 100, 1, 1, 97, 0, 2, 10, 0, 4, 8, 0, 0, 0]⟩ (by decide)
  have hcb := conv_below w2 5 ⟨#[1, 112, 100, 1, 1, 97, 0, 2, 10, 0, 4, 8, 0, 0, 0]⟩
  have HBc := hide (HB2.out.trans (hcb.mono HB2.out.size))
  have HRc := hide (HR2.out.keep hcb)
  refine (ReadPlan_any _ _ _ litB _ hl (fun e => by cases e)).mono ?_
  clear hl hcb HB2 HR2
  generalize Lib.bytesWorld w2 5 ⟨#[1, 112, 100, 1, 1, 97, 0, 2, 10, 0, 4, 8, 0, 0, 0]⟩ = w2c at *
  rw [lit_E]
  rintro e w3 ⟨v3, rfl, _, hv3, _, hb3⟩
  have hv3 : PlV (planVal (newR litB)) w3 v3 := hv3 rfl
  rw [lit_V] at hv3
  obtain ⟨a3, n3, c3, xs, e3, hP3, hx3, -, -, -, -⟩ := hv3.rd (lit_V ▸ planVal_k byt_lit)
  have e3' : v3 = .agg #[.string ⟨#[112]⟩, .int .i64 100, .slice a3 n3 c3] := by
    rw [e3, show (str (pv ⟨#[112]⟩ 100 [litN]).1.1) = (⟨#[112]⟩ : ByteArray) from str_sb _]
    rfl
  subst e3'
  clear hv3 e3
  have hb4 : Below w3.heap.size w3 (w3.alloc (.cells #[.string ⟨#[112]⟩, .int .i64 100, .slice a3 n3 c3] 30)) := (Below.refl _ _).alloc (Nat.le_refl _) _
  have hx4 := heap_alloc_new w3 (.cells #[.string ⟨#[112]⟩, .int .i64 100, .slice a3 n3 c3] 30)
  have hb3' := HBc.out.trans (hb3.mono HBc.out.size)
  have HB4 := hide (hb3'.trans (hb4.mono hb3'.size))
  have HR4 := hide ((HRc.out.keep hb3).keep hb4)
  have HP4 := hide ((hP3.keep (below_keep hb4 (Nat.le_refl _)) (fun _ f => f.elim)).mono hb4.size)
  have HX4 := hide hx4
  have HX3 : Hid (xs.map er = [litN].map er) := hx3
  clear hP3 hx3 hb3 hb3' hb4 hx4 HBc HRc
  go_upto_region 4 with fail
  generalize w3.alloc (.cells #[.string ⟨#[112]⟩, .int .i64 100, .slice a3 n3 c3] 30) = w4 at *
  generalize w3.heap.size = pb at *
  have OB := hide (OpBytes_any 2 ⟨#[]⟩ 0 none 0 0 ⟨#[]⟩ 3 200 0 none 0 0 0 0 0 pollO [] w4 (opD_bare _ _ 2 3 200 (by decide) (by decide)) (by decide) nil_sz (fun _ => nil_ok))
  rw [poll_B _ (poll_chk _), poll_C _ (poll_chk _)] at OB
  go_wp2_with fail
  refine OB.out.mono ?_
  rintro e w5 ⟨v, rfl, ho, hb5, hfn⟩
  obtain ⟨a5, c5, rfl, hr5, _⟩ := ownsRow_rd ho hfn.1 (by decide)
  have hba := (Below.refl w5.heap.size w5).alloc (Nat.le_refl _) (.cells (B8 [9, 0]).toArray 5)
  have hb5a := hb5.trans (hba.mono hb5.size)
  have HB5 := hide (HB4.out.trans (hb5a.mono HB4.out.size))
  have HR5 := hide (HR4.out.keep hb5a)
  have HS5 := hide (hr5.keep hba)
  have HX5 := hide (blkB HX4.out hb5a)
  have HP5 := hide ((HP4.out.keep (below_keep hb5a (Nat.le_refl _)) (fun _ f => f.elim)).mono hb5a.size)
  have RO := hide (codecReadOp_any (some ⟨w5.heap.size, 0, none⟩) 2 2 [9, 0] (w5.alloc (.cells (B8 [9, 0]).toArray 5)) (rd_new w5 [9, 0] (by decide) (by decide)) (fun e => by cases e))
  rw [tick_E] at RO
  clear ho hb5 hfn hr5 hba hb5a OB HB4 HR4 HX4 HP4
  go_wp2_with fail
  refine RO.out.mono ?_
  rintro e w6 ⟨v6, rfl, _, hv6, _, hb6⟩
  obtain ⟨ki, nm, dl, x1, x2, x3, ky, la, wo, tk, y1, y2, y3, ru, lu, ti, e6, hov⟩ := hv6 (by trivial)
  have hki : ki = 9 := hov.1.1.trans tick_V
  subst e6 hki
  have hb7 : Below w6.heap.size w6 (w6.alloc (.cells #[.int .i64 9, .string nm, .int .i64 dl, .slice x1 x2 x3, .string ky, .int .i64 la, .int .i64 wo, .int .i64 tk, .slice y1 y2 y3, .int .i64 ru, .int .u64 lu, .int .i64 ti] 32)) := (Below.refl _ _).alloc (Nat.le_refl _) _
  have HY7 := hide (heap_alloc_new w6 (.cells #[.int .i64 9, .string nm, .int .i64 dl, .slice x1 x2 x3, .string ky, .int .i64 la, .int .i64 wo, .int .i64 tk, .slice y1 y2 y3, .int .i64 ru, .int .u64 lu, .int .i64 ti] 32))
  have hb67 := hb6.trans (hb7.mono hb6.size)
  have HB7 := hide (HB5.out.trans (hb67.mono HB5.out.size))
  have HX7 := hide (blkB HX5.out hb67)
  have HP7 := hide ((HP5.out.keep (below_keep hb67 (Nat.le_refl _)) (fun _ f => f.elim)).mono hb67.size)
  have k1 := conv_rd (HR5.out.keep hb67) c2
  have k2 := conv_rd (HS5.out.keep hb67) c5
  clear hv6 hb6 hb7 hb67 hov HB5 HR5 HS5 HX5 HP5 RO
  go_upto_region 6 with fail
  generalize w6.alloc (.cells #[.int .i64 9, .string nm, .int .i64 dl, .slice x1 x2 x3, .string ky, .int .i64 la, .int .i64 wo, .int .i64 tk, .slice y1 y2 y3, .int .i64 ru, .int .u64 lu, .int .i64 ti] 32) = w7 at *
  generalize w6.heap.size = ob at *
  have k1' : (convert 24 9 (.slice a2 litB.length c2)).run Tryz.prog w7 = .ok (.string ⟨#[1, 112, 100, 1, 1, 97, 0, 2, 10, 0, 4, 8, 0, 0, 0]⟩) w7 := k1
  have k2' : (convert 24 9 (.slice a5 4 c5)).run Tryz.prog w7 = .ok (.string ⟨#[2, 3, 200, 1]⟩) w7 := k2
  clear k1 k2
  go_upto_region 7 with fail
  clear k1' k2'
  have d0 := cell_blk HX7.out 0 (v := .string ⟨#[112]⟩) rfl
  have d1 := cell_blk HX7.out 1 (v := .int .i64 100) rfl
  have d2 := cell_blk HX7.out 2 (v := .slice a3 n3 c3) rfl
  have d3 := cell_blk HY7.out 0 (v := .int .i64 9) rfl
  have HBr := hide (HB7.out.trans (((Below.refl w7.heap.size w7).drew).mono HB7.out.size))
  have HPr : Hid (Gr.RdP w7.drew.heap.size w7.drew (a3, n3, c3) xs) := hide ((HP7.out.keep (Keep.drew (fun _ => False) w7) (fun _ f => f.elim)).mono (Nat.le_refl _))
  have HXr : Hid (w7.drew.heap[pb]? = some (.cells #[.string ⟨#[112]⟩, .int .i64 100, .slice a3 n3 c3] 30 (0, 0))) := HX7.out
  have HYr : Hid (w7.drew.heap[ob]? = some (.cells #[.int .i64 9, .string nm, .int .i64 dl, .slice x1 x2 x3, .string ky, .int .i64 la, .int .i64 wo, .int .i64 tk, .slice y1 y2 y3, .int .i64 ru, .int .u64 lu, .int .i64 ti] 32 (0, 0))) := HY7.out
  have HS0 : Hid (w7.cell? ⟨pb, 0, none⟩ = some (.string ⟨#[112]⟩) ∧ w7.cell? ⟨pb, 1, none⟩ = some (.int .i64 100) ∧ w7.cell? ⟨pb, 2, none⟩ = some (.slice a3 n3 c3) ∧ w7.cell? ⟨ob, 0, none⟩ = some (.int .i64 9)) := ⟨d0, d1, d2, d3⟩
  go_region_held3 (fun wx => wx.cell? ⟨pb, 0, none⟩ = some (.string ⟨#[112]⟩) ∧ wx.cell? ⟨pb, 1, none⟩ = some (.int .i64 100) ∧ wx.cell? ⟨pb, 2, none⟩ = some (.slice a3 n3 c3) ∧ wx.cell? ⟨ob, 0, none⟩ = some (.int .i64 9)) (first | (exact HS0.out) | (exact HSr.out) | go_keep) (first
    | (go_at_call 21; refine (same_lit (a3, n3, c3) xs _ _ _ _ HPr.out HLr.out HX3.out).mono ?_; rintro e w8 ⟨rfl, hk⟩; have hbb := (hk.below (Nat.le_refl _) (fun _ f => f.elim)); have HBn := hide (HBr.out.trans (hbb.mono HBr.out.size)); have HXn := hide (blkB HXr.out hbb); have HYn := hide (blkB HYr.out hbb); have HPn := hide ((HPr.out.keep (below_keep hbb (Nat.le_refl _)) (fun _ f => f.elim)).mono hbb.size); have HSr : Hid (w8.cell? ⟨pb, 0, none⟩ = some (.string ⟨#[112]⟩) ∧ w8.cell? ⟨pb, 1, none⟩ = some (.int .i64 100) ∧ w8.cell? ⟨pb, 2, none⟩ = some (.slice a3 n3 c3) ∧ w8.cell? ⟨ob, 0, none⟩ = some (.int .i64 9)) := ⟨cell_blk HXn.out 0 rfl, cell_blk HXn.out 1 rfl, cell_blk HXn.out 2 rfl, cell_blk HYn.out 0 rfl⟩; clear HBr HXr HYr HPr; have HBr := hide HBn.out; have HXr := hide HXn.out; have HYr := hide HYn.out; have HPr := hide HPn.out; clear HBn HXn HYn HPn; try (have HLn := hide ((HLr.out.keep (below_keep hbb (Nat.le_refl _)) (fun _ f => f.elim)).mono hbb.size); clear HLr; have HLr := hide HLn.out; clear HLn); clear hbb)
    | (go_at_call 13; refine (Check_any 0 ⟨#[]⟩ 0 none 0 0 ⟨#[]⟩ 0 0 0 none 0 0 0 0 0 _ [] _ (opD_bare _ _ 0 0 0 (by decide) (by decide)) nil_sz).mono ?_; rw [none_chk _ rfl]; rintro e w8 ⟨rfl, hb⟩; have hbb := hb; have HBn := hide (HBr.out.trans (hbb.mono HBr.out.size)); have HXn := hide (blkB HXr.out hbb); have HYn := hide (blkB HYr.out hbb); have HPn := hide ((HPr.out.keep (below_keep hbb (Nat.le_refl _)) (fun _ f => f.elim)).mono hbb.size); have HSr : Hid (w8.cell? ⟨pb, 0, none⟩ = some (.string ⟨#[112]⟩) ∧ w8.cell? ⟨pb, 1, none⟩ = some (.int .i64 100) ∧ w8.cell? ⟨pb, 2, none⟩ = some (.slice a3 n3 c3) ∧ w8.cell? ⟨ob, 0, none⟩ = some (.int .i64 9)) := ⟨cell_blk HXn.out 0 rfl, cell_blk HXn.out 1 rfl, cell_blk HXn.out 2 rfl, cell_blk HYn.out 0 rfl⟩; clear HBr HXr HYr HPr; have HBr := hide HBn.out; have HXr := hide HXn.out; have HYr := hide HYn.out; have HPr := hide HPn.out; clear HBn HXn HYn HPn; try (have HLn := hide ((HLr.out.keep (below_keep hbb (Nat.le_refl _)) (fun _ f => f.elim)).mono hbb.size); clear HLr; have HLr := hide HLn.out; clear HLn); clear hbb)
    | (go_at_call 20; refine (little_any _).mono ?_; rintro e w8 ⟨g8, rfl, hl, hb⟩; have HLr := hide hl; have hbb := hb; have HBn := hide (HBr.out.trans (hbb.mono HBr.out.size)); have HXn := hide (blkB HXr.out hbb); have HYn := hide (blkB HYr.out hbb); have HPn := hide ((HPr.out.keep (below_keep hbb (Nat.le_refl _)) (fun _ f => f.elim)).mono hbb.size); have HSr : Hid (w8.cell? ⟨pb, 0, none⟩ = some (.string ⟨#[112]⟩) ∧ w8.cell? ⟨pb, 1, none⟩ = some (.int .i64 100) ∧ w8.cell? ⟨pb, 2, none⟩ = some (.slice a3 n3 c3) ∧ w8.cell? ⟨ob, 0, none⟩ = some (.int .i64 9)) := ⟨cell_blk HXn.out 0 rfl, cell_blk HXn.out 1 rfl, cell_blk HXn.out 2 rfl, cell_blk HYn.out 0 rfl⟩; clear HBr HXr HYr HPr; have HBr := hide HBn.out; have HXr := hide HXn.out; have HYr := hide HYn.out; have HPr := hide HPn.out; clear HBn HXn HYn HPn; clear hbb))
  all_goals go_wp2
  all_goals refine bodyPost_ret (results_tmp rfl _ _ _) rfl ?_
  all_goals exact ⟨rfl, HBr.out⟩
end Cd
end Go.Proofs.YtbjcckfhfbjchaaGreat

/- Codec: the laws' pick, delay. -/
namespace Go.Proofs.YtbjcckfhfbjchaaGreat
namespace Cd
open Go.RowKit Go.Deep

/-- what pick tells -/
def pkk (c n : Int) : Int := (if c < 0 then -(c + 1) else c) % n
theorem pkk_lt {c n : Int} (hn : 0 < n) : 0 ≤ pkk c n ∧ pkk c n < n := by
  unfold pkk
  exact ⟨Int.emod_nonneg _ (by omega), Int.emod_lt_of_pos _ hn⟩
theorem pick12_any (c n : Int) (hn : 0 < n) (h1 : -9223372036854775808 ≤ c) (h2 : c ≤ 9223372036854775807) (h3 : n ≤ 9223372036854775807) (w : World) :
    Calls Tryz.prog 19 #[.int .i64 c, .int .i64 n] w fun e w' => e = .returned (.int .i64 (pkk c n)) ∧ w' = w := by
  have hp := pkk_lt (c := c) hn
  have he : pkk c n = (if c < 0 then -(c + 1) else c) % n := rfl
  have HE : Hid (pkk c n = (if c < 0 then -(c + 1) else c) % n) := he
  clear hp he
  generalize pkk c n = r at *
  by_cases hc : c < 0
  · have he := HE.out
    rw [if_pos hc] at he
    have HR := hide he
    clear he
    go_enter Tryz.func19, Tryz.ntmps19
    go_wp2_with fail
    go_ret
    refine ⟨?_, rfl⟩
    have e : -(c + 1).tmod n = (-(c + 1)) % n := by rw [← Int.neg_tmod, Int.tmod_eq_emod_of_nonneg (by omega)]
    rw [HR.out, ← e]
    rfl
  · have he := HE.out
    rw [if_neg hc] at he
    have HR := hide he
    clear he
    go_enter Tryz.func19, Tryz.ntmps19
    go_wp2_with fail
    go_ret
    refine ⟨?_, rfl⟩
    rw [HR.out]
    rfl
/-- a delay, of its least on -/
theorem delay12_any (c l : Int) (h0 : 0 ≤ l) (hl : l ≤ 1099511627776) (h1 : -9223372036854775808 ≤ c) (h2 : c ≤ 9223372036854775807) (w : World) :
    Calls Tryz.prog 23 #[.int .i64 c, .int .i64 l] w fun e w' => (∃ r : Int, e = .returned (.int .i64 r) ∧ l ≤ r ∧ r ≤ 1099511627776 ∧ r = l + pkk c (1099511627777 - l)) ∧ w' = w := by
  have PK := hide (pick12_any c (1099511627777 - l) (by omega) h1 h2 (by omega) w)
  obtain ⟨r, hr⟩ : ∃ r, pkk c (1099511627777 - l) = r := ⟨_, rfl⟩
  have HP := hide (pkk_lt (c := c) (n := 1099511627777 - l) (by omega))
  rw [hr] at PK HP ⊢
  have hp1 := HP.out.1
  have hp2 := HP.out.2
  clear hr
  go_enter Tryz.func23, Tryz.ntmps23
  go_wp2_with fail
  refine PK.out.mono ?_
  rintro e w1 ⟨rfl, rfl⟩
  go_wp2_with fail
  go_ret
  exact ⟨⟨_, rfl, by omega, by omega, rfl⟩, rfl⟩
end Cd
end Go.Proofs.YtbjcckfhfbjchaaGreat
