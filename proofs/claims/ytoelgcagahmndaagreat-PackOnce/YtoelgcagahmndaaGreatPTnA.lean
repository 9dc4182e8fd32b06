import Derived.Test.YtoelgcagahmndaaGreatPTn2
import Derived.Test.YtoelgcagahmndaaGreatPToA
/- The law's taken of a step: a list of texts (written by tq_gen.py). -/
namespace Go.Proofs.YtoelgcagahmndaaGreat
namespace Wm
open Go.RowKit Go.Deep

theorem info_str : (Tryz.prog.info? 9).map (fun i => (i.zero, i.size, i.bytes)) = some (some (.string ⟨#[]⟩), 1, 16) := by kernel_rfl
set_option maxRecDepth 100000 in
set_option maxHeartbeats 4000000 in
theorem taken_texts (r : Nat) (s : K.RS) (wh : Int) (mo nn : Int) (x1 x4 x5 x6 x7 x8 x9 x10 : Value) (w : World) (h : Qr w r s) (h1 : -9223372036854775808 ≤ wh) (h2 : wh ≤ 9223372036854775807) (hk : ((pk wh : Nat) : Int) = 6) :
    Calls Tryz.prog 34 #[.pointer (some ⟨r, 0, none⟩), .agg #[.int .i64 wh, x1, .int .i64 mo, .int .i64 nn, x4, x5, x6, x7, x8, x9, x10]] w (TkQ r (takeR (listR (min mo 16777216) (rowR nn)) s) ({ td0 with T := lvS (min mo 16777216) nn s }) w) := by
  have hrw := h.lt
  have HH := hide h
  have HB : Hid (Bk w ((w.alloc (.cells #[.int .i64 wh, x1, .int .i64 mo, .int .i64 nn, x4, x5, x6, x7, x8, x9, x10] 74)).alloc (.cells z7 77)) w.heap.size (w.heap.size + 1) #[.int .i64 wh, x1, .int .i64 mo, .int .i64 nn, x4, x5, x6, x7, x8, x9, x10]) := ⟨Nat.le_refl _, by omega, (Keep.alloc (fun _ => False) _ _).blk (heap_alloc_new w _) fun f => f, by have := heap_alloc_new (w.alloc (.cells #[.int .i64 wh, x1, .int .i64 mo, .int .i64 nn, x4, x5, x6, x7, x8, x9, x10] 74)) (.cells z7 77); simpa using this⟩
  have HK : Hid (Below w.heap.size w ((w.alloc (.cells #[.int .i64 wh, x1, .int .i64 mo, .int .i64 nn, x4, x5, x6, x7, x8, x9, x10] 74)).alloc (.cells z7 77))) := ((Below.refl _ _).alloc (Nat.le_refl _) _).alloc (by simp) _
  have HR := hide (h.below HK.out)
  have HGn : Hid (Gn (rowR nn)) := gn_rw (rw_text nn)
  have HLA := hide (list_all mo (rowR nn) s)
  have HLV : Hid ((takeR (listR (min mo 16777216) (rowR nn)) s).fault = 0 → lvS (min mo 16777216) nn s = valsOf (rowR nn) (fun s => str (rowV nn s)) (hdN mo s) (takeR (headR mo) s)) := fun hz => by unfold lvS; rw [okR_yes hz]; exact list_vals mo (rowR nn) _ s hz
  have HLN : Hid ((takeR (listR (min mo 16777216) (rowR nn)) s).fault ≠ 0 → lvS (min mo 16777216) nn s = []) := fun hz => by unfold lvS; rw [okR_no hz]
  have hN : hdN mo s ≤ 16777216 := Nat.le_trans (hd_le mo s) h.top
  have HHd : Hid (okR (headR mo) s ((headV mo s : Nat) : Int) 0 = ((hdN mo s : Nat) : Int)) := ok_int _ _ _
  obtain ⟨LV, hLV⟩ : ∃ LV, lvS (min mo 16777216) nn s = LV := ⟨_, rfl⟩
  rw [hLV] at HLV HLN ⊢
  clear hLV
  have HKr := hide (Keep.ofBelow (S := fun k => k = r) HK.out (Nat.le_refl _))
  obtain ⟨s1, hs1⟩ : ∃ s1, takeR (listR (min mo 16777216) (rowR nn)) s = s1 := ⟨_, rfl⟩
  rw [hs1]
  have HS1 := hide hs1
  rw [hs1] at HLA HLV HLN
  clear h hs1
  go_enter Tryz.func34, Tryz.ntmps34
  go_upto_region 1 with fail
  change Code.wp _ _ _ _ ((w.alloc (.cells #[.int .i64 wh, x1, .int .i64 mo, .int .i64 nn, x4, x5, x6, x7, x8, x9, x10] 74)).alloc (.cells z7 77))
  generalize (w.alloc (.cells #[.int .i64 wh, x1, .int .i64 mo, .int .i64 nn, x4, x5, x6, x7, x8, x9, x10] 74)).alloc (.cells z7 77) = W at *
  generalize hg : w.heap.size = g at *
  have HG := hide hg
  clear hg
  obtain ⟨y0, _⟩ := cells11 HB.out.st
  go_wp2_with fail
  refine (pick_any wh h1 h2 _).mono ?_
  rintro e w1 ⟨rfl, rfl⟩
  rw [hk]
  clear y0
  obtain ⟨_, _, y2, _⟩ := cells11 HB.out.st
  go_wp2_with fail
  refine (RHeadZ r mo s _ HR.out).mono ?_
  rintro e w9 ⟨rfl, hq9, hk9⟩
  rw [HHd.out]
  have HQ9 := hide hq9
  have HK9 := hide (HKr.out.more hk9)
  have HBk := hide (HB.out.keep hk9 (by have := HG.out; omega))
  have HL0 : Hid (LpQ w9 (w9.alloc (.cells z7 77)) r (takeR (headR mo) s) 4 9 none 0 0 []) := (LpQ.begin hq9).2 rfl
  have hr9 := hq9.lt
  clear hq9 hk9 HHd y2
  generalize takeR (headR mo) s = s2 at *
  generalize hdN mo s = n at *
  go_wp2_with fail
  go_loopw [7] (fun i0 wr => ∃ (k : Nat) (a : Option Addr) (c : Nat) (ys : List ByteArray), i0 = .int .i64 (k : Nat) ∧ k ≤ n ∧ Hid (LpQ w9 wr r (allR (rowR nn) k s2) 4 9 a k c (sv ys) ∧ Lst (rowR nn) (fun s => str (rowV nn s)) k s2 ys)) (fun i0 _ => n - (intOf i0).toNat)
  case atStart => exact ⟨0, none, 0, [], rfl, Nat.zero_le _, HL0.out, Lst.nil _ _ _⟩
  case round => as_aux_lemma =>
    clear HL0
    obtain ⟨k, a, c, ys, rfl, hkn, HD⟩ := hrel
    have c2 := Qr.cell2 HD.out.1.qr
    have hrg : ¬ w9.heap.size = r := by omega
    have HBw := hide (HBk.out.keep HD.out.1.kp (by have := HG.out; omega))
    have hgr : ¬ g = r := by have := HG.out; have := HBk.out.a; omega
    by_cases hz : (allR (rowR nn) k s2).fault = 0
    · rw [hz] at c2
      by_cases hlt : k < n
      · as_aux_lemma =>
        have hlt' : (k : Int) < (n : Int) := by omega
        have HST := hide (all_step HGn.out HD.out.1.qr)
        have hqd : Qr wr.drew r (allR (rowR nn) k s2) := HD.out.1.qr.below (Below.refl _ _).drew
        have HD1 : Hid (LpQ w9 wr.drew r (allR (rowR nn) k s2) 4 9 a k c (sv ys)) := HD.out.1.take hqd (Keep.drew _ _)
        have HBd : Hid (Bk w wr.drew g (g + 1) #[.int .i64 wh, x1, .int .i64 mo, .int .i64 nn, x4, x5, x6, x7, x8, x9, x10]) := ⟨HBw.out.a, HBw.out.b, HBw.out.st, HBw.out.td⟩
        have HCall := hide (RTextZ r nn (allR (rowR nn) k s2) wr.drew hqd)
        have HV : Hid ((takeR (rowR nn) (allR (rowR nn) k s2)).fault = 0 → str (okR (rowR nn) (allR (rowR nn) k s2) (rowV nn (allR (rowR nn) k s2)) []) = str (rowV nn (allR (rowR nn) k s2))) := fun hz => by rw [okR_yes hz]
        generalize hy : str (okR (rowR nn) (allR (rowR nn) k s2) (rowV nn (allR (rowR nn) k s2)) []) = y at *
        clear hy
        clear hz hqd
        have HS3 : Hid ((fun W' : World => W'.cell? ⟨w9.heap.size, 4, none⟩ = some (.slice a k c) ∧ W'.cell? ⟨g, 3, none⟩ = some (.int .i64 nn)) wr.drew) := ⟨by rw [cell_of_row _ _ _ _ _ _ (HD1.out.td)]; exact u7_at (by decide) _, (cells11 (HBd.out.st)).2.2.2.1⟩
        go_upto_region 20 with fail
        refine RL.wp_region_held_last (S := fun W' : World => W'.cell? ⟨w9.heap.size, 4, none⟩ = some (.slice a k c) ∧ W'.cell? ⟨g, 3, none⟩ = some (.int .i64 nn)) rfl (by kernel_rfl) (by kernel_rfl) HS3.out (fun hHeld => ?_)
        change wpAnyH _ _ _ _ _ 10 (Array.replicate 10 false) _ _
        simp only [List.dropLast, List.getLast, List.cons_append, List.nil_append, RL.still]
        refine wpAnyH_take (i := 0) (oi := _) (v := ?_) rfl (by kernel_rfl) (by kernel_rfl) (by kernel_rfl) (fun _ _ _ h => h) (Or.inl ⟨by rfl, ?_⟩) (by assumption) ?_
        rotate_left
        · (intro w hSw; (try dsimp only at hSw); go_simp)
          all_goals with_reducible rfl
        go_simp
        refine wpAnyH_take (i := 1) (oi := _) (v := ?_) rfl (by kernel_rfl) (by kernel_rfl) (by kernel_rfl) (fun _ _ _ h => h) (Or.inl ⟨by rfl, ?_⟩) (by assumption) ?_
        rotate_left
        · (intro w hSw; (try dsimp only at hSw); go_simp)
          all_goals with_reducible rfl
        go_simp
        refine wpAnyH_take (i := 2) (oi := _) (v := ?_) rfl (by kernel_rfl) (by kernel_rfl) (by kernel_rfl) (fun _ _ _ h => h) (Or.inl ⟨by rfl, ?_⟩) (by assumption) ?_
        rotate_left
        · (intro w hSw; (try dsimp only at hSw); go_simp)
          all_goals with_reducible rfl
        go_simp
        refine wpAnyH_take (i := 3) (oi := _) (v := ?_) rfl (by kernel_rfl) (by kernel_rfl) (by kernel_rfl) (fun _ _ _ h => h) (Or.inl ⟨by rfl, ?_⟩) (by assumption) ?_
        rotate_left
        · (intro w hSw; (try dsimp only at hSw); go_simp)
          all_goals with_reducible rfl
        go_simp
        refine wpAnyH_take (i := 4) (oi := _) (v := ?_) rfl (by kernel_rfl) (by kernel_rfl) (by kernel_rfl) (fun _ _ _ h => h) (Or.inl ⟨by rfl, ?_⟩) (by assumption) ?_
        rotate_left
        · (intro w hSw; (try dsimp only at hSw); go_simp)
          all_goals with_reducible rfl
        go_simp
        refine wpAnyH_ready (rs := [5]) (by kernel_rfl) (by simp) ?_
        refine AllReadyH.cons (o := _) rfl (fun K hK => ?_) AllReadyH.nil
        rw [if_pos (by rfl)]
        go_simp
        go_at_call 71
        refine HCall.out.mono ?_
        rintro e w5 ⟨rfl, hq5, hk5⟩
        have HL5 := hide (HD1.out.take hq5 hk5)
        have HB5 := hide (HBd.out.keep hk5 (by have := HG.out; omega))
        clear hq5 hk5
        have hnal : (w5.alloc (.cells #[.string y] 9)).ownsRow w9.heap.size 9 1 (.slice a k c) k (sv ys) := ownsRow_keepB HL5.out.row ((Below.refl _ _).alloc (Nat.le_refl _) _)
        obtain ⟨a4, c4, w4, hap, ho4, hg4⟩ := append_one (t := 71) Tryz.underlying71 info_str rfl (by decide) (y := .string y) (B := w5.heap.size) hnal (by have := HL5.out.kp.size; simp; omega) (by omega) rfl (cell_1 w5 _ _) 71
        obtain ⟨hlp, ht4, hkW⟩ := HL5.out.step (by decide) ho4 hg4
        have HAP := hide hap
        have HLP := hide hlp
        have HT4 := hide ht4
        have HB4 := hide (HBk.out.keep hkW (by have := HG.out; omega))
        have HS5 : Hid ((fun W' : World => W'.cell? ⟨w9.heap.size, 4, none⟩ = some (.slice a k c) ∧ W'.cell? ⟨g, 3, none⟩ = some (.int .i64 nn)) w5) := ⟨by rw [cell_of_row _ _ _ _ _ _ (HL5.out.td)]; exact u7_at (by decide) _, (cells11 (HB5.out.st)).2.2.2.1⟩
        have HS6 : Hid ((fun W' : World => W'.cell? ⟨w9.heap.size, 4, none⟩ = some (.slice a k c) ∧ W'.cell? ⟨g, 3, none⟩ = some (.int .i64 nn)) (w5.alloc (.cells #[.string y] 9))) := ⟨by rw [cell_of_row _ _ _ _ _ _ ((Keep.alloc (fun _ => False) w5 _).blk HL5.out.td fun f => f)]; exact u7_at (by decide) _, (cells11 ((Keep.alloc (fun _ => False) w5 _).blk HB5.out.st fun f => f)).2.2.2.1⟩
        have HS4 : Hid ((fun W' : World => W'.cell? ⟨w9.heap.size, 4, none⟩ = some (.slice a k c) ∧ W'.cell? ⟨g, 3, none⟩ = some (.int .i64 nn)) w4) := ⟨by rw [cell_of_row _ _ _ _ _ _ (ht4)]; exact u7_at (by decide) _, (cells11 (HB4.out.st)).2.2.2.1⟩
        clear hap ho4 hg4 hlp ht4 hkW hnal
        go_simp
        refine hK.out _ _ HS5.out (fun hHeld => ?_)
        clear hK K
        try simp only [Act.put, List.setIfInBounds_toArray, List.set_cons_zero, List.set_cons_succ]
        refine wpAnyH_ready (rs := [6]) (by kernel_rfl) (by simp) ?_
        refine AllReadyH.cons (o := _) rfl (fun K hK => ?_) AllReadyH.nil
        rw [if_pos (by rfl)]
        unfold Oper.wp
        go_simp
        refine hK.out _ _ HS6.out (fun hHeld => ?_)
        clear hK K
        try simp only [Act.put, List.setIfInBounds_toArray, List.set_cons_zero, List.set_cons_succ]
        refine wpAnyH_ready (rs := [7]) (by kernel_rfl) (by simp) ?_
        refine AllReadyH.cons (o := _) rfl (fun K hK => ?_) AllReadyH.nil
        refine step_append_run (by rfl) _ _ 71 (by rfl) _ _ (by rfl) (by rfl) HAP.out ?_
        refine hK.out _ _ HS4.out (fun hHeld => ?_)
        clear hK K
        go_simp
        refine wpAnyH_take (i := 8) (oi := _) (v := ?_) rfl (by kernel_rfl) (by kernel_rfl) (by kernel_rfl) (fun _ _ _ h => h) (Or.inl ⟨by rfl, ?_⟩) (by assumption) ?_
        rotate_left
        · (intro w hSw; (try dsimp only at hSw); go_simp)
          all_goals with_reducible rfl
        go_simp
        refine wpAnyH_take (i := 9) (oi := _) (v := ?_) rfl (by kernel_rfl) (by kernel_rfl) (by kernel_rfl) (fun _ _ _ h => h) (Or.inl ⟨by rfl, ?_⟩) (by assumption) ?_
        rotate_left
        · (intro w hSw; (try dsimp only at hSw); go_simp)
          all_goals with_reducible rfl
        go_simp
        refine wpAnyH_done (by kernel_rfl) ?_ _
        simp only [RL.endQ]
        have hfz := frozen_of_row w4 w9.heap.size 4 _ _ HT4.out
        have hc5 := HS4.out.1
        unfold Oper.wp
        go_simp
        go_wp2_with fail
        go_roundw
        · exact ⟨k + 1, a4, c4, ys ++ [y], rfl, by omega, by rw [← HST.out]; have := HLP.out; rwa [show sv ys ++ [.string y] = sv (ys ++ [y]) by simp [sv]] at this, HD.out.2.step HST.out HV.out⟩
        · show n - ((k : Int) + 1).toNat < n - (k : Int).toNat
          omega
      · as_aux_lemma =>
        obtain rfl : k = n := by omega
        obtain ⟨_, e2⟩ := HD.out.2.done (Nat.le_refl _) (.inl rfl)
        have e1 : s1 = allR (rowR nn) k s2 := HLA.out
        rw [← HLA.out] at e2
        have hzF : s1.fault = 0 := by rw [e1]; exact hz
        have HQw : Hid (Qr wr r s1) := by show Qr _ _ _; rw [e1]; exact HD.out.1.qr
        have HEL : Hid (Els (NR wr) wr a k (sv LV)) := by show Els _ _ _ _ _; rw [HLV.out hzF, ← e2 hzF]; exact row_nrT HD.out.1.row (by decide) (by omega)
        have HKw := hide (HK9.out.more HD.out.1.kp)
        have HTD : Hid (wr.heap[w9.heap.size]? = some (.cells #[.int .i64 0, .int .u64 0, .bool false, .string ⟨#[]⟩, .slice a k c, .slice none 0 0, .slice none 0 0] 77 (0, 0))) := HD.out.1.td
        have HTG := hide HBw.out.td
        have HI7 : Hid ((Tryz.prog.info? 77).map (·.size) = some (#[.int .i64 0, .int .u64 0, .bool false, .string ⟨#[]⟩, .slice a k c, .slice none 0 0, .slice none 0 0] : Array Value).size) := by show _ = _; rw [info_told]; rfl
        have HO7 : Hid ((#[.int .i64 0, .int .u64 0, .bool false, .string ⟨#[]⟩, .slice a k c, .slice none 0 0, .slice none 0 0] : Array Value).all (·.oneCell') = true) := by show _ = _; simp [Value.oneCell']
        clear hz e1 e2 hzF HD
        generalize hG2 : w9.heap.size = G2 at *
        clear hG2
        go_wp2_with (first
          | (refine wpList_load_row rfl 77 _ rfl G2 rfl 77 _ (0, 0) _ HTD.out Tryz.underlying77 rfl HI7.out ?_)
          | (refine wpList_store_row rfl 77 _ _ rfl (g + 1) #[.int .i64 0, .int .u64 0, .bool false, .string ⟨#[]⟩, .slice a k c, .slice none 0 0, .slice none 0 0] rfl rfl 77 _ HTG.out HI7.out rfl HO7.out ?_))
        have HF := hide (setRow_heap wr (g + 1) _ #[.int .i64 0, .int .u64 0, .bool false, .string ⟨#[]⟩, .slice a k c, .slice none 0 0, .slice none 0 0] _ _ HTG.out)
        have HE := hide (HBw.out.doneQ (t := { td0 with T := LV }) HQw.out (by have := HG.out; omega) HKw.out (keep_row _ (g + 1) #[.int .i64 0, .int .u64 0, .bool false, .string ⟨#[]⟩, .slice a k c, .slice none 0 0, .slice none 0 0]) (cT := c) (cL := 0) (cD := 0) HEL.out (els0 _) (rows0 _))
        exact bodyPost_ret (res7 rfl _ _ (g + 1) (.int .i64 0) (.int .u64 0) (.bool false) (.string ⟨#[]⟩) (.slice a k c) (.slice none 0 0) (.slice none 0 0) rfl HF.out) rfl HE.out
    · as_aux_lemma =>
      have hne : (((allR (rowR nn) k s2).fault : Int) != 0) = true := by simp only [bne_iff_ne, ne_eq]; omega
      have hne2 : (((allR (rowR nn) k s2).fault : Int) == 0) = false := by simp only [beq_eq_false_iff_ne, ne_eq]; omega
      obtain ⟨e1, _⟩ := HD.out.2.done hkn (.inr hz)
      rw [← HLA.out] at e1
      have HLn : Hid (LV = []) := HLN.out (by rw [e1]; exact hz)
      have HQw : Hid (Qr wr r s1) := by show Qr _ _ _; rw [e1]; exact HD.out.1.qr
      have HKw := hide (HK9.out.more HD.out.1.kp)
      have HTG := hide HBw.out.td
      have HI7 : Hid ((Tryz.prog.info? 77).map (·.size) = some (#[.int .i64 0, .int .u64 0, .bool false, .string ⟨#[]⟩, .slice none 0 0, .slice none 0 0, .slice none 0 0] : Array Value).size) := by show _ = _; rw [info_told]; rfl
      have HO7 : Hid ((#[.int .i64 0, .int .u64 0, .bool false, .string ⟨#[]⟩, .slice none 0 0, .slice none 0 0, .slice none 0 0] : Array Value).all (·.oneCell') = true) := by show _ = _; simp [Value.oneCell']
      have HF := hide (setRow_heap wr (g + 1) _ #[.int .i64 0, .int .u64 0, .bool false, .string ⟨#[]⟩, .slice none 0 0, .slice none 0 0, .slice none 0 0] _ _ HTG.out)
      have HE := hide (HBw.out.doneQ (t := td0) HQw.out (by have := HG.out; omega) HKw.out (keep_row _ (g + 1) #[.int .i64 0, .int .u64 0, .bool false, .string ⟨#[]⟩, .slice none 0 0, .slice none 0 0, .slice none 0 0]) (cT := 0) (cL := 0) (cD := 0) (els0 _) (els0 _) (rows0 _))
      rw [show td0 = { td0 with T := LV } by rw [HLn.out]; rfl] at HE
      clear hz e1 HD
      generalize (allR (rowR nn) k s2).fault = ft at *
      by_cases hlt : k < n
      · have hlt' : (k : Int) < (n : Int) := by omega
        go_wp2_with (refine wpList_store_row rfl 77 _ _ rfl (g + 1) #[.int .i64 0, .int .u64 0, .bool false, .string ⟨#[]⟩, .slice none 0 0, .slice none 0 0, .slice none 0 0] rfl rfl 77 _ HTG.out HI7.out rfl HO7.out ?_)
        exact bodyPost_ret (res7 rfl _ _ (g + 1) (.int .i64 0) (.int .u64 0) (.bool false) (.string ⟨#[]⟩) (.slice none 0 0) (.slice none 0 0) (.slice none 0 0) rfl HF.out) rfl HE.out
      · have hge : ¬ ((k : Int) < (n : Int)) := by omega
        go_wp2_with (refine wpList_store_row rfl 77 _ _ rfl (g + 1) #[.int .i64 0, .int .u64 0, .bool false, .string ⟨#[]⟩, .slice none 0 0, .slice none 0 0, .slice none 0 0] rfl rfl 77 _ HTG.out HI7.out rfl HO7.out ?_)
        exact bodyPost_ret (res7 rfl _ _ (g + 1) (.int .i64 0) (.int .u64 0) (.bool false) (.string ⟨#[]⟩) (.slice none 0 0) (.slice none 0 0) (.slice none 0 0) rfl HF.out) rfl HE.out
end Wm
end Go.Proofs.YtoelgcagahmndaaGreat

/- The law's taken of a step: a list of words (written by tq_gen.py). -/
namespace Go.Proofs.YtoelgcagahmndaaGreat
namespace Wm
open Go.RowKit Go.Deep

theorem listVal_mapW {α β : Type} (mo : Int) (g : K.RS → K.RS) (val : K.RS → α) (φ : α → β) (s : K.RS) : listVal mo g (fun s => φ (val s)) s = (listVal mo g val s).map φ := by
  unfold listVal
  split
  · unfold valsOf; rw [List.map_map]; rfl
  · rfl
set_option maxRecDepth 100000 in
set_option maxHeartbeats 4000000 in
theorem taken_words (r : Nat) (s : K.RS) (wh : Int) (mo : Int) (x1 x3 x4 x5 x6 x7 x8 x9 x10 : Value) (w : World) (h : Qr w r s) (h1 : -9223372036854775808 ≤ wh) (h2 : wh ≤ 9223372036854775807) (hk : ((pk wh : Nat) : Int) = 8) :
    Calls Tryz.prog 34 #[.pointer (some ⟨r, 0, none⟩), .agg #[.int .i64 wh, x1, .int .i64 mo, x3, x4, x5, x6, x7, x8, x9, x10]] w (TkQ r (takeR (listR (min mo 16777216) wordR) s) ({ td0 with L := (lvW (min mo 16777216) s).map sg }) w) := by
  have hrw := h.lt
  have HH := hide h
  have HB : Hid (Bk w ((w.alloc (.cells #[.int .i64 wh, x1, .int .i64 mo, x3, x4, x5, x6, x7, x8, x9, x10] 74)).alloc (.cells z7 77)) w.heap.size (w.heap.size + 1) #[.int .i64 wh, x1, .int .i64 mo, x3, x4, x5, x6, x7, x8, x9, x10]) := ⟨Nat.le_refl _, by omega, (Keep.alloc (fun _ => False) _ _).blk (heap_alloc_new w _) fun f => f, by have := heap_alloc_new (w.alloc (.cells #[.int .i64 wh, x1, .int .i64 mo, x3, x4, x5, x6, x7, x8, x9, x10] 74)) (.cells z7 77); simpa using this⟩
  have HK : Hid (Below w.heap.size w ((w.alloc (.cells #[.int .i64 wh, x1, .int .i64 mo, x3, x4, x5, x6, x7, x8, x9, x10] 74)).alloc (.cells z7 77))) := ((Below.refl _ _).alloc (Nat.le_refl _) _).alloc (by simp) _
  have HR := hide (h.below HK.out)
  have HGn : Hid (Gn wordR) := gn_word
  have HLA := hide (list_all mo wordR s)
  have HLV : Hid ((takeR (listR (min mo 16777216) wordR) s).fault = 0 → (lvW (min mo 16777216) s).map sg = valsOf wordR (fun s => sg (wordV s)) (hdN mo s) (takeR (headR mo) s)) := fun hz => by unfold lvW; rw [okR_yes hz, ← listVal_mapW]; exact list_vals mo wordR _ s hz
  have HLN : Hid ((takeR (listR (min mo 16777216) wordR) s).fault ≠ 0 → (lvW (min mo 16777216) s).map sg = []) := fun hz => by unfold lvW; rw [okR_no hz]; rfl
  have hN : hdN mo s ≤ 16777216 := Nat.le_trans (hd_le mo s) h.top
  have HHd : Hid (okR (headR mo) s ((headV mo s : Nat) : Int) 0 = ((hdN mo s : Nat) : Int)) := ok_int _ _ _
  obtain ⟨LV, hLV⟩ : ∃ LV, (lvW (min mo 16777216) s).map sg = LV := ⟨_, rfl⟩
  rw [hLV] at HLV HLN ⊢
  clear hLV
  have HKr := hide (Keep.ofBelow (S := fun k => k = r) HK.out (Nat.le_refl _))
  obtain ⟨s1, hs1⟩ : ∃ s1, takeR (listR (min mo 16777216) wordR) s = s1 := ⟨_, rfl⟩
  rw [hs1]
  have HS1 := hide hs1
  rw [hs1] at HLA HLV HLN
  clear h hs1
  go_enter Tryz.func34, Tryz.ntmps34
  go_upto_region 1 with fail
  change Code.wp _ _ _ _ ((w.alloc (.cells #[.int .i64 wh, x1, .int .i64 mo, x3, x4, x5, x6, x7, x8, x9, x10] 74)).alloc (.cells z7 77))
  generalize (w.alloc (.cells #[.int .i64 wh, x1, .int .i64 mo, x3, x4, x5, x6, x7, x8, x9, x10] 74)).alloc (.cells z7 77) = W at *
  generalize hg : w.heap.size = g at *
  have HG := hide hg
  clear hg
  obtain ⟨y0, _⟩ := cells11 HB.out.st
  go_wp2_with fail
  refine (pick_any wh h1 h2 _).mono ?_
  rintro e w1 ⟨rfl, rfl⟩
  rw [hk]
  clear y0
  obtain ⟨_, _, y2, _⟩ := cells11 HB.out.st
  go_wp2_with fail
  refine (RHeadZ r mo s _ HR.out).mono ?_
  rintro e w9 ⟨rfl, hq9, hk9⟩
  rw [HHd.out]
  have HQ9 := hide hq9
  have HK9 := hide (HKr.out.more hk9)
  have HBk := hide (HB.out.keep hk9 (by have := HG.out; omega))
  have HL0 : Hid (LpQ w9 (w9.alloc (.cells z7 77)) r (takeR (headR mo) s) 5 3 none 0 0 []) := (LpQ.begin hq9).2 rfl
  have hr9 := hq9.lt
  clear hq9 hk9 HHd y2
  generalize takeR (headR mo) s = s2 at *
  generalize hdN mo s = n at *
  go_wp2_with fail
  go_loopw [13] (fun i0 wr => ∃ (k : Nat) (a : Option Addr) (c : Nat) (ys : List Int), i0 = .int .i64 (k : Nat) ∧ k ≤ n ∧ Hid (LpQ w9 wr r (allR wordR k s2) 5 3 a k c (iv ys) ∧ Lst wordR (fun s => sg (wordV s)) k s2 ys)) (fun i0 _ => n - (intOf i0).toNat)
  case atStart => exact ⟨0, none, 0, [], rfl, Nat.zero_le _, HL0.out, Lst.nil _ _ _⟩
  case round => as_aux_lemma =>
    clear HL0
    obtain ⟨k, a, c, ys, rfl, hkn, HD⟩ := hrel
    have c2 := Qr.cell2 HD.out.1.qr
    have hrg : ¬ w9.heap.size = r := by omega
    have HBw := hide (HBk.out.keep HD.out.1.kp (by have := HG.out; omega))
    have hgr : ¬ g = r := by have := HG.out; have := HBk.out.a; omega
    by_cases hz : (allR wordR k s2).fault = 0
    · rw [hz] at c2
      by_cases hlt : k < n
      · as_aux_lemma =>
        have hlt' : (k : Int) < (n : Int) := by omega
        have HST := hide (all_step HGn.out HD.out.1.qr)
        have hqd : Qr wr.drew r (allR wordR k s2) := HD.out.1.qr.below (Below.refl _ _).drew
        have HD1 : Hid (LpQ w9 wr.drew r (allR wordR k s2) 5 3 a k c (iv ys)) := HD.out.1.take hqd (Keep.drew _ _)
        have HBd : Hid (Bk w wr.drew g (g + 1) #[.int .i64 wh, x1, .int .i64 mo, x3, x4, x5, x6, x7, x8, x9, x10]) := ⟨HBw.out.a, HBw.out.b, HBw.out.st, HBw.out.td⟩
        have HCall := hide (RTakeWordZ r (allR wordR k s2) wr.drew hqd)
        have HV0 : Hid ((takeR wordR (allR wordR k s2)).fault = 0 → okR wordR (allR wordR k s2) (wordV (allR wordR k s2)) 0 = wordV (allR wordR k s2)) := fun hz => okR_yes hz _ _
        have hxl : okR wordR (allR wordR k s2) (wordV (allR wordR k s2)) 0 < 18446744073709551616 := by unfold okR; split; exact wordV_lt (Qr.bytes HD.out.1.qr); decide
        generalize okR wordR (allR wordR k s2) (wordV (allR wordR k s2)) 0 = x at *
        have hsg := sg_wrap hxl
        have HV : Hid ((takeR wordR (allR wordR k s2)).fault = 0 → sg x = sg (wordV (allR wordR k s2))) := fun hz => by rw [HV0.out hz]
        generalize hy : sg x = y at *
        clear hy HV0
        clear hz hqd
        have HS3 : Hid ((fun W' : World => W'.cell? ⟨w9.heap.size, 5, none⟩ = some (.slice a k c)) wr.drew) := by show _ = _; rw [cell_of_row _ _ _ _ _ _ (HD1.out.td)]; exact u7_at (by decide) _
        go_upto_region 40 with fail
        refine RL.wp_region_held_last (S := fun W' : World => W'.cell? ⟨w9.heap.size, 5, none⟩ = some (.slice a k c)) rfl (by kernel_rfl) (by kernel_rfl) HS3.out (fun hHeld => ?_)
        change wpAnyH _ _ _ _ _ 9 (Array.replicate 9 false) _ _
        simp only [List.dropLast, List.getLast, List.cons_append, List.nil_append, RL.still]
        refine wpAnyH_take (i := 0) (oi := _) (v := ?_) rfl (by kernel_rfl) (by kernel_rfl) (by kernel_rfl) (fun _ _ _ h => h) (Or.inl ⟨by rfl, ?_⟩) (by assumption) ?_
        rotate_left
        · (intro w hSw; (try dsimp only at hSw); go_simp)
          all_goals with_reducible rfl
        go_simp
        refine wpAnyH_take (i := 1) (oi := _) (v := ?_) rfl (by kernel_rfl) (by kernel_rfl) (by kernel_rfl) (fun _ _ _ h => h) (Or.inl ⟨by rfl, ?_⟩) (by assumption) ?_
        rotate_left
        · (intro w hSw; (try dsimp only at hSw); go_simp)
          all_goals with_reducible rfl
        go_simp
        refine wpAnyH_take (i := 2) (oi := _) (v := ?_) rfl (by kernel_rfl) (by kernel_rfl) (by kernel_rfl) (fun _ _ _ h => h) (Or.inl ⟨by rfl, ?_⟩) (by assumption) ?_
        rotate_left
        · (intro w hSw; (try dsimp only at hSw); go_simp)
          all_goals with_reducible rfl
        go_simp
        refine wpAnyH_ready (rs := [3]) (by kernel_rfl) (by simp) ?_
        refine AllReadyH.cons (o := _) rfl (fun K hK => ?_) AllReadyH.nil
        rw [if_pos (by rfl)]
        go_simp
        go_at_call 97
        refine HCall.out.mono ?_
        rintro e w5 ⟨rfl, hq5, hk5⟩
        have HL5 := hide (HD1.out.take hq5 hk5)
        have HB5 := hide (HBd.out.keep hk5 (by have := HG.out; omega))
        clear hq5 hk5
        have hnal : (w5.alloc (.cells #[.int .i64 y] 3)).ownsRow w9.heap.size 3 1 (.slice a k c) k (iv ys) := ownsRow_keepB HL5.out.row ((Below.refl _ _).alloc (Nat.le_refl _) _)
        obtain ⟨a4, c4, w4, hap, ho4, hg4⟩ := append_one (t := 70) Tryz.underlying70 info_int rfl (by decide) (y := .int .i64 y) (B := w5.heap.size) hnal (by have := HL5.out.kp.size; simp; omega) (by omega) rfl (cell_1 w5 _ _) 70
        obtain ⟨hlp, ht4, hkW⟩ := HL5.out.step (by decide) ho4 hg4
        have HAP := hide hap
        have HLP := hide hlp
        have HT4 := hide ht4
        have HB4 := hide (HBk.out.keep hkW (by have := HG.out; omega))
        have HS5 : Hid ((fun W' : World => W'.cell? ⟨w9.heap.size, 5, none⟩ = some (.slice a k c)) w5) := by show _ = _; rw [cell_of_row _ _ _ _ _ _ (HL5.out.td)]; exact u7_at (by decide) _
        have HS6 : Hid ((fun W' : World => W'.cell? ⟨w9.heap.size, 5, none⟩ = some (.slice a k c)) (w5.alloc (.cells #[.int .i64 y] 3))) := by show _ = _; rw [cell_of_row _ _ _ _ _ _ ((Keep.alloc (fun _ => False) w5 _).blk HL5.out.td fun f => f)]; exact u7_at (by decide) _
        have HS4 : Hid ((fun W' : World => W'.cell? ⟨w9.heap.size, 5, none⟩ = some (.slice a k c)) w4) := by show _ = _; rw [cell_of_row _ _ _ _ _ _ (ht4)]; exact u7_at (by decide) _
        clear hap ho4 hg4 hlp ht4 hkW hnal
        go_simp
        refine hK.out _ _ HS5.out (fun hHeld => ?_)
        clear hK K
        try simp only [Act.put, List.setIfInBounds_toArray, List.set_cons_zero, List.set_cons_succ]
        refine wpAnyH_take (i := 4) (oi := _) (v := ?_) rfl (by kernel_rfl) (by kernel_rfl) (by kernel_rfl) (fun _ _ _ h => h) (Or.inl ⟨by rfl, ?_⟩) (by assumption) ?_
        rotate_left
        · (intro w hSw; (try dsimp only at hSw); go_simp)
          all_goals with_reducible rfl
        go_simp
        refine wpAnyH_ready (rs := [5]) (by kernel_rfl) (by simp) ?_
        refine AllReadyH.cons (o := _) rfl (fun K hK => ?_) AllReadyH.nil
        rw [if_pos (by rfl)]
        unfold Oper.wp
        go_simp
        refine hK.out _ _ HS6.out (fun hHeld => ?_)
        clear hK K
        try simp only [Act.put, List.setIfInBounds_toArray, List.set_cons_zero, List.set_cons_succ]
        refine wpAnyH_ready (rs := [6]) (by kernel_rfl) (by simp) ?_
        refine AllReadyH.cons (o := _) rfl (fun K hK => ?_) AllReadyH.nil
        refine step_append_run (by rfl) _ _ 70 (by rfl) _ _ (by rfl) (by rfl) HAP.out ?_
        refine hK.out _ _ HS4.out (fun hHeld => ?_)
        clear hK K
        go_simp
        refine wpAnyH_take (i := 7) (oi := _) (v := ?_) rfl (by kernel_rfl) (by kernel_rfl) (by kernel_rfl) (fun _ _ _ h => h) (Or.inl ⟨by rfl, ?_⟩) (by assumption) ?_
        rotate_left
        · (intro w hSw; (try dsimp only at hSw); go_simp)
          all_goals with_reducible rfl
        go_simp
        refine wpAnyH_take (i := 8) (oi := _) (v := ?_) rfl (by kernel_rfl) (by kernel_rfl) (by kernel_rfl) (fun _ _ _ h => h) (Or.inl ⟨by rfl, ?_⟩) (by assumption) ?_
        rotate_left
        · (intro w hSw; (try dsimp only at hSw); go_simp)
          all_goals with_reducible rfl
        go_simp
        refine wpAnyH_done (by kernel_rfl) ?_ _
        simp only [RL.endQ]
        have hfz := frozen_of_row w4 w9.heap.size 5 _ _ HT4.out
        have hc5 := HS4.out
        unfold Oper.wp
        go_simp
        go_wp2_with fail
        go_roundw
        · exact ⟨k + 1, a4, c4, ys ++ [y], rfl, by omega, by rw [← HST.out]; have := HLP.out; rwa [show iv ys ++ [.int .i64 y] = iv (ys ++ [y]) by simp [iv]] at this, HD.out.2.step HST.out HV.out⟩
        · show n - ((k : Int) + 1).toNat < n - (k : Int).toNat
          omega
      · as_aux_lemma =>
        obtain rfl : k = n := by omega
        obtain ⟨_, e2⟩ := HD.out.2.done (Nat.le_refl _) (.inl rfl)
        have e1 : s1 = allR wordR k s2 := HLA.out
        rw [← HLA.out] at e2
        have hzF : s1.fault = 0 := by rw [e1]; exact hz
        have HQw : Hid (Qr wr r s1) := by show Qr _ _ _; rw [e1]; exact HD.out.1.qr
        have HEL : Hid (Els (NR wr) wr a k (iv LV)) := by show Els _ _ _ _ _; rw [HLV.out hzF, ← e2 hzF]; exact row_nrT HD.out.1.row (by decide) (by omega)
        have HKw := hide (HK9.out.more HD.out.1.kp)
        have HTD : Hid (wr.heap[w9.heap.size]? = some (.cells #[.int .i64 0, .int .u64 0, .bool false, .string ⟨#[]⟩, .slice none 0 0, .slice a k c, .slice none 0 0] 77 (0, 0))) := HD.out.1.td
        have HTG := hide HBw.out.td
        have HI7 : Hid ((Tryz.prog.info? 77).map (·.size) = some (#[.int .i64 0, .int .u64 0, .bool false, .string ⟨#[]⟩, .slice none 0 0, .slice a k c, .slice none 0 0] : Array Value).size) := by show _ = _; rw [info_told]; rfl
        have HO7 : Hid ((#[.int .i64 0, .int .u64 0, .bool false, .string ⟨#[]⟩, .slice none 0 0, .slice a k c, .slice none 0 0] : Array Value).all (·.oneCell') = true) := by show _ = _; simp [Value.oneCell']
        clear hz e1 e2 hzF HD
        generalize hG2 : w9.heap.size = G2 at *
        clear hG2
        go_wp2_with (first
          | (refine wpList_load_row rfl 77 _ rfl G2 rfl 77 _ (0, 0) _ HTD.out Tryz.underlying77 rfl HI7.out ?_)
          | (refine wpList_store_row rfl 77 _ _ rfl (g + 1) #[.int .i64 0, .int .u64 0, .bool false, .string ⟨#[]⟩, .slice none 0 0, .slice a k c, .slice none 0 0] rfl rfl 77 _ HTG.out HI7.out rfl HO7.out ?_))
        have HF := hide (setRow_heap wr (g + 1) _ #[.int .i64 0, .int .u64 0, .bool false, .string ⟨#[]⟩, .slice none 0 0, .slice a k c, .slice none 0 0] _ _ HTG.out)
        have HE := hide (HBw.out.doneQ (t := { td0 with L := LV }) HQw.out (by have := HG.out; omega) HKw.out (keep_row _ (g + 1) #[.int .i64 0, .int .u64 0, .bool false, .string ⟨#[]⟩, .slice none 0 0, .slice a k c, .slice none 0 0]) (cT := 0) (cL := c) (cD := 0) (els0 _) HEL.out (rows0 _))
        exact bodyPost_ret (res7 rfl _ _ (g + 1) (.int .i64 0) (.int .u64 0) (.bool false) (.string ⟨#[]⟩) (.slice none 0 0) (.slice a k c) (.slice none 0 0) rfl HF.out) rfl HE.out
    · as_aux_lemma =>
      have hne : (((allR wordR k s2).fault : Int) != 0) = true := by simp only [bne_iff_ne, ne_eq]; omega
      have hne2 : (((allR wordR k s2).fault : Int) == 0) = false := by simp only [beq_eq_false_iff_ne, ne_eq]; omega
      obtain ⟨e1, _⟩ := HD.out.2.done hkn (.inr hz)
      rw [← HLA.out] at e1
      have HLn : Hid (LV = []) := HLN.out (by rw [e1]; exact hz)
      have HQw : Hid (Qr wr r s1) := by show Qr _ _ _; rw [e1]; exact HD.out.1.qr
      have HKw := hide (HK9.out.more HD.out.1.kp)
      have HTG := hide HBw.out.td
      have HI7 : Hid ((Tryz.prog.info? 77).map (·.size) = some (#[.int .i64 0, .int .u64 0, .bool false, .string ⟨#[]⟩, .slice none 0 0, .slice none 0 0, .slice none 0 0] : Array Value).size) := by show _ = _; rw [info_told]; rfl
      have HO7 : Hid ((#[.int .i64 0, .int .u64 0, .bool false, .string ⟨#[]⟩, .slice none 0 0, .slice none 0 0, .slice none 0 0] : Array Value).all (·.oneCell') = true) := by show _ = _; simp [Value.oneCell']
      have HF := hide (setRow_heap wr (g + 1) _ #[.int .i64 0, .int .u64 0, .bool false, .string ⟨#[]⟩, .slice none 0 0, .slice none 0 0, .slice none 0 0] _ _ HTG.out)
      have HE := hide (HBw.out.doneQ (t := td0) HQw.out (by have := HG.out; omega) HKw.out (keep_row _ (g + 1) #[.int .i64 0, .int .u64 0, .bool false, .string ⟨#[]⟩, .slice none 0 0, .slice none 0 0, .slice none 0 0]) (cT := 0) (cL := 0) (cD := 0) (els0 _) (els0 _) (rows0 _))
      rw [show td0 = { td0 with L := LV } by rw [HLn.out]; rfl] at HE
      clear hz e1 HD
      generalize (allR wordR k s2).fault = ft at *
      by_cases hlt : k < n
      · have hlt' : (k : Int) < (n : Int) := by omega
        go_wp2_with (refine wpList_store_row rfl 77 _ _ rfl (g + 1) #[.int .i64 0, .int .u64 0, .bool false, .string ⟨#[]⟩, .slice none 0 0, .slice none 0 0, .slice none 0 0] rfl rfl 77 _ HTG.out HI7.out rfl HO7.out ?_)
        exact bodyPost_ret (res7 rfl _ _ (g + 1) (.int .i64 0) (.int .u64 0) (.bool false) (.string ⟨#[]⟩) (.slice none 0 0) (.slice none 0 0) (.slice none 0 0) rfl HF.out) rfl HE.out
      · have hge : ¬ ((k : Int) < (n : Int)) := by omega
        go_wp2_with (refine wpList_store_row rfl 77 _ _ rfl (g + 1) #[.int .i64 0, .int .u64 0, .bool false, .string ⟨#[]⟩, .slice none 0 0, .slice none 0 0, .slice none 0 0] rfl rfl 77 _ HTG.out HI7.out rfl HO7.out ?_)
        exact bodyPost_ret (res7 rfl _ _ (g + 1) (.int .i64 0) (.int .u64 0) (.bool false) (.string ⟨#[]⟩) (.slice none 0 0) (.slice none 0 0) (.slice none 0 0) rfl HF.out) rfl HE.out
end Wm
end Go.Proofs.YtoelgcagahmndaaGreat

/- The law's taken of a step: lists of lists (written by tr_gen.py). -/
namespace Go.Proofs.YtoelgcagahmndaaGreat
namespace Wm
open Go.RowKit Go.Deep

theorem info_rows : (Tryz.prog.info? 70).map (fun i => (i.zero, i.size, i.bytes)) = some (some (.slice none 0 0), 1, 24) := by kernel_rfl
/-- lists of numbers, each in a block of numbers -/
def Inn (w : World) (vs : List Value) (zs : List (List Int)) : Prop := vs.length = zs.length ∧ ∀ (i : Nat) v z, vs[i]? = some v → zs[i]? = some z → ∃ a' c', v = .slice a' z.length c' ∧ Els (TI w) w a' z.length (iv z)
theorem Inn.nil (w : World) : Inn w [] [] := ⟨rfl, fun i v z h => by cases h⟩
theorem Inn.keep {w w' : World} {S : Nat → Prop} {vs : List Value} {zs : List (List Int)} (h : Inn w vs zs) (hk : Keep S w w') (hS : ∀ k, TI w k → ¬ S k) : Inn w' vs zs :=
  ⟨h.1, fun i v z hv hz => by
    obtain ⟨a', c', e, he⟩ := h.2 i v z hv hz
    exact ⟨a', c', e, els_ti he hk hS⟩⟩
theorem Inn.rows {w : World} {vs : List Value} {zs : List (List Int)} (h : Inn w vs zs) : ∀ (i : Nat) v z, vs[i]? = some v → zs[i]? = some z → ∃ a' c', v = .slice a' z.length c' ∧ Els (NR w) w a' z.length (z.map (Value.int .i64)) := fun i v z hv hz => by
  obtain ⟨a', c', e, he⟩ := h.2 i v z hv hz
  exact ⟨a', c', e, els_ti_nr he⟩
theorem TI.ne_blk {w : World} {k : Nat} {cs : Array Value} {t : TypeId} (h : TI w k) (hb : w.heap[k]? = some (.cells cs t (0, 0))) (ht : t ≠ 3) : False := by
  obtain ⟨cs', h1⟩ := h
  rw [h1] at hb
  injection hb with hb
  injection hb with _ hb _
  exact ht hb.symm
theorem TI.ne_of {w : World} {k q : Nat} {s : K.RS} (h : TI w k) (hq : Qr w q s) (e : k = q) : False := by
  obtain ⟨a, c, h1, _⟩ := hq.ex
  rw [← e] at h1
  exact h.ne_blk h1 (by decide)
theorem Inn.step {w5 w4 : World} {G b : Nat} {a a4 a5 : Option Addr} {k c c4 n5 c5 : Nat} {vs : List Value} {ys : List (List Int)} {y : List Int} {u : Array Value} {o : Obj} (h : Inn w5 vs ys) (he : Els (TI w5) w5 a5 n5 (iv y)) (hn : n5 = y.length) (hrow : w5.ownsRow b 70 1 (.slice a k c) k vs) (hg : (w5.alloc o).grownBy w4 (Value.slice a k c).ownBlock) (ht : w4.heap[G]? = some (.cells u 77 (0, 0))) (_ : w4.ownsRow b 70 1 (.slice a4 (k + 1) c4) (k + 1) (vs ++ [.slice a5 n5 c5])) :
    Inn (w4.setCell ⟨G, 6, none⟩ (.slice a4 (k + 1) c4)) (vs ++ [.slice a5 n5 c5]) (ys ++ [y]) := by
  have k1 := Keep.alloc (fun _ => False) w5 o
  have hk4 : Keep (fun j => (Value.slice a k c).ownBlock = some j) (w5.alloc o) w4 := Keep.grown hg fun _ e => e
  have hS : ∀ j, TI (w5.alloc o) j → ¬ (Value.slice a k c).ownBlock = some j := fun j hj e => by
    rcases hrow.2 with ⟨e0, _⟩ | ⟨g, cap, cur, e1, _, hg1, _⟩
    · rw [e0] at e; cases e
    · have e2 : g = j := by rw [e1] at e; simpa [Value.ownBlock] using e
      subst e2
      exact hj.ne_blk (k1.blk hg1 fun f => f) (by decide)
  have hc := keep_cell w4 G 6 (.slice a4 (k + 1) c4)
  have hS2 : ∀ j, TI w4 j → ¬ j = G := fun j hj e => by subst e; exact hj.ne_blk ht (by decide)
  have h4 := ((h.keep k1 fun _ _ f => f).keep hk4 hS).keep hc hS2
  have e4 := els_ti (els_ti (els_ti he k1 fun _ _ f => f) hk4 hS) hc hS2
  refine ⟨by rw [List.length_append, List.length_append, h.1]; rfl, fun i v z hv hz => ?_⟩
  by_cases hi : i < vs.length
  · rw [List.getElem?_append_left hi] at hv
    rw [List.getElem?_append_left (by rw [← h.1]; exact hi)] at hz
    exact h4.2 i v z hv hz
  · have hi2 : i = vs.length := by
      have := (List.getElem?_eq_some_iff.1 hv).1
      rw [List.length_append] at this
      simp at this
      omega
    subst hi2
    rw [List.getElem?_append_right (Nat.le_refl _), Nat.sub_self] at hv
    rw [List.getElem?_append_right (by rw [h.1]; exact Nat.le_refl _), h.1, Nat.sub_self] at hz
    simp only [List.getElem?_cons_zero, Option.some.injEq] at hv hz
    subst hv hz
    subst hn
    exact ⟨a5, c5, rfl, e4⟩
set_option maxRecDepth 100000 in
set_option maxHeartbeats 4000000 in
theorem taken_rows (r : Nat) (s : K.RS) (wh : Int) (le mo nn : Int) (x4 x5 x6 x7 x8 x9 x10 : Value) (w : World) (h : Qr w r s) (h1 : -9223372036854775808 ≤ wh) (h2 : wh ≤ 9223372036854775807) (hk : ((pk wh : Nat) : Int) = 7) :
    Calls Tryz.prog 34 #[.pointer (some ⟨r, 0, none⟩), .agg #[.int .i64 wh, .int .i64 le, .int .i64 mo, .int .i64 nn, x4, x5, x6, x7, x8, x9, x10]] w (TkQ r (takeR (listR (min mo 16777216) (listR (min le 16777216) (numR 0 nn))) s) ({ td0 with D := lvD (min mo 16777216) (min le 16777216) nn s }) w) := by
  have hrw := h.lt
  have HH := hide h
  have HB : Hid (Bk w ((w.alloc (.cells #[.int .i64 wh, .int .i64 le, .int .i64 mo, .int .i64 nn, x4, x5, x6, x7, x8, x9, x10] 74)).alloc (.cells z7 77)) w.heap.size (w.heap.size + 1) #[.int .i64 wh, .int .i64 le, .int .i64 mo, .int .i64 nn, x4, x5, x6, x7, x8, x9, x10]) := ⟨Nat.le_refl _, by omega, (Keep.alloc (fun _ => False) _ _).blk (heap_alloc_new w _) fun f => f, by have := heap_alloc_new (w.alloc (.cells #[.int .i64 wh, .int .i64 le, .int .i64 mo, .int .i64 nn, x4, x5, x6, x7, x8, x9, x10] 74)) (.cells z7 77); simpa using this⟩
  have HK : Hid (Below w.heap.size w ((w.alloc (.cells #[.int .i64 wh, .int .i64 le, .int .i64 mo, .int .i64 nn, x4, x5, x6, x7, x8, x9, x10] 74)).alloc (.cells z7 77))) := ((Below.refl _ _).alloc (Nat.le_refl _) _).alloc (by simp) _
  have HR := hide (h.below HK.out)
  have HGn : Hid (Gn (listR (min le 16777216) (numR 0 nn))) := gn_rw (rw_list (rw_num 0 nn) (min le 16777216))
  have HLA := hide (list_all mo (listR (min le 16777216) (numR 0 nn)) s)
  have HLV : Hid ((takeR (listR (min mo 16777216) (listR (min le 16777216) (numR 0 nn))) s).fault = 0 → lvD (min mo 16777216) (min le 16777216) nn s = valsOf (listR (min le 16777216) (numR 0 nn)) (listVal (min le 16777216) (numR 0 nn) (fun s => ((numV s : Nat) : Int))) (hdN mo s) (takeR (headR mo) s)) := fun hz => by unfold lvD; rw [okR_yes hz]; exact list_vals mo (listR (min le 16777216) (numR 0 nn)) _ s hz
  have HLN : Hid ((takeR (listR (min mo 16777216) (listR (min le 16777216) (numR 0 nn))) s).fault ≠ 0 → lvD (min mo 16777216) (min le 16777216) nn s = []) := fun hz => by unfold lvD; rw [okR_no hz]
  have hN : hdN mo s ≤ 16777216 := Nat.le_trans (hd_le mo s) h.top
  have HHd : Hid (okR (headR mo) s ((headV mo s : Nat) : Int) 0 = ((hdN mo s : Nat) : Int)) := ok_int _ _ _
  obtain ⟨LV, hLV⟩ : ∃ LV, lvD (min mo 16777216) (min le 16777216) nn s = LV := ⟨_, rfl⟩
  rw [hLV] at HLV HLN ⊢
  clear hLV
  have HKr := hide (Keep.ofBelow (S := fun k => k = r) HK.out (Nat.le_refl _))
  obtain ⟨s1, hs1⟩ : ∃ s1, takeR (listR (min mo 16777216) (listR (min le 16777216) (numR 0 nn))) s = s1 := ⟨_, rfl⟩
  rw [hs1]
  have HS1 := hide hs1
  rw [hs1] at HLA HLV HLN
  clear h hs1
  go_enter Tryz.func34, Tryz.ntmps34
  go_upto_region 1 with fail
  change Code.wp _ _ _ _ ((w.alloc (.cells #[.int .i64 wh, .int .i64 le, .int .i64 mo, .int .i64 nn, x4, x5, x6, x7, x8, x9, x10] 74)).alloc (.cells z7 77))
  generalize (w.alloc (.cells #[.int .i64 wh, .int .i64 le, .int .i64 mo, .int .i64 nn, x4, x5, x6, x7, x8, x9, x10] 74)).alloc (.cells z7 77) = W at *
  generalize hg : w.heap.size = g at *
  have HG := hide hg
  clear hg
  obtain ⟨y0, _⟩ := cells11 HB.out.st
  go_wp2_with fail
  refine (pick_any wh h1 h2 _).mono ?_
  rintro e w1 ⟨rfl, rfl⟩
  rw [hk]
  clear y0
  obtain ⟨_, _, y2, _⟩ := cells11 HB.out.st
  go_wp2_with fail
  refine (RHeadZ r mo s _ HR.out).mono ?_
  rintro e w9 ⟨rfl, hq9, hk9⟩
  rw [HHd.out]
  have HQ9 := hide hq9
  have HK9 := hide (HKr.out.more hk9)
  have HBk := hide (HB.out.keep hk9 (by have := HG.out; omega))
  have HL0 : Hid (LpQ w9 (w9.alloc (.cells z7 77)) r (takeR (headR mo) s) 6 70 none 0 0 []) := (LpQ.begin hq9).2 rfl
  have hr9 := hq9.lt
  clear hq9 hk9 HHd y2
  generalize takeR (headR mo) s = s2 at *
  generalize hdN mo s = n at *
  go_wp2_with fail
  go_loopw [10] (fun i0 wr => ∃ (k : Nat) (a : Option Addr) (c : Nat) (vs : List Value) (ys : List (List Int)), i0 = .int .i64 (k : Nat) ∧ k ≤ n ∧ Hid (LpQ w9 wr r (allR (listR (min le 16777216) (numR 0 nn)) k s2) 6 70 a k c vs ∧ Inn wr vs ys ∧ Lst (listR (min le 16777216) (numR 0 nn)) (listVal (min le 16777216) (numR 0 nn) (fun s => ((numV s : Nat) : Int))) k s2 ys)) (fun i0 _ => n - (intOf i0).toNat)
  case atStart => exact ⟨0, none, 0, [], [], rfl, Nat.zero_le _, HL0.out, Inn.nil _, Lst.nil _ _ _⟩
  case round => as_aux_lemma =>
    clear HL0
    obtain ⟨k, a, c, vs, ys, rfl, hkn, HD0⟩ := hrel
    have HD : Hid (LpQ w9 wr r (allR (listR (min le 16777216) (numR 0 nn)) k s2) 6 70 a k c vs ∧ Lst (listR (min le 16777216) (numR 0 nn)) (listVal (min le 16777216) (numR 0 nn) (fun s => ((numV s : Nat) : Int))) k s2 ys) := ⟨HD0.out.1, HD0.out.2.2⟩
    have HIn := hide HD0.out.2.1
    clear HD0
    have c2 := Qr.cell2 HD.out.1.qr
    have hrg : ¬ w9.heap.size = r := by omega
    have HBw := hide (HBk.out.keep HD.out.1.kp (by have := HG.out; omega))
    have hgr : ¬ g = r := by have := HG.out; have := HBk.out.a; omega
    by_cases hz : (allR (listR (min le 16777216) (numR 0 nn)) k s2).fault = 0
    · rw [hz] at c2
      by_cases hlt : k < n
      · as_aux_lemma =>
        have hlt' : (k : Int) < (n : Int) := by omega
        have HST := hide (all_step HGn.out HD.out.1.qr)
        have hqd : Qr wr.drew r (allR (listR (min le 16777216) (numR 0 nn)) k s2) := HD.out.1.qr.below (Below.refl _ _).drew
        have HD1 : Hid (LpQ w9 wr.drew r (allR (listR (min le 16777216) (numR 0 nn)) k s2) 6 70 a k c vs) := HD.out.1.take hqd (Keep.drew _ _)
        have HBd : Hid (Bk w wr.drew g (g + 1) #[.int .i64 wh, .int .i64 le, .int .i64 mo, .int .i64 nn, x4, x5, x6, x7, x8, x9, x10]) := ⟨HBw.out.a, HBw.out.b, HBw.out.st, HBw.out.td⟩
        have HCall := hide (numbers_any r le 0 nn (allR (listR (min le 16777216) (numR 0 nn)) k s2) wr.drew hqd)
        have HV0 : Hid ((takeR (listR (min le 16777216) (numR 0 nn)) (allR (listR (min le 16777216) (numR 0 nn)) k s2)).fault = 0 → lvI (min le 16777216) 0 nn (allR (listR (min le 16777216) (numR 0 nn)) k s2) = (listVal (min le 16777216) (numR 0 nn) (fun s => ((numV s : Nat) : Int))) (allR (listR (min le 16777216) (numR 0 nn)) k s2)) := fun hz => by unfold lvI; exact okR_yes hz _ _
        clear hz hqd
        have HS3 : Hid ((fun W' : World => W'.cell? ⟨w9.heap.size, 6, none⟩ = some (.slice a k c) ∧ W'.cell? ⟨g, 1, none⟩ = some (.int .i64 le) ∧ W'.cell? ⟨g, 3, none⟩ = some (.int .i64 nn)) wr.drew) := ⟨by rw [cell_of_row _ _ _ _ _ _ (HD1.out.td)]; exact u7_at (by decide) _, (cells11 (HBd.out.st)).2.1, (cells11 (HBd.out.st)).2.2.2.1⟩
        go_upto_region 30 with fail
        refine RL.wp_region_held_last (S := fun W' : World => W'.cell? ⟨w9.heap.size, 6, none⟩ = some (.slice a k c) ∧ W'.cell? ⟨g, 1, none⟩ = some (.int .i64 le) ∧ W'.cell? ⟨g, 3, none⟩ = some (.int .i64 nn)) rfl (by kernel_rfl) (by kernel_rfl) HS3.out (fun hHeld => ?_)
        change wpAnyH _ _ _ _ _ 12 (Array.replicate 12 false) _ _
        simp only [List.dropLast, List.getLast, List.cons_append, List.nil_append, RL.still]
        refine wpAnyH_take (i := 0) (oi := _) (v := ?_) rfl (by kernel_rfl) (by kernel_rfl) (by kernel_rfl) (fun _ _ _ h => h) (Or.inl ⟨by rfl, ?_⟩) (by assumption) ?_
        rotate_left
        · (intro w hSw; (try dsimp only at hSw); go_simp)
          all_goals with_reducible rfl
        go_simp
        refine wpAnyH_take (i := 1) (oi := _) (v := ?_) rfl (by kernel_rfl) (by kernel_rfl) (by kernel_rfl) (fun _ _ _ h => h) (Or.inl ⟨by rfl, ?_⟩) (by assumption) ?_
        rotate_left
        · (intro w hSw; (try dsimp only at hSw); go_simp)
          all_goals with_reducible rfl
        go_simp
        refine wpAnyH_take (i := 2) (oi := _) (v := ?_) rfl (by kernel_rfl) (by kernel_rfl) (by kernel_rfl) (fun _ _ _ h => h) (Or.inl ⟨by rfl, ?_⟩) (by assumption) ?_
        rotate_left
        · (intro w hSw; (try dsimp only at hSw); go_simp)
          all_goals with_reducible rfl
        go_simp
        refine wpAnyH_take (i := 3) (oi := _) (v := ?_) rfl (by kernel_rfl) (by kernel_rfl) (by kernel_rfl) (fun _ _ _ h => h) (Or.inl ⟨by rfl, ?_⟩) (by assumption) ?_
        rotate_left
        · (intro w hSw; (try dsimp only at hSw); go_simp)
          all_goals with_reducible rfl
        go_simp
        refine wpAnyH_take (i := 4) (oi := _) (v := ?_) rfl (by kernel_rfl) (by kernel_rfl) (by kernel_rfl) (fun _ _ _ h => h) (Or.inl ⟨by rfl, ?_⟩) (by assumption) ?_
        rotate_left
        · (intro w hSw; (try dsimp only at hSw); go_simp)
          all_goals with_reducible rfl
        go_simp
        refine wpAnyH_take (i := 5) (oi := _) (v := ?_) rfl (by kernel_rfl) (by kernel_rfl) (by kernel_rfl) (fun _ _ _ h => h) (Or.inl ⟨by rfl, ?_⟩) (by assumption) ?_
        rotate_left
        · (intro w hSw; (try dsimp only at hSw); go_simp)
          all_goals with_reducible rfl
        go_simp
        refine wpAnyH_take (i := 6) (oi := _) (v := ?_) rfl (by kernel_rfl) (by kernel_rfl) (by kernel_rfl) (fun _ _ _ h => h) (Or.inl ⟨by rfl, ?_⟩) (by assumption) ?_
        rotate_left
        · (intro w hSw; (try dsimp only at hSw); go_simp)
          all_goals with_reducible rfl
        go_simp
        refine wpAnyH_ready (rs := [7]) (by kernel_rfl) (by simp) ?_
        refine AllReadyH.cons (o := _) rfl (fun K hK => ?_) AllReadyH.nil
        rw [if_pos (by rfl)]
        go_simp
        go_at_call 100
        refine HCall.out.mono ?_
        rintro e w5 ⟨a5, n5, c5, rfl, he5, hq5, hk5⟩
        have hk5' := hk5
        have HL5 := hide (HD1.out.take hq5 hk5)
        have HB5 := hide (HBd.out.keep hk5 (by have := HG.out; omega))
        clear hq5 hk5
        have hn5 := he5.1
        rw [show (iv (lvI (min le 16777216) 0 nn (allR (listR (min le 16777216) (numR 0 nn)) k s2))).length = (lvI (min le 16777216) 0 nn (allR (listR (min le 16777216) (numR 0 nn)) k s2)).length by simp [iv]] at hn5
        have HI5 : Hid (Inn w5 vs ys) := Inn.keep HIn.out ((Keep.drew _ wr).more hk5') (fun k hk e => hk.ne_of HD.out.1.qr e)
        have HE5 := hide he5
        have HN5 := hide hn5
        have HV : Hid ((takeR (listR (min le 16777216) (numR 0 nn)) (allR (listR (min le 16777216) (numR 0 nn)) k s2)).fault = 0 → lvI (min le 16777216) 0 nn (allR (listR (min le 16777216) (numR 0 nn)) k s2) = (listVal (min le 16777216) (numR 0 nn) (fun s => ((numV s : Nat) : Int))) (allR (listR (min le 16777216) (numR 0 nn)) k s2)) := HV0.out
        generalize lvI (min le 16777216) 0 nn (allR (listR (min le 16777216) (numR 0 nn)) k s2) = y at *
        clear hn5 he5 HV0 hk5'
        have hnal : (w5.alloc (.cells #[.slice a5 n5 c5] 70)).ownsRow w9.heap.size 70 1 (.slice a k c) k vs := ownsRow_keepB HL5.out.row ((Below.refl _ _).alloc (Nat.le_refl _) _)
        obtain ⟨a4, c4, w4, hap, ho4, hg4⟩ := append_one (t := 72) Tryz.underlying72 info_rows rfl (by decide) (y := .slice a5 n5 c5) (B := w5.heap.size) hnal (by have := HL5.out.kp.size; simp; omega) (by omega) rfl (cell_1 w5 _ _) 72
        obtain ⟨hlp, ht4, hkW⟩ := HL5.out.step (by decide) ho4 hg4
        have HAP := hide hap
        have HLP := hide hlp
        have HIP := hide (HI5.out.step HE5.out HN5.out HL5.out.row hg4 ht4 ho4)
        have HT4 := hide ht4
        have HB4 := hide (HBk.out.keep hkW (by have := HG.out; omega))
        have HS5 : Hid ((fun W' : World => W'.cell? ⟨w9.heap.size, 6, none⟩ = some (.slice a k c) ∧ W'.cell? ⟨g, 1, none⟩ = some (.int .i64 le) ∧ W'.cell? ⟨g, 3, none⟩ = some (.int .i64 nn)) w5) := ⟨by rw [cell_of_row _ _ _ _ _ _ (HL5.out.td)]; exact u7_at (by decide) _, (cells11 (HB5.out.st)).2.1, (cells11 (HB5.out.st)).2.2.2.1⟩
        have HS6 : Hid ((fun W' : World => W'.cell? ⟨w9.heap.size, 6, none⟩ = some (.slice a k c) ∧ W'.cell? ⟨g, 1, none⟩ = some (.int .i64 le) ∧ W'.cell? ⟨g, 3, none⟩ = some (.int .i64 nn)) (w5.alloc (.cells #[.slice a5 n5 c5] 70))) := ⟨by rw [cell_of_row _ _ _ _ _ _ ((Keep.alloc (fun _ => False) w5 _).blk HL5.out.td fun f => f)]; exact u7_at (by decide) _, (cells11 ((Keep.alloc (fun _ => False) w5 _).blk HB5.out.st fun f => f)).2.1, (cells11 ((Keep.alloc (fun _ => False) w5 _).blk HB5.out.st fun f => f)).2.2.2.1⟩
        have HS4 : Hid ((fun W' : World => W'.cell? ⟨w9.heap.size, 6, none⟩ = some (.slice a k c) ∧ W'.cell? ⟨g, 1, none⟩ = some (.int .i64 le) ∧ W'.cell? ⟨g, 3, none⟩ = some (.int .i64 nn)) w4) := ⟨by rw [cell_of_row _ _ _ _ _ _ (ht4)]; exact u7_at (by decide) _, (cells11 (HB4.out.st)).2.1, (cells11 (HB4.out.st)).2.2.2.1⟩
        clear hap ho4 hg4 hlp ht4 hkW hnal
        go_simp
        refine hK.out _ _ HS5.out (fun hHeld => ?_)
        clear hK K
        try simp only [Act.put, List.setIfInBounds_toArray, List.set_cons_zero, List.set_cons_succ]
        refine wpAnyH_ready (rs := [8]) (by kernel_rfl) (by simp) ?_
        refine AllReadyH.cons (o := _) rfl (fun K hK => ?_) AllReadyH.nil
        rw [if_pos (by rfl)]
        unfold Oper.wp
        go_simp
        refine hK.out _ _ HS6.out (fun hHeld => ?_)
        clear hK K
        try simp only [Act.put, List.setIfInBounds_toArray, List.set_cons_zero, List.set_cons_succ]
        refine wpAnyH_ready (rs := [9]) (by kernel_rfl) (by simp) ?_
        refine AllReadyH.cons (o := _) rfl (fun K hK => ?_) AllReadyH.nil
        refine step_append_run (by rfl) _ _ 72 (by rfl) _ _ (by rfl) (by rfl) HAP.out ?_
        refine hK.out _ _ HS4.out (fun hHeld => ?_)
        clear hK K
        go_simp
        refine wpAnyH_take (i := 10) (oi := _) (v := ?_) rfl (by kernel_rfl) (by kernel_rfl) (by kernel_rfl) (fun _ _ _ h => h) (Or.inl ⟨by rfl, ?_⟩) (by assumption) ?_
        rotate_left
        · (intro w hSw; (try dsimp only at hSw); go_simp)
          all_goals with_reducible rfl
        go_simp
        refine wpAnyH_take (i := 11) (oi := _) (v := ?_) rfl (by kernel_rfl) (by kernel_rfl) (by kernel_rfl) (fun _ _ _ h => h) (Or.inl ⟨by rfl, ?_⟩) (by assumption) ?_
        rotate_left
        · (intro w hSw; (try dsimp only at hSw); go_simp)
          all_goals with_reducible rfl
        go_simp
        refine wpAnyH_done (by kernel_rfl) ?_ _
        simp only [RL.endQ]
        have hfz := frozen_of_row w4 w9.heap.size 6 _ _ HT4.out
        have hc5 := HS4.out.1
        unfold Oper.wp
        go_simp
        go_wp2_with fail
        go_roundw
        · exact ⟨k + 1, a4, c4, vs ++ [.slice a5 n5 c5], ys ++ [y], rfl, by omega, by rw [← HST.out]; exact HLP.out, HIP.out, HD.out.2.step HST.out HV.out⟩
        · show n - ((k : Int) + 1).toNat < n - (k : Int).toNat
          omega
      · as_aux_lemma =>
        obtain rfl : k = n := by omega
        obtain ⟨_, e2⟩ := HD.out.2.done (Nat.le_refl _) (.inl rfl)
        have e1 : s1 = allR (listR (min le 16777216) (numR 0 nn)) k s2 := HLA.out
        rw [← HLA.out] at e2
        have hzF : s1.fault = 0 := by rw [e1]; exact hz
        have HQw : Hid (Qr wr r s1) := by show Qr _ _ _; rw [e1]; exact HD.out.1.qr
        have HEL : Hid (RowsAt (NR wr) wr a k LV) := by show RowsAt _ _ _ _ _; rw [HLV.out hzF, ← e2 hzF]; exact ⟨vs, row_nrT HD.out.1.row (by decide) (by omega), HD.out.2.1, HIn.out.rows⟩
        have HKw := hide (HK9.out.more HD.out.1.kp)
        have HTD : Hid (wr.heap[w9.heap.size]? = some (.cells #[.int .i64 0, .int .u64 0, .bool false, .string ⟨#[]⟩, .slice none 0 0, .slice none 0 0, .slice a k c] 77 (0, 0))) := HD.out.1.td
        have HTG := hide HBw.out.td
        have HI7 : Hid ((Tryz.prog.info? 77).map (·.size) = some (#[.int .i64 0, .int .u64 0, .bool false, .string ⟨#[]⟩, .slice none 0 0, .slice none 0 0, .slice a k c] : Array Value).size) := by show _ = _; rw [info_told]; rfl
        have HO7 : Hid ((#[.int .i64 0, .int .u64 0, .bool false, .string ⟨#[]⟩, .slice none 0 0, .slice none 0 0, .slice a k c] : Array Value).all (·.oneCell') = true) := by show _ = _; simp [Value.oneCell']
        clear hz e1 e2 hzF HD
        generalize hG2 : w9.heap.size = G2 at *
        clear hG2
        go_wp2_with (first
          | (refine wpList_load_row rfl 77 _ rfl G2 rfl 77 _ (0, 0) _ HTD.out Tryz.underlying77 rfl HI7.out ?_)
          | (refine wpList_store_row rfl 77 _ _ rfl (g + 1) #[.int .i64 0, .int .u64 0, .bool false, .string ⟨#[]⟩, .slice none 0 0, .slice none 0 0, .slice a k c] rfl rfl 77 _ HTG.out HI7.out rfl HO7.out ?_))
        have HF := hide (setRow_heap wr (g + 1) _ #[.int .i64 0, .int .u64 0, .bool false, .string ⟨#[]⟩, .slice none 0 0, .slice none 0 0, .slice a k c] _ _ HTG.out)
        have HE := hide (HBw.out.doneQ (t := { td0 with D := LV }) HQw.out (by have := HG.out; omega) HKw.out (keep_row _ (g + 1) #[.int .i64 0, .int .u64 0, .bool false, .string ⟨#[]⟩, .slice none 0 0, .slice none 0 0, .slice a k c]) (cT := 0) (cL := 0) (cD := c) (els0 _) (els0 _) HEL.out)
        exact bodyPost_ret (res7 rfl _ _ (g + 1) (.int .i64 0) (.int .u64 0) (.bool false) (.string ⟨#[]⟩) (.slice none 0 0) (.slice none 0 0) (.slice a k c) rfl HF.out) rfl HE.out
    · as_aux_lemma =>
      have hne : (((allR (listR (min le 16777216) (numR 0 nn)) k s2).fault : Int) != 0) = true := by simp only [bne_iff_ne, ne_eq]; omega
      have hne2 : (((allR (listR (min le 16777216) (numR 0 nn)) k s2).fault : Int) == 0) = false := by simp only [beq_eq_false_iff_ne, ne_eq]; omega
      obtain ⟨e1, _⟩ := HD.out.2.done hkn (.inr hz)
      rw [← HLA.out] at e1
      have HLn : Hid (LV = []) := HLN.out (by rw [e1]; exact hz)
      have HQw : Hid (Qr wr r s1) := by show Qr _ _ _; rw [e1]; exact HD.out.1.qr
      have HKw := hide (HK9.out.more HD.out.1.kp)
      have HTG := hide HBw.out.td
      have HI7 : Hid ((Tryz.prog.info? 77).map (·.size) = some (#[.int .i64 0, .int .u64 0, .bool false, .string ⟨#[]⟩, .slice none 0 0, .slice none 0 0, .slice none 0 0] : Array Value).size) := by show _ = _; rw [info_told]; rfl
      have HO7 : Hid ((#[.int .i64 0, .int .u64 0, .bool false, .string ⟨#[]⟩, .slice none 0 0, .slice none 0 0, .slice none 0 0] : Array Value).all (·.oneCell') = true) := by show _ = _; simp [Value.oneCell']
      have HF := hide (setRow_heap wr (g + 1) _ #[.int .i64 0, .int .u64 0, .bool false, .string ⟨#[]⟩, .slice none 0 0, .slice none 0 0, .slice none 0 0] _ _ HTG.out)
      have HE := hide (HBw.out.doneQ (t := td0) HQw.out (by have := HG.out; omega) HKw.out (keep_row _ (g + 1) #[.int .i64 0, .int .u64 0, .bool false, .string ⟨#[]⟩, .slice none 0 0, .slice none 0 0, .slice none 0 0]) (cT := 0) (cL := 0) (cD := 0) (els0 _) (els0 _) (rows0 _))
      rw [show td0 = { td0 with D := LV } by rw [HLn.out]; rfl] at HE
      clear hz e1 HD
      generalize (allR (listR (min le 16777216) (numR 0 nn)) k s2).fault = ft at *
      by_cases hlt : k < n
      · have hlt' : (k : Int) < (n : Int) := by omega
        go_wp2_with (refine wpList_store_row rfl 77 _ _ rfl (g + 1) #[.int .i64 0, .int .u64 0, .bool false, .string ⟨#[]⟩, .slice none 0 0, .slice none 0 0, .slice none 0 0] rfl rfl 77 _ HTG.out HI7.out rfl HO7.out ?_)
        exact bodyPost_ret (res7 rfl _ _ (g + 1) (.int .i64 0) (.int .u64 0) (.bool false) (.string ⟨#[]⟩) (.slice none 0 0) (.slice none 0 0) (.slice none 0 0) rfl HF.out) rfl HE.out
      · have hge : ¬ ((k : Int) < (n : Int)) := by omega
        go_wp2_with (refine wpList_store_row rfl 77 _ _ rfl (g + 1) #[.int .i64 0, .int .u64 0, .bool false, .string ⟨#[]⟩, .slice none 0 0, .slice none 0 0, .slice none 0 0] rfl rfl 77 _ HTG.out HI7.out rfl HO7.out ?_)
        exact bodyPost_ret (res7 rfl _ _ (g + 1) (.int .i64 0) (.int .u64 0) (.bool false) (.string ⟨#[]⟩) (.slice none 0 0) (.slice none 0 0) (.slice none 0 0) rfl HF.out) rfl HE.out
end Wm
end Go.Proofs.YtoelgcagahmndaaGreat

/- The law's taken of a step, whatever its kind. -/
namespace Go.Proofs.YtoelgcagahmndaaGreat
namespace Wm
open Go.RowKit Go.Deep

theorem taken_any (r : Nat) (s : K.RS) (q : Sp) (w : World) (h : Qr w r s) (w1 : -9223372036854775808 ≤ q.wh) (w2 : q.wh ≤ 9223372036854775807) :
    Calls Tryz.prog 34 #[.pointer (some ⟨r, 0, none⟩), q.val] w (TkQ r (q.rd s) (q.td s) w) := by
  have hlt := pk_lt q.wh
  have hk : pk q.wh = 0 ∨ pk q.wh = 1 ∨ pk q.wh = 2 ∨ pk q.wh = 3 ∨ pk q.wh = 4 ∨ pk q.wh = 5 ∨ pk q.wh = 6 ∨ pk q.wh = 7 ∨ pk q.wh = 8 ∨ pk q.wh = 9 ∨ pk q.wh = 10 := by omega
  unfold Sp.rd Sp.td Sp.val
  rcases hk with e | e | e | e | e | e | e | e | e | e | e <;> rw [e]
  · exact taken_num r s q.wh q.le q.mo q.nn _ _ _ _ _ _ _ w h w1 w2 (by rw [e]; rfl)
  · exact taken_word r s q.wh _ _ _ _ _ _ _ _ _ _ w h w1 w2 (by rw [e]; rfl)
  · exact taken_flag r s q.wh _ _ _ _ _ _ _ _ _ _ w h w1 w2 (by rw [e]; rfl)
  · have := taken_text r s q.wh q.mo (.int .i64 q.le) (.int .i64 q.nn) (.int .u64 (q.X : Nat)) (.bool q.F) (.string q.st) (.slice q.aB q.nB q.cB) (.slice q.aL q.nL q.cL) (.slice q.aT q.nT q.cT) (.slice q.aD q.nD q.cD) w h w1 w2 (by rw [e]; rfl)
    rw [ok_str] at this
    exact this
  · exact taken_blob r s q.wh q.mo _ _ _ _ _ _ _ _ _ w h w1 w2 (by rw [e]; rfl)
  · exact taken_ints r s q.wh q.le q.mo _ _ _ _ _ _ _ _ w h w1 w2 (by rw [e]; rfl)
  · exact taken_texts r s q.wh q.mo q.nn _ _ _ _ _ _ _ _ w h w1 w2 (by rw [e]; rfl)
  · exact taken_rows r s q.wh q.le q.mo q.nn _ _ _ _ _ _ _ w h w1 w2 (by rw [e]; rfl)
  · exact taken_words r s q.wh q.mo _ _ _ _ _ _ _ _ _ w h w1 w2 (by rw [e]; rfl)
  · exact taken_fail r s q.wh _ _ _ _ _ _ _ _ _ _ w h w1 w2 (by rw [e]; rfl)
  · exact taken_look r s q.wh _ _ _ _ _ _ _ _ _ _ w h w1 w2 (by rw [e]; rfl)
end Wm
end Go.Proofs.YtoelgcagahmndaaGreat
