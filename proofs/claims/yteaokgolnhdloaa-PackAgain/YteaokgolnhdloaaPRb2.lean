/- Lists of blobs that are taken: takeAll. -/
import Derived.Test.YteaokgolnhdloaaPRb1
namespace Go.Proofs.Yteaokgolnhdloaa
namespace Wm
open Go.RowKit Go.Deep

/-- the form of blobs, in memory -/
def bF (m : Nat) : Array Value := #[.func (.func 47) #[] #[.pointer (some ⟨m, 0, none⟩)], .func (.func 49) #[] #[.pointer (some ⟨m, 0, none⟩)]]
def blsB (mo : Int) (s : K.RS) (k : Nat) : List (List Nat) := (List.range k).map fun i => rowV mo (allR (rowR mo) i s)
theorem blsB_len (mo : Int) (s : K.RS) (k : Nat) : (blsB mo s k).length = k := by unfold blsB; rw [List.length_map, List.length_range]
theorem blsB_succ (mo : Int) (s : K.RS) (k : Nat) : blsB mo s (k + 1) = blsB mo s k ++ [rowV mo (allR (rowR mo) k s)] := by unfold blsB; rw [List.range_succ, List.map_append]; rfl
/-- what is taken: a list or a fault -/
structure TaB (w : World) (r : Nat) (mo : Int) (n : Nat) (s : K.RS) (en : Ending) (w' : World) : Prop where
  keep : Keep (fun k => k = r) w w'
  cs : ((allR (rowR mo) n s).fault = 0 ∧ ∃ v vs, en = .returned v ∧ Rr w' r (allR (rowR mo) n s) ∧ w'.ownsRow w.heap.size 22 1 v n vs ∧ Bl w.heap.size w' vs (blsB mo s n)) ∨
    ((allR (rowR mo) n s).fault ≠ 0 ∧ ∃ e s1, en = gaveUp e ∧ Rr w' r s1 ∧ s1.fail e = allR (rowR mo) n s)
theorem rfail_self {s : K.RS} (h : s.fault ≠ 0) (e : Nat) : s.fail e = s := by unfold K.RS.fail; rw [if_neg h]
theorem rfail_neB (s : K.RS) : (s.fail 22).fault ≠ 0 := by
  unfold K.RS.fail
  split
  · show 22 ≠ 0; decide
  · assumption
theorem neTB {w : World} {a b : Nat} {ca cb : Array Value} {ta tb : TypeId} (ha : w.heap[a]? = some (.cells ca ta (0, 0))) (hb : w.heap[b]? = some (.cells cb tb (0, 0))) (h : ta ≠ tb) : a ≠ b := fun e => by
  rw [e, hb] at ha
  injection ha with ha
  injection ha with _ ha
  exact h ha.symm
set_option maxRecDepth 10000 in
set_option maxHeartbeats 2000000 in
theorem takeAllB (r m : Nat) (mo : Int) (n : Nat) (hn : n ≤ 16777216) (s : K.RS) (hs : s.fault = 0) (w : World) (h : Rr w r s) (hm : w.cell? ⟨m, 0, none⟩ = some (.int .i64 mo)) (hmr : m ≠ r) :
    Calls Try.prog 45 #[.pointer (some ⟨r, 0, none⟩), .agg (bF m), .int .i64 (n : Nat)] w (TaB w r mo n s) := by
  obtain ⟨i0, hi, hz0, hz1, hz2⟩ := info_parts infoB
  have HI := hide hi
  have hba := (Below.refl w.heap.size w).alloc (Nat.le_refl _) (.cells (bF m) 33)
  have HX := hide (heap_alloc_new w (.cells (bF m) 33))
  have HR0 := hide (h.below hba)
  have HK0 := hide (Keep.ofBelow (S := fun k => k = r) hba (Nat.le_refl _))
  have HL : Hid (r < w.heap.size) := h.lt
  have HM := hide hm
  have HIF : Hid ((Try.prog.info? 33).map (·.size) = some (bF m).size) := by show _ = _; kernel_rfl
  have HS0 := hide hs
  clear h hm hs hi hba
  go_enter Try.func45, Try.ntmps45
  go_wp2
  change Code.wp _ _ _ _ (w.alloc (.cells (bF m) 33))
  generalize w.alloc (.cells (bF m) 33) = wa at *
  obtain ⟨bx, hbx⟩ : ∃ bx, w.heap.size = bx := ⟨_, rfl⟩
  rw [hbx]
  rw [hbx] at HX
  have HBX := hide hbx
  clear hbx
  go_loopw [7, 11] (fun v i wx => ∃ k : Nat, k ≤ n ∧ i = .int .i64 (k : Nat) ∧ Hid ((allR (rowR mo) k s).fault = 0 ∧ Rr wx r (allR (rowR mo) k s) ∧ (∃ vs, wx.ownsRow w.heap.size 22 1 v k vs ∧ Bl w.heap.size wx vs (blsB mo s k)) ∧ Keep (fun k => k = r) w wx ∧ wx.heap[bx]? = some (.cells (bF m) 33 (0, 0)))) (fun _ i _ => n - (intOf i).toNat)
  case atStart => exact ⟨0, Nat.zero_le _, rfl, HS0.out, HR0.out, ⟨[], World.ownsRow_nil _ _ _ _, Bl.nil _ _⟩, HK0.out, HX.out⟩
  case round =>
    clear HR0 HK0 HX
    obtain ⟨k, hk, rfl, HD⟩ := hrel
    by_cases hlt : k < n
    · have hzk := HD.out.1
      obtain ⟨_, _, _, c1, _, _⟩ := HD.out.2.1.see
      obtain ⟨vs, HBl⟩ : ∃ vs, Hid (wr.ownsRow w.heap.size 22 1 u7 k vs ∧ Bl w.heap.size wr vs (blsB mo s k)) := HD.out.2.2.1
      have HSU : Hid (allR (rowR mo) (k + 1) s = if (rowR mo (allR (rowR mo) k s)).taken = (allR (rowR mo) k s).taken then (rowR mo (allR (rowR mo) k s)).fail 22 else rowR mo (allR (rowR mo) k s)) := by show thingR (rowR mo) (allR (rowR mo) k s) = _; unfold thingR; rw [if_pos hzk]
      have HST := hide (allR_stick (rowR mo) s (k + 1))
      have HVS := hide (blsB_succ mo s k)
      have htk : (allR (rowR mo) k s).taken ≤ 16777216 := Nat.le_trans HD.out.2.1.tak HD.out.2.1.top
      have HMw : Hid (wr.cell? ⟨m, 0, none⟩ = some (.int .i64 mo)) := HD.out.2.2.2.1.cell HM.out hmr
      generalize hsk : allR (rowR mo) k s = sk at *
      have HSK := hide hsk
      clear hsk
      have HTK := hide (take_blobX r m mo sk hzk wr HD.out.2.1 HMw.out 47 #[.pointer (some ⟨m, 0, none⟩)])
      go_wp2_with (refine wpList_load_row rfl 33 _ rfl bx rfl 33 (bF m) (0, 0) _ HD.out.2.2.2.2 Try.underlying33 rfl HIF.out ?_)
      go_at_call 87
      refine (HTK.out).mono ?_
      rintro e w2 ⟨v, rfl, hr2, hk2, hv2, hn2⟩
      have HR2 := hide hr2
      have HK2 := hide (HD.out.2.2.2.1.more hk2)
      have HX2 := hide (hk2.blk HD.out.2.2.2.2 (fun e => by have h1 : bx = r := e; have := HL.out; have := HBX.out; omega))
      have HO2 := hide (ownsRow_keepQ HBl.out.1 hk2 fun i e h => by have h1 := (HBl.out.1.lt i e).1; have h2 : i = r := h; have := HL.out; omega)
      have HB2 := hide (HBl.out.2.keep hk2 fun i v b hv hb h => by have h1 := (HBl.out.2.lt hv hb).1; have h2 : b = r := h; have := HL.out; omega)
      have HLtr : Hid (∀ (i : Nat) u b, vs[i]? = some u → u.ownBlock = some b → b < wr.heap.size) := fun i u b hu hb => (HBl.out.2.lt hu hb).2
      have HVv := hide hv2
      have HNv := hide hn2
      have hsz2 : w.heap.size ≤ wr.heap.size := HD.out.2.2.2.1.size
      have HSZ2 := hide hsz2
      have htk2 : (rowR mo sk).taken ≤ 16777216 := Nat.le_trans hr2.tak hr2.top
      obtain ⟨_, _, _, d1, d2, _⟩ := hr2.see
      clear hr2 hk2 hv2 hn2 HTK HD HBl c1 HMw hsz2
      by_cases hq : (rowR mo sk).taken = sk.taken
      · as_aux_lemma =>
        have hqq : (((rowR mo sk).taken : Int) == (sk.taken : Int)) = true := by rw [hq]; exact beq_self_eq_true _
        have HS1 : Hid (allR (rowR mo) (k + 1) s = (rowR mo sk).fail 22) := by show _ = _; rw [HSU.out, if_pos hq]
        have HFF := hide (rfail_neB (rowR mo sk))
        have HSN : Hid (allR (rowR mo) n s = (rowR mo sk).fail 22) := by show _ = _; rw [HST.out (by rw [HS1.out]; exact HFF.out) n (by omega), HS1.out]
        clear hq
        go_wp2_with fail
        refine (rFail_any r (rowR mo sk) _ HR2.out).mono ?_
        rintro e w4 ⟨rfl, hr4, hk4⟩
        generalize hs3 : (rowR mo sk).fail 22 = s3 at *
        have hzz : ((s3.fault : Int) == 0) = false := by rw [beq_eq_false_iff_ne]; have := HFF.out; omega
        obtain ⟨_, _, _, _, f2, _⟩ := hr4.see
        have HR4 := hide hr4
        have HK4 := hide (HK2.out.more hk4)
        clear hr4 hk4 hs3 d1 d2
        go_wp2
        exact ⟨rfl, HK4.out, .inr ⟨by rw [HSN.out]; exact HFF.out, s3.fault, s3, rfl, HR4.out, by rw [HSN.out]; exact rfail_self HFF.out _⟩⟩
      · have hqq : (((rowR mo sk).taken : Int) == (sk.taken : Int)) = false := by rw [beq_eq_false_iff_ne]; omega
        have HS1 : Hid (allR (rowR mo) (k + 1) s = rowR mo sk) := by show _ = _; rw [HSU.out, if_neg hq]
        clear hq
        by_cases hzf : (rowR mo sk).fault = 0
        · as_aux_lemma =>
          have d2' : w2.cell? ⟨r, 2, none⟩ = some (.int .i64 0) := by rw [d2, hzf]; rfl
          have HZ2 := hide hzf
          have hov := HVv.out hzf
          obtain ⟨ay, cy, hvy⟩ := ownsRow_shape hov
          subst hvy
          have HOV := hide hov
          clear d2 hzf hov
          have hb4 : Below w2.heap.size w2 (w2.alloc (.cells #[.slice ay (rowV mo sk).length cy] 22)) := (Below.refl _ _).alloc (Nat.le_refl _) _
          have HB4 := hide hb4
          have HOA := hide (ownsRow_keepB HO2.out hb4)
          have HCX : Hid (∀ j u, ([.slice ay (rowV mo sk).length cy] : List Value)[j]? = some u → (w2.alloc (.cells #[.slice ay (rowV mo sk).length cy] 22)).cell? ((⟨w2.heap.size, 0, none⟩ : Addr).add j) = some u) := by
            intro j u hu
            match j, hu with
            | 0, hu =>
              simp only [List.getElem?_cons_zero, Option.some.injEq] at hu
              subst hu
              rw [add_zero, cell_of_row _ _ _ _ _ _ (heap_alloc_new w2 _)]
              rfl
            | j + 1, hu => simp at hu
          have HWS : Hid (w.heap.size ≤ (w2.alloc (.cells #[.slice ay (rowV mo sk).length cy] 22)).heap.size) := Nat.le_trans HK2.out.size hb4.size
          clear hb4
          go_wp2_with (at_builtin; refine wpList_append_own2 rfl _ _ 41 rfl w.heap.size 22 i0 (.slice none 0 0) 1 24 Try.underlying41 HI.out hz0 hz1 hz2 rfl (by decide) _ k vs rfl HOA.out ⟨w2.heap.size, 0, none⟩ 1 1 [.slice ay (rowV mo sk).length cy] rfl rfl HCX.out (fun u hu => by rw [List.mem_singleton.1 hu]; rfl) (by unfold maxLen; omega) (by omega) HWS.out ?_; intro v' w3 ho hg hnb; have HO3 := hide ho; have HG3 := hide hg; have HN3 := hide hnb; clear ho hg hnb)
          go_roundw
          case rel =>
            have hk5 : Keep (fun i => u7.ownBlock = some i) (w2.alloc (.cells #[.slice ay (rowV mo sk).length cy] 22)) w3 := Keep.grown HG3.out fun k e => e
            have hlo : ∀ i, u7.ownBlock = some i → w.heap.size ≤ i := fun i e => (HO2.out.lt i e).1
            have ntyp : ∀ {b : Nat} {v : Value} {l : List Nat}, (w2.alloc (.cells #[.slice ay (rowV mo sk).length cy] 22)).ownsRow b 5 1 v l.length (B8 l) → ∀ i, v.ownBlock = some i → u7.ownBlock ≠ some i := fun ho i e e2 => by
              rcases ho.2 with ⟨e1, _⟩ | ⟨g, cap, cur, e1, _, e3, _⟩
              · rw [e1] at e; cases e
              · rw [e1] at e
                cases e
                rcases HOA.out.2 with ⟨f1, _⟩ | ⟨g', cap', cur', f1, _, f3, _⟩
                · rw [f1] at e2; cases e2
                · rw [f1] at e2
                  cases e2
                  exact neTB e3 f3 (by decide) rfl
            refine ⟨k + 1, by omega, by go_num, ?_, ?_, ⟨_, HO3.out, ?_⟩, ?_, ?_⟩
            · rw [HS1.out]; exact HZ2.out
            · rw [HS1.out]
              exact (HR2.out.below HB4.out).stay hk5 fun j hj e => by have h1 := hlo j e; have h2 := HL.out; omega
            · rw [HVS.out]
              have hp := Bl.push (HB2.out.keep (Keep.ofBelow (S := fun _ => False) HB4.out (Nat.le_refl _)) fun _ _ _ _ _ h => h) (ownsRow_keepB HOV.out HB4.out) HSZ2.out HLtr.out
              exact hp.keep hk5 fun i v b hv hb e => by
                obtain ⟨l, hl⟩ : ∃ l, (blsB mo s k ++ [rowV mo sk])[i]? = some l := ⟨_, List.getElem?_eq_getElem (by have := (List.getElem?_eq_some_iff.1 hv).1; rw [hp.len] at this; exact this)⟩
                exact ntyp (hp.own i v l hv hl) b hb e
            · exact (HK2.out.more (Keep.ofBelow HB4.out (Nat.le_refl _))).trans hk5 fun i e => .inr (hlo i e)
            · refine hk5.blk (blkBX HX2.out HB4.out) fun e => ?_
              rcases HOA.out.2 with ⟨f1, _⟩ | ⟨g', cap', cur', f1, _, f3, _⟩
              · rw [f1] at e; cases e
              · rw [f1] at e
                cases e
                exact neTB f3 (blkBX HX2.out HB4.out) (by decide) rfl
          case measure => simp [intOf]; omega
        · as_aux_lemma =>
          have hzz : (((rowR mo sk).fault : Int) == 0) = false := by rw [beq_eq_false_iff_ne]; omega
          have HZ2 := hide hzf
          have HSN : Hid (allR (rowR mo) n s = rowR mo sk) := by show _ = _; rw [HST.out (by rw [HS1.out]; exact hzf) n (by omega), HS1.out]
          clear hzf
          go_wp2
          exact ⟨rfl, HK2.out, .inr ⟨by rw [HSN.out]; exact HZ2.out, (rowR mo sk).fault, rowR mo sk, rfl, HR2.out, by rw [HSN.out]; exact rfail_self HZ2.out _⟩⟩
    · obtain rfl : k = n := by omega
      obtain ⟨vs, h1, h2⟩ := HD.out.2.2.1
      have H1 := hide h1
      have H2 := hide h2
      clear h1 h2
      go_wp2
      go_ret
      exact ⟨HD.out.2.2.2.1, .inl ⟨HD.out.1, _, vs, rfl, HD.out.2.1, H1.out, H2.out⟩⟩
end Wm
end Go.Proofs.Yteaokgolnhdloaa
