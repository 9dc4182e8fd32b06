/- Codec: a list of nodes taken: takeAll, Lists (out of PListR, by hand). -/
import Derived.Test.YtbjcckfhfbjchaaGreatCDs
import Derived.Test.YtbjcckfhfbjchaaGreatPRow
import Derived.Test.YtbjcckfhfbjchaaGreatCDp
namespace Go.Proofs.YtbjcckfhfbjchaaGreat
namespace Cd
open Go.RowKit Go.Deep

/-- the cells of nodes -/
def flat (qs : List Gr.Nd) : List Value := qs.flatMap Gr.Nd.row
theorem flat_len (qs : List Gr.Nd) : (flat qs).length = qs.length * 10 := by
  induction qs with
  | nil => rfl
  | cons q qs ih => simp [flat] at ih ⊢; rw [ih]; simp [Gr.Nd.row]; omega
theorem flat_snoc (qs : List Gr.Nd) (q : Gr.Nd) : flat (qs ++ [q]) = flat qs ++ q.row := by simp [flat]
theorem row_one (q : Gr.Nd) : ∀ u ∈ q.row, u.oneCell' = true := fun u hu => by
  simp only [Gr.Nd.row, List.mem_cons, List.not_mem_nil, or_false] at hu
  rcases hu with rfl | rfl | rfl | rfl | rfl | rfl | rfl | rfl | rfl | rfl <;> rfl
theorem infoNd : (Tryz.prog.info? 57).map (fun i => (i.zero, i.size, i.bytes)) = some (some (.agg #[.string ⟨#[]⟩, .int .i64 0, .int .i64 0, .int .i64 0, .int .i64 0, .int .i64 0, .int .i64 0, .int .i64 0, .slice none 0 0, .slice none 0 0]), 10, 120) := by kernel_rfl
theorem ownsRow_keepN {w w' : World} {B es : Nat} {T : TypeId} {v : Value} {n : Nat} {xs : List Value} (h : w.ownsRow B T es v n xs) {q : Nat} {s : K.RS} (hr : Rr w q s) (hk : Keep (fun k => k = q) w w') (hT : T ≠ 136) : w'.ownsRow B T es v n xs := by
  refine ⟨h.1, ?_⟩
  rcases h.2 with h' | ⟨g, cap, cur, rfl, hb, hg, rest⟩
  · exact .inl h'
  · refine .inr ⟨g, cap, cur, rfl, hb, hk.blk hg (fun e => ?_), rest⟩
    have e' : g = q := e
    subst e'
    obtain ⟨a0, c0, hb, _⟩ := hr.ex
    rw [hg] at hb
    simp only [Option.some.injEq, Obj.cells.injEq] at hb
    exact hT hb.2.1
theorem ownsRow_belowN {w w' : World} {B es : Nat} {T : TypeId} {v : Value} {n : Nat} {xs : List Value} (h : w.ownsRow B T es v n xs) (hb : Below w.heap.size w w') : w'.ownsRow B T es v n xs := by
  refine ⟨h.1, ?_⟩
  rcases h.2 with h' | ⟨g, cap, cur, rfl, hB, hg, rest⟩
  · exact .inl h'
  · exact .inr ⟨g, cap, cur, rfl, hB, blkB hg hb, rest⟩
theorem row_neN {w : World} {B es : Nat} {T : TypeId} {v : Value} {n : Nat} {xs : List Value} (h : w.ownsRow B T es v n xs) {b : Nat} {cs : Array Value} {t : TypeId} (hb : w.heap[b]? = some (.cells cs t (0, 0))) (ht : t ≠ T) : v.ownBlock ≠ some b := by
  intro e
  rcases h.2 with ⟨rfl, _⟩ | ⟨g, cap, cur, rfl, _, hg, _⟩
  · cases e
  · simp only [Value.ownBlock, Option.some.injEq] at e
    subst e
    rw [hg] at hb
    simp only [Option.some.injEq, Obj.cells.injEq] at hb
    exact ht hb.2.1.symm
theorem grow_factsN {w w2 w3 : World} {o : Obj} {q B k bx es : Nat} {T t : TypeId} {v : Value} {vs : List Value} {cs : Array Value} {s : K.RS} (hk : Keep (fun k => k = q) w w2) (hr : Rr w2 q s) (ho : w2.ownsRow B T es v k vs) (hB : w.heap.size ≤ B) (hq : q < B)
    (hg : (w2.alloc o).grownBy w3 v.ownBlock) (hbx : w2.heap[bx]? = some (.cells cs t (0, 0))) (ht : t ≠ T) :
    Rr w3 q s ∧ Keep (fun k => k = q) w w3 ∧ w3.heap[bx]? = some (.cells cs t (0, 0)) ∧ ∀ V, StableT T V → ∀ x, V w2 x → V w3 x := by
  have hal : Below w2.heap.size w2 (w2.alloc o) := (Below.refl _ _).alloc (Nat.le_refl _) o
  have hk3 : Keep (fun j => v.ownBlock = some j) (w2.alloc o) w3 := Keep.grown hg fun _ e => e
  refine ⟨(hr.below hal).stay hk3 fun j hj e => ?_, ?_, ?_, ?_⟩
  · have := (ho.lt j e).1; omega
  · exact (hk.trans (T := fun _ => False) (Keep.ofBelow hal (Nat.le_refl _)) fun _ h => h.elim).grownNew hg fun j e => .inr (by have := (ho.lt j e).1; omega)
  · exact hk3.blk ((Keep.ofBelow (S := fun _ => False) hal (Nat.le_refl _)).blk hbx fun h => h) (row_neN ho hbx ht)
  · intro V hV x hx
    refine hV _ _ _ _ (hV.stable _ _ _ hx hal) hk3 fun j hj => ?_
    rcases (ho.alloc o).2 with ⟨rfl, _⟩ | ⟨g, cap, cur, rfl, _, hgg, _⟩
    · cases hj
    · simp only [Value.ownBlock, Option.some.injEq] at hj
      subst hj
      exact ⟨_, _, hgg, .inr rfl⟩
/-- what a list of nodes is -/
def ListVN (g : K.RS → K.RS) (V : K.RS → World → Value → Prop) (n : Nat) (s : K.RS) (w : World) (v : Value) : Prop :=
  ∃ qs : List Gr.Nd, qs.length = n ∧ w.ownsRow 0 57 10 v n (flat qs) ∧ ∀ (i : Nat) q, qs[i]? = some q → V (allR g i s) w (.agg q.row.toArray)
def listVN (most : Int) (g : K.RS → K.RS) (V : K.RS → World → Value → Prop) (s : K.RS) (w : World) (v : Value) : Prop := match cnt most (rest s) with
  | .ok (n, z) => ListVN g V n (s.go z) w v
  | .error _ => False
set_option maxRecDepth 10000 in
set_option maxHeartbeats 2000000 in
theorem takeAllNd (D : Nat → Prop) (wf : World) (q : Nat) (fn1 fn2 : FuncId) (cap1 cap2 : Array Value) (n : Nat) (hn : n ≤ 16777216) (g : K.RS → K.RS) (V : K.RS → World → Value → Prop) (hV : ∀ s, StableT 57 (V s)) (s : K.RS) (hs : s.fault = 0) (w : World)
    (ha : Agree D wf w) (hd : ¬ D q) (h : Rr w q s) (ht : TakesFG D wf fn2 cap2 g V ShNd) (hc : ∀ args w, (callFunc fn2 args).run Tryz.prog w = .ok (.enter fn2 args) w) :
    Calls Tryz.prog 119 #[.pointer (some ⟨q, 0, none⟩), .agg #[.func (.func fn1) #[] cap1, .func (.func fn2) #[] cap2], .int .i64 (n : Nat)] w fun en w' => Keep (fun k => k = q) w w' ∧
      (((allR g n s).fault = 0 ∧ ∃ v, en = .returned v ∧ Rr w' q (allR g n s) ∧ ListVN g V n s w' v) ∨ ((allR g n s).fault ≠ 0 ∧ ∃ e s1, en = gaveUp e ∧ Rr w' q s1 ∧ s1.fail e = allR g n s)) := by
  obtain ⟨i0, hi, hz0, hz1, hz2⟩ := info_parts infoNd
  have HI := hide hi
  have HA := hide ha
  have HD := hide hd
  have HT := hide ht
  have HC := hide hc
  have HV := hide hV
  have hba := (Below.refl w.heap.size w).alloc (Nat.le_refl _) (.cells #[.func (.func fn1) #[] cap1, .func (.func fn2) #[] cap2] 119)
  have HH := hide (h.below hba)
  have HX := hide (heap_alloc_new w (.cells #[.func (.func fn1) #[] cap1, .func (.func fn2) #[] cap2] 119))
  have HK0 := hide (Keep.ofBelow (S := fun k => k = q) hba (Nat.le_refl _))
  have HQ := hide h.lt
  have HS0 := hide hs
  clear ha hd ht hc hV h hba hi hs
  go_enter Tryz.func119, Tryz.ntmps119
  go_wp2
  generalize w.alloc (.cells #[.func (.func fn1) #[] cap1, .func (.func fn2) #[] cap2] 119) = wa at *
  have HBX0 : Hid (w.heap.size ≤ w.heap.size) := Nat.le_refl _
  generalize hbx : w.heap.size = bx at HX HQ HBX0 ⊢
  have HBX := hide hbx
  clear hbx
  go_loopw [7, 11] (fun v i wx => ∃ (k : Nat) (vs : List Gr.Nd), k ≤ n ∧ i = .int .i64 (k : Nat) ∧ vs.length = k ∧ Rr wx q (allR g k s) ∧ (allR g k s).fault = 0 ∧ wx.ownsRow bx 57 10 v k (flat vs) ∧ (∀ (i : Nat) x, vs[i]? = some x → V (allR g i s) wx (.agg x.row.toArray)) ∧ Keep (fun k => k = q) w wx ∧ wx.heap[bx]? = some (.cells #[.func (.func fn1) #[] cap1, .func (.func fn2) #[] cap2] 119 (0, 0))) (fun _ i _ => n - (intOf i).toNat)
  case atStart => exact ⟨0, [], Nat.zero_le _, rfl, rfl, HH.out, HS0.out, World.ownsRow_nil _ _ _ _, (fun i x hx => by cases hx), HK0.out, HX.out⟩
  case round =>
    obtain ⟨k, vs, hk, rfl, hvs, hr, hz, ho, hv, hkp, hbx⟩ := hrel
    have HR := hide hr
    have HZ := hide hz
    have HO := hide ho
    have HVS := hide hv
    have HKP := hide hkp
    have HBB := hide hbx
    have HL := hide hvs
    obtain ⟨_, _, _, c1, _, _⟩ := hr.see
    have htk : (allR g k s).taken ≤ 16777216 := Nat.le_trans hr.tak hr.top
    have e0 : wr.cell? ⟨bx, 0, none⟩ = some (.func (.func fn1) #[] cap1) := by rw [cell_of_row _ _ _ _ _ _ hbx]; rfl
    have e1 : wr.cell? ⟨bx, 1, none⟩ = some (.func (.func fn2) #[] cap2) := by rw [cell_of_row _ _ _ _ _ _ hbx]; rfl
    clear hr hz ho hv hkp hbx hvs
    by_cases hlt : k < n
    · have HST := hide (allR_stick g s (k + 1))
      have HSU : Hid (allR g (k + 1) s = if (g (allR g k s)).taken = (allR g k s).taken then (g (allR g k s)).fail 22 else g (allR g k s)) := by show thingR g (allR g k s) = _; unfold thingR; rw [if_pos HZ.out]
      have HAG := hide (HA.out.keep HKP.out (fun j hj e => HD.out (e ▸ hj)))
      generalize hsk : allR g k s = sk at *
      have HSK := hide hsk
      clear hsk
      go_upto_region 5 with fail
      have HFm : Hid ((Tryz.prog.info? 119).map (·.size) = some (#[.func (.func fn1) #[] cap1, .func (.func fn2) #[] cap2] : Array Value).size) := by show _ = _; kernel_rfl
      have TK := hide (TakeNd q fn1 fn2 cap1 cap2 sk (g sk) (V sk) (HV.out sk) wr HR.out (fun hz w1 hb => HT.out q sk w1 (HAG.out.keep (Keep.ofBelow (S := fun _ => False) hb (Nat.le_refl _)) (fun _ _ h => h)) HD.out (HR.out.below hb) hz) (fun hz => absurd HZ.out hz) HC.out)
      go_upto_region 6 with (first
        | (refine wpList_store_row rfl 57 _ _ rfl w2.heap.size #[.string nm, .int .i64 la, .int .i64 bu, .int .i64 cl, .int .i64 be, .int .i64 ba, .int .i64 ca, .int .i64 ji, .slice x1 x2 x3, .slice y1 y2 y3] rfl rfl 57 _ HA0.out HI1.out rfl HO1.out ?_)
        | (go_at_call 161; refine TK.out.mono ?_; rintro e w2 ⟨hk2, x, rfl, ⟨nm, la, bu, cl, be, ba, ca, ji, x1, x2, x3, y1, y2, y3, rfl⟩, hr2, hx, hnx⟩; have HI1 : Hid ((Tryz.prog.info? 57).map (·.size) = some (#[.string nm, .int .i64 la, .int .i64 bu, .int .i64 cl, .int .i64 be, .int .i64 ba, .int .i64 ca, .int .i64 ji, .slice x1 x2 x3, .slice y1 y2 y3] : Array Value).size) := sizeNd; have HO1 := hide (onesNd nm la bu cl be ba ca ji x1 x2 x3 y1 y2 y3); have HA0 := hide (heap_alloc_new w2 (.cells #[.string ⟨#[]⟩, .int .i64 0, .int .i64 0, .int .i64 0, .int .i64 0, .int .i64 0, .int .i64 0, .int .i64 0, .slice none 0 0, .slice none 0 0] 57)); have hx5 := setRow_heap (w2.alloc (.cells #[.string ⟨#[]⟩, .int .i64 0, .int .i64 0, .int .i64 0, .int .i64 0, .int .i64 0, .int .i64 0, .int .i64 0, .slice none 0 0, .slice none 0 0] 57)) w2.heap.size _ #[.string nm, .int .i64 la, .int .i64 bu, .int .i64 cl, .int .i64 be, .int .i64 ba, .int .i64 ca, .int .i64 ji, .slice x1 x2 x3, .slice y1 y2 y3] _ _ HA0.out; have hb5 : Below w2.heap.size w2 ((w2.alloc (.cells #[.string ⟨#[]⟩, .int .i64 0, .int .i64 0, .int .i64 0, .int .i64 0, .int .i64 0, .int .i64 0, .int .i64 0, .slice none 0 0, .slice none 0 0] 57)).setRow w2.heap.size #[.string nm, .int .i64 la, .int .i64 bu, .int .i64 cl, .int .i64 be, .int .i64 ba, .int .i64 ca, .int .i64 ji, .slice x1 x2 x3, .slice y1 y2 y3]) := ((Below.refl _ _).alloc (Nat.le_refl _) _).trans ((keep_row _ _ _).below (by simp) fun k e => by rw [e]; exact Nat.le_refl _); have HX5 := hide hx5; have HB5 := hide hb5; have HRa := hide hr2; have HKa := hide hk2; have HXa := hide hx; clear hx5 hb5 hr2 hk2 hx hnx e0 e1 c1 TK))
      change Code.wp _ _ _ _ ((w2.alloc (.cells #[.string ⟨#[]⟩, .int .i64 0, .int .i64 0, .int .i64 0, .int .i64 0, .int .i64 0, .int .i64 0, .int .i64 0, .slice none 0 0, .slice none 0 0] 57)).setRow w2.heap.size #[.string nm, .int .i64 la, .int .i64 bu, .int .i64 cl, .int .i64 be, .int .i64 ba, .int .i64 ca, .int .i64 ji, .slice x1 x2 x3, .slice y1 y2 y3])
      have hr2 := HRa.out.below HB5.out
      have hk2 := HKa.out.trans (T := fun _ => False) (Keep.ofBelow HB5.out (Nat.le_refl _)) fun _ f => f.elim
      have hx : (g sk).fault = 0 → V sk ((w2.alloc (.cells #[.string ⟨#[]⟩, .int .i64 0, .int .i64 0, .int .i64 0, .int .i64 0, .int .i64 0, .int .i64 0, .int .i64 0, .slice none 0 0, .slice none 0 0] 57)).setRow w2.heap.size #[.string nm, .int .i64 la, .int .i64 bu, .int .i64 cl, .int .i64 be, .int .i64 ba, .int .i64 ca, .int .i64 ji, .slice x1 x2 x3, .slice y1 y2 y3]) (.agg #[.string nm, .int .i64 la, .int .i64 bu, .int .i64 cl, .int .i64 be, .int .i64 ba, .int .i64 ca, .int .i64 ji, .slice x1 x2 x3, .slice y1 y2 y3]) := fun hz => (HV.out sk).stable _ _ _ (HXa.out hz) HB5.out
      generalize (w2.alloc (.cells #[.string ⟨#[]⟩, .int .i64 0, .int .i64 0, .int .i64 0, .int .i64 0, .int .i64 0, .int .i64 0, .int .i64 0, .slice none 0 0, .slice none 0 0] 57)).setRow w2.heap.size #[.string nm, .int .i64 la, .int .i64 bu, .int .i64 cl, .int .i64 be, .int .i64 ba, .int .i64 ca, .int .i64 ji, .slice x1 x2 x3, .slice y1 y2 y3] = w2b at *
      generalize w2.heap.size = tb at *
      clear HA0 HB5 HRa HKa HXa
      clear w2
      rename World => w2
      obtain ⟨_, _, _, d1, d2, _⟩ := hr2.see
      have htk2 : (g sk).taken ≤ 16777216 := Nat.le_trans hr2.tak hr2.top
      have HR2 := hide hr2
      have HK2 := hide (HKP.out.more hk2)
      have HX2 := hide hx
      have HO2 := hide (ownsRow_keepN HO.out HR.out hk2 (by decide))
      have HB2 := hide (hk2.blk HBB.out (box_ne HR.out HBB.out (by decide)))
      have HVS2 : Hid (∀ (i : Nat) x, vs[i]? = some x → V (allR g i s) w2 (.agg x.row.toArray)) := fun i y hy => HV.out _ _ _ _ _ (HVS.out i y hy) hk2 (fun j hj => by
        obtain ⟨a0, c0, hb', _⟩ := HR.out.ex
        have hj' : j = q := hj
        subst hj'
        exact ⟨_, _, hb', .inl rfl⟩)
      clear hr2 hk2 hx
      by_cases hq : (g sk).taken = sk.taken
      · have hqq : (((g sk).taken : Int) == (sk.taken : Int)) = true := by rw [hq]; exact beq_self_eq_true _
        have HS1 : Hid (allR g (k + 1) s = (g sk).fail 22) := by show _ = _; rw [HSU.out, if_pos hq]
        have hff : ((g sk).fail 22).fault ≠ 0 := by
          unfold K.RS.fail
          split
          · show 22 ≠ 0; decide
          · assumption
        have HFF := hide hff
        have HSN : Hid (allR g n s = (g sk).fail 22) := by show _ = _; rw [HST.out (by rw [HS1.out]; exact hff) n (by omega), HS1.out]
        clear hq hff
        go_wp2_with fail
        refine (rFail_any q (g sk) _ HR2.out).mono ?_
        rintro e w3 ⟨rfl, hr3, hk3⟩
        generalize hs3 : (g sk).fail 22 = s3 at *
        obtain ⟨_, _, _, _, f2, _⟩ := hr3.see
        have hzz : ((s3.fault : Int) == 0) = false := by rw [beq_eq_false_iff_ne]; have := HFF.out; omega
        have HR3 := hide hr3
        have HK3 := hide (HK2.out.more hk3)
        clear hr3 hk3 hs3 d1 d2
        go_wp2
        refine ⟨rfl, HK3.out, .inr ⟨by rw [HSN.out]; exact HFF.out, s3.fault, s3, rfl, HR3.out, ?_⟩⟩
        rw [HSN.out]
        unfold K.RS.fail
        rw [if_neg HFF.out]
      · have hqq : (((g sk).taken : Int) == (sk.taken : Int)) = false := by rw [beq_eq_false_iff_ne]; omega
        have HS1 : Hid (allR g (k + 1) s = g sk) := by show _ = _; rw [HSU.out, if_neg hq]
        clear hq
        by_cases hzf : (g sk).fault = 0
        · have d2' : w2.cell? ⟨q, 2, none⟩ = some (.int .i64 0) := by rw [d2, hzf]; rfl
          have HZ2 := hide hzf
          have HVX := hide (HX2.out hzf)
          clear d2 hzf
          have HOA := hide (HO2.out.alloc (.cells #[.string nm, .int .i64 la, .int .i64 bu, .int .i64 cl, .int .i64 be, .int .i64 ba, .int .i64 ca, .int .i64 ji, .slice x1 x2 x3, .slice y1 y2 y3] 57))
          have HCX : Hid (∀ j u, ([.string nm, .int .i64 la, .int .i64 bu, .int .i64 cl, .int .i64 be, .int .i64 ba, .int .i64 ca, .int .i64 ji, .slice x1 x2 x3, .slice y1 y2 y3] : List Value)[j]? = some u → (w2.alloc (.cells #[.string nm, .int .i64 la, .int .i64 bu, .int .i64 cl, .int .i64 be, .int .i64 ba, .int .i64 ca, .int .i64 ji, .slice x1 x2 x3, .slice y1 y2 y3] 57)).cell? ((⟨w2.heap.size, 0, none⟩ : Addr).add j) = some u) := fun j u hu => by
            rw [show ((⟨w2.heap.size, 0, none⟩ : Addr).add j) = ⟨w2.heap.size, j, none⟩ by simp [Addr.add]; exact fun e => e.symm, cell_of_row _ _ _ _ _ _ (heap_alloc_new w2 _), List.getElem?_toArray]
            exact hu
          have HFL : Hid ((flat vs).length = k * 10) := by show _ = _; rw [flat_len, HL.out]
          go_wp2_with (first
            | (refine wpList_load_row rfl 57 _ rfl tb rfl 57 #[.string nm, .int .i64 la, .int .i64 bu, .int .i64 cl, .int .i64 be, .int .i64 ba, .int .i64 ca, .int .i64 ji, .slice x1 x2 x3, .slice y1 y2 y3] (0, 0) _ HX5.out Tryz.underlying57 rfl HI1.out ?_)
            | (at_builtin; refine wpList_append_own2 rfl _ _ 28 rfl bx 57 i0 (.agg #[.string ⟨#[]⟩, .int .i64 0, .int .i64 0, .int .i64 0, .int .i64 0, .int .i64 0, .int .i64 0, .int .i64 0, .slice none 0 0, .slice none 0 0]) 10 120 Tryz.underlying28 HI.out hz0 hz1 hz2 rfl (by decide) _ k (flat vs) rfl HOA.out ⟨w2.heap.size, 0, none⟩ 1 1 [.string nm, .int .i64 la, .int .i64 bu, .int .i64 cl, .int .i64 be, .int .i64 ba, .int .i64 ca, .int .i64 ji, .slice x1 x2 x3, .slice y1 y2 y3] rfl rfl HCX.out (row_one ⟨nm, la, bu, cl, be, ba, ca, ji, (x1, x2, x3), (y1, y2, y3)⟩) (by unfold maxLen; omega) (by omega) (by have := HK2.out.size; have := HBX.out; simp; omega) ?_; intro v' w3 ho hg hnb; have HO3 := hide ho; have HG3 := hide hg; have HN3 := hide hnb; clear ho hg hnb))
          go_roundw
          case rel =>
            have hsz : w.heap.size ≤ bx := by have := HBX.out; omega
            obtain ⟨g1, g2, g3, g4⟩ := grow_factsN HK2.out HR2.out HO2.out hsz HQ.out HG3.out HB2.out (by decide)
            refine ⟨k + 1, vs ++ [⟨nm, la, bu, cl, be, ba, ca, ji, (x1, x2, x3), (y1, y2, y3)⟩], by omega, by go_num, by rw [List.length_append, HL.out]; rfl, ?_, ?_, by rw [flat_snoc]; exact HO3.out, ?_, g2, g3⟩
            · rw [HS1.out]; exact g1
            · rw [HS1.out]; exact HZ2.out
            · intro i y hy
              rcases Nat.lt_or_ge i vs.length with hi' | hi'
              · rw [List.getElem?_append_left hi'] at hy
                exact g4 _ (HV.out _) _ (HVS2.out i y hy)
              · rw [List.getElem?_append_right hi'] at hy
                obtain ⟨h0, h1⟩ := List.getElem?_eq_some_iff.1 hy
                have hik : i = k := by have := HL.out; simp at h0; omega
                subst hik
                have hy2 : y = ⟨nm, la, bu, cl, be, ba, ca, ji, (x1, x2, x3), (y1, y2, y3)⟩ := by rw [← h1]; simp
                subst hy2
                rw [HSK.out]
                exact g4 _ (HV.out _) _ HVX.out
          case measure => simp [intOf]; omega
        · have hzz : (((g sk).fault : Int) == 0) = false := by rw [beq_eq_false_iff_ne]; omega
          have HZ2 := hide hzf
          have HSN : Hid (allR g n s = g sk) := by show _ = _; rw [HST.out (by rw [HS1.out]; exact hzf) n (by omega), HS1.out]
          clear hzf
          go_wp2
          refine ⟨rfl, HK2.out, .inr ⟨by rw [HSN.out]; exact HZ2.out, (g sk).fault, g sk, rfl, HR2.out, ?_⟩⟩
          rw [HSN.out]
          unfold K.RS.fail
          rw [if_neg HZ2.out]
    · obtain rfl : k = n := by omega
      go_wp2
      go_ret
      exact ⟨HKP.out, .inl ⟨HZ.out, _, rfl, HR.out, vs, HL.out, ownsRow_base HO.out (Nat.zero_le _), HVS.out⟩⟩

set_option maxRecDepth 10000 in
theorem takeListNd (D : Nat → Prop) (wf : World) (q m o : Nat) (most : Int) (hmost : most ≤ 16777216) (fn1 fn2 : FuncId) (cap1 cap2 : Array Value) (g : K.RS → K.RS) (V : K.RS → World → Value → Prop) (hV : ∀ s, StableT 57 (V s)) (s : K.RS) (hs : s.fault = 0) (w : World)
    (ha : Agree D wf w) (hd : ¬ D q) (h : Rr w q s) (ht : TakesFG D wf fn2 cap2 g V ShNd) (hc : ∀ args w, (callFunc fn2 args).run Tryz.prog w = .ok (.enter fn2 args) w) (dm : D m) (dO : D o) (hm : wf.cell? ⟨m, 0, none⟩ = some (.int .i64 most)) (ho : wf.heap[o]? = some (.cells #[.func (.func fn1) #[] cap1, .func (.func fn2) #[] cap2] 119 (0, 0))) :
    Takes w q 117 #[.pointer (some ⟨m, 0, none⟩), .pointer (some ⟨o, 0, none⟩)] (listR most g s) (listVN most g V s) := by
  have hm' := ha.cell hm dm
  have HO := hide ho
  have HA := hide ha
  have HD := hide hd
  have HT := hide ht
  have HC := hide hc
  have HV := hide hV
  have HH := hide h
  have HDO := hide dO
  have HZ := hide hs
  have htp := h.top
  have htk := h.tak
  have hbyt := h.byt
  clear ha hd ht hc h hm ho dm dO hV hs
  unfold Takes
  show Calls Tryz.prog 117 #[.pointer (some ⟨q, 0, none⟩), .pointer (some ⟨m, 0, none⟩), .pointer (some ⟨o, 0, none⟩)] w _
  generalize hs' : listR most g s = s'
  generalize hx : listVN most g V s = VV
  have HS := hide hs'
  have HX := hide hx
  clear hs' hx
  cases hcn : cnt most (rest s) with
  | error e =>
    have HCN := hide hcn
    have HS' : Hid (s.fail e = s') := by show _ = _; rw [← HS.out]; unfold listR; rw [hcn]
    clear hcn
    go_enter Tryz.func117, Tryz.ntmps117
    go_wp2_with fail
    refine (peekCount_any q most s _ HH.out).mono ?_
    rintro en w1 ⟨hout, hb⟩
    rw [HCN.out] at hout
    have hen : en = gaveUp e := hout
    subst hen
    exact ⟨rfl, Keep.ofBelow hb (Nat.le_refl _), .inr ⟨by rw [← HS'.out]; exact fail_ne HZ.out (cnt_err HCN.out), e, s, rfl, HH.out.below hb, HS'.out⟩⟩
  | ok r =>
    obtain ⟨n, z⟩ := r
    have HCN := hide hcn
    have HS' : Hid (allR g n (s.go z) = s') := by show _ = _; rw [← HS.out]; unfold listR; rw [hcn]
    have HX' : Hid (ListVN g V n (s.go z) = VV) := by
      show _ = _
      rw [← HX.out]
      funext w v
      unfold listVN
      rw [hcn]
    obtain ⟨hpk, hnm, hzn⟩ := cnt_ok hcn
    obtain ⟨k1, k2, k3, _, k5⟩ := K.pk_ok hbyt hpk
    rw [rest_len] at k3 hzn
    clear hcn hpk
    go_enter Tryz.func117, Tryz.ntmps117
    go_wp2_with fail
    refine (peekCount_any q most s _ HH.out).mono ?_
    rintro en w1 ⟨hout, hb⟩
    rw [HCN.out] at hout
    have hen : en = .returned (.tuple #[.int .i64 (n : Nat), .int .i64 (z : Nat)]) := hout
    subst hen
    have HB := hide hb
    have HR1 := hide (HH.out.below hb)
    obtain ⟨_, _, _, c1, _, hf⟩ := HR1.out.see
    have hf1 := hf 1
    have hqo : ¬ o = q := fun e => HD.out (e ▸ HDO.out)
    have HAG := hide (HA.out.keep (Keep.ofBelow (S := fun _ => False) hb (Nat.le_refl _)) fun _ _ h => h)
    have hbo := (HAG.out o HDO.out).2.trans HO.out
    have e0 : w1.cell? ⟨o, 0, none⟩ = some (.func (.func fn1) #[] cap1) := by rw [cell_of_row _ _ _ _ _ _ hbo]; rfl
    have e1 : w1.cell? ⟨o, 1, none⟩ = some (.func (.func fn2) #[] cap2) := by rw [cell_of_row _ _ _ _ _ _ hbo]; rfl
    clear hout hb hf hbo hbyt
    have HSET := hide (HR1.out.set1 (s.taken + z) (by omega))
    have HKS : Hid (Keep (fun k => k = q) w1 (w1.setCell ⟨q, 1, none⟩ (.int .i64 ((s.taken + z : Nat) : Int)))) := Keep.setCell (S := fun k => k = q) w1 (p := ⟨q, 1, none⟩) rfl _
    have hne1 : (⟨o, 0, none⟩ : Addr) ≠ ⟨q, 1, none⟩ := fun e => by injection e; omega
    have hne2 : (⟨o, 1, none⟩ : Addr) ≠ ⟨q, 1, none⟩ := fun e => by injection e; omega
    have hzz : s.taken + z ≤ 16777216 := by omega
    go_wp2_with fail
    refine (takeAllNd D wf q fn1 fn2 cap1 cap2 n (by omega) g V HV.out (s.go z) HZ.out _ (HAG.out.keep HKS.out fun j hj e => HD.out (e ▸ hj)) HD.out HSET.out HT.out HC.out).mono ?_
    rintro en w2 ⟨hk2, hcase⟩
    have HK2 := hide (((Keep.ofBelow (S := fun k => k = q) HB.out (Nat.le_refl _)).more HKS.out).more hk2)
    rw [HS'.out, HX'.out] at hcase
    clear hk2
    rcases hcase with ⟨hz0, v, rfl, hr, hv⟩ | ⟨hz0, e, s1, rfl, hr, hfl⟩
    · have HR := hide hr
      have HVV := hide hv
      have HZ0 := hide hz0
      clear hr hv hz0
      go_wp2
      go_ret
      exact ⟨HK2.out, .inl ⟨HZ0.out, v, rfl, HR.out, HVV.out⟩⟩
    · exact ⟨rfl, HK2.out, .inr ⟨hz0, e, s1, rfl, hr, hfl⟩⟩
theorem ent_takeListNd (args : Array Value) (w : World) : (callFunc 117 args).run Tryz.prog w = .ok (.enter 117 args) w :=
  callFunc_enter Tryz.func117 (by kernel_rfl) (by kernel_rfl) args w

theorem takesListNd (D : Nat → Prop) (wf : World) (m o : Nat) (most : Int) (hmost : most ≤ 16777216) (fn1 fn2 : FuncId) (cap1 cap2 : Array Value) (g : K.RS → K.RS) (V : K.RS → World → Value → Prop) (hV : ∀ s, StableT 57 (V s))
    (ht : TakesFG D wf fn2 cap2 g V ShNd) (hc : ∀ args w, (callFunc fn2 args).run Tryz.prog w = .ok (.enter fn2 args) w) (dm : D m) (dO : D o) (hm : wf.cell? ⟨m, 0, none⟩ = some (.int .i64 most)) (ho : wf.heap[o]? = some (.cells #[.func (.func fn1) #[] cap1, .func (.func fn2) #[] cap2] 119 (0, 0))) :
    TakesG D wf 117 #[.pointer (some ⟨m, 0, none⟩), .pointer (some ⟨o, 0, none⟩)] (listR most g) (listVN most g V) :=
  fun q s w1 ha hd h hz => takeListNd D wf q m o most hmost fn1 fn2 cap1 cap2 g V hV s hz w1 ha hd h ht hc dm dO hm ho
end Cd
end Go.Proofs.YtbjcckfhfbjchaaGreat
