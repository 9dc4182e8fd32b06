import Derived.Test.YtoelgcagahmndaaGreatPTl4
import Derived.Test.YtoelgcagahmndaaGreatPRdM
/- PackThings: a list taken; Lists. -/
namespace Go.Proofs.YtoelgcagahmndaaGreat
namespace Wm
open Go.RowKit Go.Deep

def nT (most : Int) (s : K.RS) : Nat := match cnt most (rest s) with
  | .ok (n, _) => n
  | .error _ => 0
def sT (most : Int) (s : K.RS) : K.RS := match cnt most (rest s) with
  | .ok (_, z) => s.go z
  | .error e => s.fail e
theorem nT_head {mo : Int} {s : K.RS} (hs : s.fault = 0) : nT (min mo 16777216) s = hdN mo s ∧ sT (min mo 16777216) s = takeR (headR mo) s := by
  have e2 : takeR (headR mo) s = headR mo s := if_pos hs
  unfold nT sT hdN okR
  rw [e2]
  unfold headR headV
  cases hc : cnt (min mo 16777216) (rest s) with
  | error e => simp
  | ok r =>
    obtain ⟨n, z⟩ := r
    have : (s.go z).fault = 0 := hs
    simp [this]
theorem ent_listT2 (args : Array Value) (w : World) : (callFunc 50 args).run Tryz.prog w = .ok (.enter 50 args) w :=
  callFunc_enter Tryz.func50 rfl rfl args w
set_option maxRecDepth 10000 in
theorem takeListT (r pb cb mb fb : Nat) (most : Int) (hmost : most ≤ 16777216) (s : K.RS) (hs : s.fault = 0) (w : World) (h : Rr w r s) (hc : w.heap[cb]? = some (numB 0)) (hmb : w.heap[mb]? = some (numB most)) (hfb : w.heap[fb]? = some (.cells (thF pb cb) 37 (0, 0))) :
    Calls Tryz.prog 50 #[.pointer (some ⟨r, 0, none⟩), .pointer (some ⟨mb, 0, none⟩), .pointer (some ⟨fb, 0, none⟩)] w (Ta w r cb (nT most s) (sT most s)) := by
  have m0 := (numB_cell hmb).1
  have HH := hide h
  have HC := hide hc
  have HF := hide hfb
  have HZ := hide hs
  have htp := h.top
  have htk := h.tak
  have hbyt := h.byt
  have HIF : Hid ((Tryz.prog.info? 37).map (·.size) = some (thF pb cb).size) := by show _ = _; kernel_rfl
  clear h hc hmb hfb hs
  cases hcn : cnt most (rest s) with
  | error e =>
    have HCN := hide hcn
    have en1 : nT most s = 0 := by unfold nT; rw [hcn]
    have en2 : sT most s = s.fail e := by unfold sT; rw [hcn]
    rw [en1, en2]
    clear hcn en1 en2
    go_enter Tryz.func50, Tryz.ntmps50
    go_wp2_with fail
    refine (peekCount_any r most s _ HH.out).mono ?_
    rintro en w1 ⟨hout, hb⟩
    rw [HCN.out] at hout
    have hen : en = gaveUp e := hout
    subst hen
    exact ⟨rfl, Keep.ofBelow hb (Nat.le_refl _), ⟨0, Nat.le_refl _, blkB HC.out hb, (fun i hi => by omega), .inr ⟨fail_ne HZ.out (cnt_err HCN.out), e, s, rfl, HH.out.below hb, rfl⟩⟩⟩
  | ok q =>
    obtain ⟨n, z⟩ := q
    have HCN := hide hcn
    have en1 : nT most s = n := by unfold nT; rw [hcn]
    have en2 : sT most s = s.go z := by unfold sT; rw [hcn]
    rw [en1, en2]
    obtain ⟨hpk, hnm, hzn⟩ := cnt_ok hcn
    obtain ⟨k1, k2, k3, _, k5⟩ := K.pk_ok hbyt hpk
    rw [rest_len] at k3 hzn
    clear hcn hpk en1 en2
    go_enter Tryz.func50, Tryz.ntmps50
    go_wp2_with fail
    refine (peekCount_any r most s _ HH.out).mono ?_
    rintro en w1 ⟨hout, hb⟩
    rw [HCN.out] at hout
    have hen : en = .returned (.tuple #[.int .i64 (n : Nat), .int .i64 (z : Nat)]) := hout
    subst hen
    have HB := hide hb
    have HR1 := hide (HH.out.below hb)
    obtain ⟨_, _, _, c1, _, hf⟩ := HR1.out.see
    have hf1 := hf 1
    clear hout hb hf hbyt m0
    have hset := HR1.out.set1 (s.taken + z) (by omega)
    have hks := keep_cell w1 r 1 (.int .i64 ((s.taken + z : Nat) : Int))
    have HSET := hide hset
    have HKS := hide hks
    obtain ⟨_, hrb, _⟩ := Rr.noU HR1.out
    have HF2 := hide (hks.blk (blkB HF.out HB.out) (fun e => neT (blkB HF.out HB.out) hrb (by decide) e))
    have HC2 := hide (hks.blk (blkB HC.out HB.out) (fun e => neT (blkB HC.out HB.out) hrb (by decide) e))
    clear hset hks hrb
    have hzz : s.taken + z ≤ 16777216 := by omega
    go_upto_region 3 with fail
    change Code.wp _ _ _ _ (w1.setCell ⟨r, 1, none⟩ (.int .i64 ((s.taken + z : Nat) : Int)))
    generalize w1.setCell ⟨r, 1, none⟩ (.int .i64 ((s.taken + z : Nat) : Int)) = w2 at *
    have HK2 := hide ((Keep.ofBelow (S := fun k => k = r ∨ k = cb) HB.out (Nat.le_refl _)).trans HKS.out fun i e => .inl (.inl e))
    go_wp2_with (refine wpList_load_row rfl 37 _ rfl fb rfl 37 (thF pb cb) (0, 0) _ HF2.out Tryz.underlying37 rfl HIF.out ?_)
    go_at_call 52
    refine (takeAllT r pb cb n (by omega) (s.go z) HZ.out w2 HSET.out HC2.out).mono ?_
    rintro en w3 ⟨hk3, j, hj, hcb, hf0, hcase⟩
    have HK3 := hide (HK2.out.more hk3)
    have HJ := hide hj
    have HCB := hide hcb
    have HF0 := hide hf0
    clear hk3 hj hcb hf0
    rcases hcase with ⟨e1, hz0, v, rfl, hr, hv⟩ | ⟨hz0, e, s1, rfl, hr, hfl⟩
    · have HR := hide hr
      have HVV := hide hv
      have HZ0 := hide hz0
      have HE1 := hide e1
      clear hr hv hz0 e1
      go_wp2
      go_ret
      exact ⟨HK3.out, ⟨j, HJ.out, HCB.out, HF0.out, .inl ⟨HE1.out, HZ0.out, v, rfl, HR.out, ownsRow_base HVV.out (Nat.le_trans HB.out.size HKS.out.size)⟩⟩⟩
    · exact ⟨rfl, HK3.out, ⟨j, HJ.out, HCB.out, HF0.out, .inr ⟨hz0, e, s1, rfl, hr, hfl⟩⟩⟩
/-- behind the catch -/
structure Tt (w : World) (r cb : Nat) (n : Nat) (s : K.RS) (en : Ending) (w' : World) : Prop where
  keep : Keep (fun k => k = r ∨ k = cb) w w'
  ex : ∃ j, j ≤ n ∧ w'.heap[cb]? = some (numB (j : Nat)) ∧ (∀ i, i < j → (allR getE i s).fault = 0) ∧ (j = n ∨ (allR getE j s).fault ≠ 0) ∧ Rr w' r (allR getE j s) ∧ ∃ v, en = .returned v ∧
    w'.ownsRow w.heap.size 33 2 v (if (allR getE j s).fault = 0 then valsT s j else []).length (flT (if (allR getE j s).fault = 0 then valsT s j else []))
set_option maxRecDepth 10000 in
theorem triedL (r cb : Nat) (fn1 fn2 : FuncId) (cap1 cap2 : Array Value) (n : Nat) (s : K.RS) (w : World) (hr : r < w.heap.size) (hc : cb < w.heap.size) (hrc : r ≠ cb)
    (ht : ∀ w1, Below w.heap.size w w1 → Calls Tryz.prog fn2 (#[.pointer (some ⟨r, 0, none⟩)] ++ cap2) w1 (Ta w1 r cb n s))
    (he : ∀ args w, (callFunc fn2 args).run Tryz.prog w = .ok (.enter fn2 args) w) :
    Calls Tryz.prog 67 #[.agg #[.func (.func fn1) #[] cap1, .func (.func fn2) #[] cap2], .pointer (some ⟨r, 0, none⟩)] w (Tt w r cb n s) := by
  have hmf : ∀ (fn : Fn) (first cap : Array Value) (w : World), (Instr.makeFunc fn first cap).run Tryz.prog w = .ok (.func fn first cap) w := fun _ _ _ _ => rfl
  have HT := hide ht
  clear ht
  go_enter_defers Tryz.func67, Tryz.ntmps67
  go_wp2_with fail
  have hba := ((Below.refl w.heap.size w).alloc (Nat.le_refl _) (.cells #[.func (.func fn1) #[] cap1, .func (.func fn2) #[] cap2] 30)).alloc (by simp) (.cells #[.pointer (some ⟨r, 0, none⟩)] 40)
  have hrb := heap_alloc_new (w.alloc (.cells #[.func (.func fn1) #[] cap1, .func (.func fn2) #[] cap2] 30)) (.cells #[.pointer (some ⟨r, 0, none⟩)] 40)
  generalize hwa : (w.alloc (.cells #[.func (.func fn1) #[] cap1, .func (.func fn2) #[] cap2] 30)).alloc (.cells #[.pointer (some ⟨r, 0, none⟩)] 40) = wa at *
  have hrb2 : wa.heap[w.heap.size + 1]? = some (.cells #[.pointer (some ⟨r, 0, none⟩)] 40 (0, 0)) := by simpa using hrb
  have HKA := hide (Keep.ofBelow (S := fun k => k = r ∨ k = cb) hba (Nat.le_refl _))
  have HBS : Hid (w.heap.size ≤ wa.heap.size) := hba.size
  refine (HT.out wa hba).mono ?_
  clear hba hrb hwa
  rintro en w1 ⟨hk, j, hj, hcb, hf0, hcase⟩
  have hrb1 := hk.blk hrb2 (by rintro (e | e) <;> omega)
  have hc1 : w1.cell? ⟨w.heap.size + 1, 0, none⟩ = some (.pointer (some ⟨r, 0, none⟩)) := by rw [cell_of_row _ _ _ _ _ _ hrb1]; rfl
  have HK := hide (HKA.out.more hk)
  have HJ := hide hj
  have HCB := hide hcb
  have HF0 := hide hf0
  clear hk hj hcb hf0 hrb1 hrb2
  rcases hcase with ⟨e1, hz0, v, rfl, hr1, hv⟩ | ⟨hz0, e, s1, rfl, hr1, hfl⟩
  · have HR := hide hr1
    have HVV := hide hv
    have HZ0 := hide hz0
    have HE1 := hide e1
    clear hr1 hv hz0 e1
    go_wp2
    refine leaves_cons (f := 125) (args := #[.pointer (some ⟨w.heap.size + 1, 0, none⟩)]) (by simp) (by simp [go_sem]) ?_
    refine (idleLt r (w.heap.size + 1) _ hc1).mono ?_
    rintro e u' w'' ⟨rfl, rfl, rfl⟩
    have e1 := HE1.out
    subst e1
    refine ⟨_, results_tmp rfl _ _ _, HK.out.more (Keep.drew _ _), ⟨j, Nat.le_refl _, HCB.out, HF0.out, .inl rfl, HR.out.below (Below.refl _ _).drew, v, rfl, ?_⟩⟩
    rw [if_pos HZ0.out, valsT_len]
    exact ownsRow_base (ownsRow_keepB HVV.out (Below.refl _ _).drew) HBS.out
  · refine leaves_cons (f := 125) (args := #[.pointer (some ⟨w.heap.size + 1, 0, none⟩)]) (by simp) (by simp [go_sem]) ?_
    refine (catchLt r (w.heap.size + 1) s1 e [] _ hr1 hc1).mono ?_
    rintro e2 u' w'' ⟨rfl, rfl, hr2, hk2⟩
    rw [hfl] at hr2
    refine ⟨_, results_tmp rfl _ _ _, HK.out.trans hk2 (fun i e => .inl (.inl e)), ⟨j, HJ.out, hk2.blk HCB.out (fun e => hrc e.symm), HF0.out, .inr hz0, hr2, _, rfl, ?_⟩⟩
    rw [if_neg hz0]
    exact World.ownsRow_nil _ _ _ _
end Wm
end Go.Proofs.YtoelgcagahmndaaGreat

/- PackThings: Take of a list; Lists. -/
namespace Go.Proofs.YtoelgcagahmndaaGreat
namespace Wm
open Go.RowKit Go.Deep

theorem Tt.base {w w1 w' : World} {r cb n : Nat} {s : K.RS} {en : Ending} (h : Tt w1 r cb n s en w') (b : Below w.heap.size w w1) : Tt w r cb n s en w' := by
  obtain ⟨j, h1, h2, h3, h4, h5, v, h6, h7⟩ := h.ex
  exact ⟨(Keep.ofBelow b (Nat.le_refl _)).more h.keep, ⟨j, h1, h2, h3, h4, h5, v, h6, ownsRow_base h7 b.size⟩⟩
set_option maxRecDepth 10000 in
theorem TakeL (r cb : Nat) (fn1 fn2 : FuncId) (cap1 cap2 : Array Value) (n : Nat) (s0 s : K.RS) (hz : s0.fault = 0) (w : World) (h : Rr w r s0) (hc : cb < w.heap.size) (hrc : r ≠ cb)
    (ht : ∀ w1, Below w.heap.size w w1 → Calls Tryz.prog fn2 (#[.pointer (some ⟨r, 0, none⟩)] ++ cap2) w1 (Ta w1 r cb n s))
    (he : ∀ args w, (callFunc fn2 args).run Tryz.prog w = .ok (.enter fn2 args) w) :
    Calls Tryz.prog 21 #[.agg #[.func (.func fn1) #[] cap1, .func (.func fn2) #[] cap2], .pointer (some ⟨r, 0, none⟩)] w (Tt w r cb n s) := by
  have hba := (Below.refl w.heap.size w).alloc (Nat.le_refl _) (.cells #[.func (.func fn1) #[] cap1, .func (.func fn2) #[] cap2] 30)
  have hra := h.below hba
  have HT := hide ht
  have HB := hide hba
  have hr := h.lt
  obtain ⟨a, c, _, _, c2, _⟩ := hra.see
  clear ht h hra hba
  have c2' : (w.alloc (.cells #[.func (.func fn1) #[] cap1, .func (.func fn2) #[] cap2] 30)).cell? ⟨r, 2, none⟩ = some (.int .i64 0) := by rw [c2, hz]; rfl
  have hcf := heap_alloc_new w (.cells #[.func (.func fn1) #[] cap1, .func (.func fn2) #[] cap2] 30)
  clear hz c2
  go_enter Tryz.func21, Tryz.ntmps21
  go_wp2_with fail
  refine (wholeL fn1 fn2 cap1 cap2 _).mono ?_
  rintro e w1 ⟨rfl, hb1⟩
  have hblk := (Keep.ofBelow (S := fun _ => False) hb1 (Nat.le_refl _)).blk hcf (fun h => h)
  have d0 : w1.cell? ⟨w.heap.size, 0, none⟩ = some (.func (.func fn1) #[] cap1) := by rw [cell_of_row _ _ _ _ _ _ hblk]; rfl
  have d1 : w1.cell? ⟨w.heap.size, 1, none⟩ = some (.func (.func fn2) #[] cap2) := by rw [cell_of_row _ _ _ _ _ _ hblk]; rfl
  have HB1 := hide (HB.out.trans (hb1.mono HB.out.size))
  clear hb1 hblk c2' hcf
  go_wp2_with fail
  refine (triedL r cb fn1 fn2 cap1 cap2 n s w1 (Nat.lt_of_lt_of_le hr HB1.out.size) (Nat.lt_of_lt_of_le hc HB1.out.size) hrc (fun w2 hb2 => HT.out w2 (further HB1.out hb2)) he).mono ?_
  rintro e w2 h2
  have H2 := hide (h2.base HB1.out)
  obtain ⟨j, k1, k2, k3, k4, k5, v, rfl, k7⟩ := h2.ex
  obtain ⟨_, _, _, _, e2, _⟩ := k5.see
  have K1 := hide k1
  have K2 := hide k2
  have K3 := hide k3
  have K4 := hide k4
  have K5 := hide k5
  clear k1 k2 k3 k4 k5 k7 h2
  by_cases hz' : (allR getE j s).fault = 0
  · have e2' : w2.cell? ⟨r, 2, none⟩ = some (.int .i64 0) := by rw [e2, hz']; rfl
    clear e2 hz'
    go_wp2
    go_ret
    exact H2.out
  · have hzz : ((((allR getE j s).fault : Nat) : Int) == 0) = false := by simpa using hz'
    have HZ' := hide hz'
    clear hz'
    go_wp2
    go_ret
    refine ⟨H2.out.keep, ⟨j, K1.out, K2.out, K3.out, K4.out, K5.out, _, rfl, ?_⟩⟩
    rw [if_neg HZ'.out]
    exact World.ownsRow_nil _ _ _ _
set_option maxRecDepth 10000 in
theorem TakeL0 (r : Nat) (fn1 fn2 : FuncId) (cap1 cap2 : Array Value) (s : K.RS) (hz : s.fault ≠ 0) (w : World) (h : Rr w r s) :
    Calls Tryz.prog 21 #[.agg #[.func (.func fn1) #[] cap1, .func (.func fn2) #[] cap2], .pointer (some ⟨r, 0, none⟩)] w fun en w' => en = .returned (.slice none 0 0) ∧ Below w.heap.size w w' := by
  have hba := (Below.refl w.heap.size w).alloc (Nat.le_refl _) (.cells #[.func (.func fn1) #[] cap1, .func (.func fn2) #[] cap2] 30)
  have hra := h.below hba
  obtain ⟨a, c, _, _, c2, _⟩ := hra.see
  have HB := hide hba
  have hzz : (((s.fault : Nat) : Int) == 0) = false := by simpa using hz
  clear h hra hba hz
  go_enter Tryz.func21, Tryz.ntmps21
  go_wp2
  go_ret
  exact ⟨rfl, HB.out⟩
theorem listsT (pb cb : Nat) (most : Int) (w : World) :
    Calls Tryz.prog 6 #[.agg (thF pb cb), .int .i64 most] w fun en w' => ∃ m o, en = .returned (.agg (thL m o)) ∧ w'.heap[m]? = some (numB (min most 16777216)) ∧ w'.heap[o]? = some (.cells (thF pb cb) 37 (0, 0)) ∧ w.heap.size ≤ m ∧ w.heap.size ≤ o ∧ Below w.heap.size w w' := by
  have hmf : ∀ (fn : Fn) (first cap : Array Value) (w : World), (Instr.makeFunc fn first cap).run Tryz.prog w = .ok (.func fn first cap) w := fun _ _ _ _ => rfl
  have h2 := min_run most 16777216 (min most 16777216) (by omega)
  generalize min most 16777216 = m2 at *
  go_enter Tryz.func6, Tryz.ntmps6
  go_wp2_with fail
  refine (MakeLt _ _ _ _ _).mono ?_
  rintro e w1 ⟨rfl, hb1⟩
  obtain ⟨b0, b1, b2, hb⟩ := blocks3 hb1
  have HB := hide hb
  have D0 := hide b0
  have D1 := hide b1
  have D2 := hide b2
  clear hb1 hb b0 b1 b2
  have HIL : Hid ((Tryz.prog.info? 30).map (·.size) = some (thL (w.heap.size + 1) w.heap.size).size) := by show _ = _; kernel_rfl
  have HOL : Hid ((thL (w.heap.size + 1) w.heap.size).all (·.oneCell') = true) := by show _ = _; simp [thL, Value.oneCell']
  go_wp2_with (refine wpList_store_row rfl 30 _ _ rfl (w.heap.size + 1 + 1) (thL (w.heap.size + 1) w.heap.size) rfl rfl 30 _ D2.out HIL.out rfl HOL.out ?_)
  have HX := hide (setRow_heap w1 (w.heap.size + 1 + 1) _ (thL (w.heap.size + 1) w.heap.size) _ _ D2.out)
  have HK := hide (keep_row w1 (w.heap.size + 1 + 1) (thL (w.heap.size + 1) w.heap.size))
  refine bodyPost_ret (results_cell_row rfl _ _ (w.heap.size + 1 + 1) 30 (thL (w.heap.size + 1) w.heap.size) (0, 0) _ rfl HX.out Tryz.underlying30 rfl HIL.out) rfl ⟨w.heap.size + 1, w.heap.size, rfl, HK.out.blk D1.out (by show ¬ _ = _; omega), HK.out.blk D0.out (by show ¬ _ = _; omega), by omega, Nat.le_refl _, HB.out.trans (HK.out.below HB.out.size fun i e => by have : i = w.heap.size + 1 + 1 := e; omega)⟩
/-- Take of the law's list -/
theorem takeThgs (r pb cb mb fb : Nat) (most : Int) (hm : most ≤ 16777216) (s : K.RS) (hz : s.fault = 0) (w : World) (h : Rr w r s) (hc : w.heap[cb]? = some (numB 0)) (hmb : w.heap[mb]? = some (numB most)) (hfb : w.heap[fb]? = some (.cells (thF pb cb) 37 (0, 0))) :
    Calls Tryz.prog 21 #[.agg (thL mb fb), .pointer (some ⟨r, 0, none⟩)] w (Tt w r cb (nT most s) (sT most s)) := by
  obtain ⟨_, hrb, _⟩ := Rr.noU h
  exact TakeL r cb _ _ _ _ (nT most s) s (sT most s) hz w h (Array.getElem?_eq_some_iff.1 hc).1 (neT hrb hc (by decide)) (fun w1 hb => takeListT r pb cb mb fb most hm s hz w1 (h.below hb) (blkB hc hb) (blkB hmb hb) (blkB hfb hb)) ent_listT2
theorem takeAny (r pb cb mb fb : Nat) (mo : Int) (s : K.RS) (w : World) (h : Rr w r s) (hc : w.heap[cb]? = some (numB 0)) (hmb : w.heap[mb]? = some (numB (min mo 16777216))) (hfb : w.heap[fb]? = some (.cells (thF pb cb) 37 (0, 0))) :
    Calls Tryz.prog 21 #[.agg (thL mb fb), .pointer (some ⟨r, 0, none⟩)] w (Tt w r cb (hdN mo s) (takeR (headR mo) s)) := by
  by_cases hz : s.fault = 0
  · obtain ⟨e1, e2⟩ := nT_head (mo := mo) hz
    rw [← e1, ← e2]
    exact takeThgs r pb cb mb fb _ (by omega) s hz w h hc hmb hfb
  · have e2 : takeR (headR mo) s = s := if_neg hz
    have e1 : hdN mo s = 0 := by unfold hdN okR; rw [e2, if_neg hz]
    rw [e1, e2]
    refine (TakeL0 r _ _ _ _ s hz w h).mono fun en w' ⟨e, hb⟩ => ⟨Keep.ofBelow hb (Nat.le_refl _), ⟨0, Nat.le_refl _, blkB hc hb, (fun i hi => by omega), .inl rfl, h.below hb, _, e, ?_⟩⟩
    rw [if_neg (show (allR getE 0 s).fault ≠ 0 from hz)]
    exact World.ownsRow_nil _ _ _ _
theorem hdN_le (mo : Int) (s : K.RS) : hdN mo s ≤ 16777216 := by
  unfold hdN okR
  split
  · unfold headV
    cases hc : cnt (min mo 16777216) (rest s) with
    | error e => exact Nat.zero_le _
    | ok q =>
      obtain ⟨n, z⟩ := q
      obtain ⟨_, h, _⟩ := cnt_ok hc
      show n ≤ 16777216
      omega
  · exact Nat.zero_le _
theorem okR_cast (g : K.RS → K.RS) (s : K.RS) (x : Nat) : okR g s ((x : Nat) : Int) 0 = ((okR g s x 0 : Nat) : Int) := by unfold okR; split <;> rfl
theorem sliceT (a : Option Addr) (n c hi : Nat) (h2 : hi ≤ c) (w : World) :
    (Instr.slice 22 (.slice a n c) none (some (.int .i64 (hi : Int))) none).run Tryz.prog w = .ok (.slice a hi c) w := by
  go_simp
end Wm
end Go.Proofs.YtoelgcagahmndaaGreat
