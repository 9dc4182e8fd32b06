/- Lists of blobs that are taken: Lists' take, tried, Take. -/
import Derived.Test.YteaokgolnhdloaaPRb2
import Derived.Test.YteaokgolnhdloaaPHdN
import Derived.Deep.CutRange
namespace Go.Proofs.Yteaokgolnhdloaa
namespace Wm
open Go.RowKit Go.Deep

def numB (c : Int) : Obj := .cells #[.int .i64 c] 3 (0, 0)
theorem numB_cell {w : World} {b : Nat} {c : Int} (h : w.heap[b]? = some (numB c)) : w.cell? ⟨b, 0, none⟩ = some (.int .i64 c) ∧ w.frozen? ⟨b, 0, none⟩ = false := by
  refine ⟨by rw [cell_of_row _ _ _ _ _ _ h]; rfl, frozen_of_row w b 0 _ _ h⟩
theorem keep_cellB (w : World) (p j : Nat) (v : Value) : Keep (fun k => k = p) w (w.setCell ⟨p, j, none⟩ v) := Keep.setCell (S := fun k => k = p) w (p := ⟨p, j, none⟩) rfl v
theorem Rr.blkR {w : World} {q : Nat} {s : K.RS} (h : Rr w q s) : ∃ cs, w.heap[q]? = some (.cells cs 95 (0, 0)) := by
  obtain ⟨a, c, h1, _⟩ := h.ex
  exact ⟨_, h1⟩
def nT (most : Int) (s : K.RS) : Nat := match cnt most (rest s) with
  | .ok (n, _) => n
  | .error _ => 0
def sT (most : Int) (s : K.RS) : K.RS := match cnt most (rest s) with
  | .ok (_, z) => s.go z
  | .error e => s.fail e
theorem nT_head {mo : Int} {s : K.RS} (hs : s.fault = 0) : nT (min mo 16777216) s = hdN mo s ∧ sT (min mo 16777216) s = takeR (headR mo) s := by
  have e2 : takeR (headR mo) s = headR mo s := if_pos hs
  unfold nT sT hdN okR
  rw [e2]
  unfold headR headV
  cases hc : cnt (min mo 16777216) (rest s) with
  | error e => simp
  | ok r =>
    obtain ⟨n, z⟩ := r
    have : (s.go z).fault = 0 := hs
    simp [this]
theorem ent_listB2 (args : Array Value) (w : World) : (callFunc 43 args).run Try.prog w = .ok (.enter 43 args) w :=
  callFunc_enter Try.func43 rfl rfl args w
set_option maxRecDepth 10000 in
theorem takeListB (r m mb fb : Nat) (mo most : Int) (hmost : most ≤ 16777216) (s : K.RS) (hs : s.fault = 0) (w : World) (h : Rr w r s) (hmm : w.cell? ⟨m, 0, none⟩ = some (.int .i64 mo)) (hmr : m ≠ r) (hmb : w.heap[mb]? = some (numB most)) (hfb : w.heap[fb]? = some (.cells (bF m) 33 (0, 0))) :
    Calls Try.prog 43 #[.pointer (some ⟨r, 0, none⟩), .pointer (some ⟨mb, 0, none⟩), .pointer (some ⟨fb, 0, none⟩)] w (TaB w r mo (nT most s) (sT most s)) := by
  have m0 := (numB_cell hmb).1
  have HH := hide h
  have HMM := hide hmm
  have HF := hide hfb
  have HZ := hide hs
  have htp := h.top
  have htk := h.tak
  have hbyt := h.byt
  have HIF : Hid ((Try.prog.info? 33).map (·.size) = some (bF m).size) := by show _ = _; kernel_rfl
  clear h hmm hmb hfb hs
  cases hcn : cnt most (rest s) with
  | error e =>
    have HCN := hide hcn
    have en1 : nT most s = 0 := by unfold nT; rw [hcn]
    have en2 : sT most s = s.fail e := by unfold sT; rw [hcn]
    rw [en1, en2]
    clear hcn en1 en2
    go_enter Try.func43, Try.ntmps43
    go_wp2_with fail
    refine (peekCount_any r most s _ HH.out).mono ?_
    rintro en w1 ⟨hout, hb⟩
    rw [HCN.out] at hout
    have hen : en = gaveUp e := hout
    subst hen
    exact ⟨rfl, Keep.ofBelow hb (Nat.le_refl _), .inr ⟨fail_ne HZ.out (cnt_err HCN.out), e, s, rfl, HH.out.below hb, rfl⟩⟩
  | ok q =>
    obtain ⟨n, z⟩ := q
    have HCN := hide hcn
    have en1 : nT most s = n := by unfold nT; rw [hcn]
    have en2 : sT most s = s.go z := by unfold sT; rw [hcn]
    rw [en1, en2]
    obtain ⟨hpk, hnm, hzn⟩ := cnt_ok hcn
    obtain ⟨k1, k2, k3, _, k5⟩ := K.pk_ok hbyt hpk
    rw [rest_len] at k3 hzn
    clear hcn hpk en1 en2
    go_enter Try.func43, Try.ntmps43
    go_wp2_with fail
    refine (peekCount_any r most s _ HH.out).mono ?_
    rintro en w1 ⟨hout, hb⟩
    rw [HCN.out] at hout
    have hen : en = .returned (.tuple #[.int .i64 (n : Nat), .int .i64 (z : Nat)]) := hout
    subst hen
    have HB := hide hb
    have HR1 := hide (HH.out.below hb)
    obtain ⟨_, _, _, c1, _, hf⟩ := HR1.out.see
    have hf1 := hf 1
    clear hout hb hf hbyt m0
    have hset := HR1.out.set1 (s.taken + z) (by omega)
    have hks := keep_cellB w1 r 1 (.int .i64 ((s.taken + z : Nat) : Int))
    have HSET := hide hset
    have HKS := hide hks
    obtain ⟨_, hrb⟩ := Rr.blkR HR1.out
    have HF2 := hide (hks.blk (blkBX HF.out HB.out) (fun e => neTB (blkBX HF.out HB.out) hrb (by decide) e))
    have HM2 : Hid ((w1.setCell ⟨r, 1, none⟩ (.int .i64 ((s.taken + z : Nat) : Int))).cell? ⟨m, 0, none⟩ = some (.int .i64 mo)) := hks.cell (by rw [HB.out.cell (p := ⟨m, 0, none⟩) (block_lt_of_cell HMM.out)]; exact HMM.out) hmr
    clear hset hks hrb
    have hzz : s.taken + z ≤ 16777216 := by omega
    go_upto_region 3 with fail
    change Code.wp _ _ _ _ (w1.setCell ⟨r, 1, none⟩ (.int .i64 ((s.taken + z : Nat) : Int)))
    generalize w1.setCell ⟨r, 1, none⟩ (.int .i64 ((s.taken + z : Nat) : Int)) = w2 at *
    have HK2 := hide ((Keep.ofBelow (S := fun k => k = r) HB.out (Nat.le_refl _)).more HKS.out)
    go_wp2_with (refine wpList_load_row rfl 33 _ rfl fb rfl 33 (bF m) (0, 0) _ HF2.out Try.underlying33 rfl HIF.out ?_)
    go_at_call 45
    refine (takeAllB r m mo n (by omega) (s.go z) HZ.out w2 HSET.out HM2.out hmr).mono ?_
    rintro en w3 ⟨hk3, hcase⟩
    have HK3 := hide (HK2.out.more hk3)
    have HSZ : Hid (w.heap.size ≤ w2.heap.size) := HK2.out.size
    clear hk3
    rcases hcase with ⟨hz0, v, vs, rfl, hr, hv, hbl⟩ | ⟨hz0, e, s1, rfl, hr, hfl⟩
    · have HR := hide hr
      have HVV := hide hv
      have HZ0 := hide hz0
      have HBL := hide hbl
      clear hr hv hz0 hbl
      go_wp2
      go_ret
      exact ⟨HK3.out, .inl ⟨HZ0.out, v, vs, rfl, HR.out, ownsRow_base HVV.out HSZ.out, HBL.out.base HSZ.out⟩⟩
    · exact ⟨rfl, HK3.out, .inr ⟨hz0, e, s1, rfl, hr, hfl⟩⟩
/-- behind the catch -/
structure TtB (w : World) (r : Nat) (mo : Int) (n : Nat) (s : K.RS) (en : Ending) (w' : World) : Prop where
  keep : Keep (fun k => k = r) w w'
  rr : Rr w' r (allR (rowR mo) n s)
  ex : ∃ v vs, en = .returned v ∧ w'.ownsRow w.heap.size 22 1 v (if (allR (rowR mo) n s).fault = 0 then blsB mo s n else []).length vs ∧ Bl w.heap.size w' vs (if (allR (rowR mo) n s).fault = 0 then blsB mo s n else [])
set_option maxRecDepth 10000 in
theorem triedLB (r : Nat) (mo : Int) (fn1 fn2 : FuncId) (cap1 cap2 : Array Value) (n : Nat) (s : K.RS) (w : World) (hr : r < w.heap.size)
    (ht : ∀ w1, Below w.heap.size w w1 → Calls Try.prog fn2 (#[.pointer (some ⟨r, 0, none⟩)] ++ cap2) w1 (TaB w1 r mo n s))
    (he : ∀ args w, (callFunc fn2 args).run Try.prog w = .ok (.enter fn2 args) w) :
    Calls Try.prog 58 #[.agg #[.func (.func fn1) #[] cap1, .func (.func fn2) #[] cap2], .pointer (some ⟨r, 0, none⟩)] w (TtB w r mo n s) := by
  have hmf : ∀ (fn : Fn) (first cap : Array Value) (w : World), (Instr.makeFunc fn first cap).run Try.prog w = .ok (.func fn first cap) w := fun _ _ _ _ => rfl
  have HT := hide ht
  clear ht
  go_enter_defers Try.func58, Try.ntmps58
  go_wp2_with fail
  have hba := ((Below.refl w.heap.size w).alloc (Nat.le_refl _) (.cells #[.func (.func fn1) #[] cap1, .func (.func fn2) #[] cap2] 28)).alloc (by simp) (.cells #[.pointer (some ⟨r, 0, none⟩)] 35)
  have hrb := heap_alloc_new (w.alloc (.cells #[.func (.func fn1) #[] cap1, .func (.func fn2) #[] cap2] 28)) (.cells #[.pointer (some ⟨r, 0, none⟩)] 35)
  generalize hwa : (w.alloc (.cells #[.func (.func fn1) #[] cap1, .func (.func fn2) #[] cap2] 28)).alloc (.cells #[.pointer (some ⟨r, 0, none⟩)] 35) = wa at *
  have hrb2 : wa.heap[w.heap.size + 1]? = some (.cells #[.pointer (some ⟨r, 0, none⟩)] 35 (0, 0)) := by simpa using hrb
  have HKA := hide (Keep.ofBelow (S := fun k => k = r) hba (Nat.le_refl _))
  have HBS : Hid (w.heap.size ≤ wa.heap.size) := hba.size
  refine (HT.out wa hba).mono ?_
  clear hba hrb hwa
  rintro en w1 ⟨hk, hcase⟩
  have hrb1 := hk.blk hrb2 (by show ¬ _ = _; omega)
  have hc1 : w1.cell? ⟨w.heap.size + 1, 0, none⟩ = some (.pointer (some ⟨r, 0, none⟩)) := by rw [cell_of_row _ _ _ _ _ _ hrb1]; rfl
  have HK := hide (HKA.out.more hk)
  clear hk hrb1 hrb2
  rcases hcase with ⟨hz0, v, vs, rfl, hr1, hv, hbl⟩ | ⟨hz0, e, s1, rfl, hr1, hfl⟩
  · have HR := hide hr1
    have HVV := hide hv
    have HZ0 := hide hz0
    have HBL := hide hbl
    clear hr1 hv hz0 hbl
    go_wp2
    refine leaves_cons (f := 91) (args := #[.pointer (some ⟨w.heap.size + 1, 0, none⟩)]) (by simp) (by simp [go_sem]) ?_
    refine (idleLb r (w.heap.size + 1) _ hc1).mono ?_
    rintro e u' w'' ⟨rfl, rfl, rfl⟩
    refine ⟨_, results_tmp rfl _ _ _, HK.out.more (Keep.drew _ _), HR.out.below (Below.refl _ _).drew, v, vs, rfl, ?_, ?_⟩
    · rw [if_pos HZ0.out, blsB_len]
      exact ownsRow_base (ownsRow_keepB HVV.out (Below.refl _ _).drew) HBS.out
    · rw [if_pos HZ0.out]
      exact (HBL.out.keep (Keep.ofBelow (S := fun _ => False) (Below.refl _ _).drew (Nat.le_refl _)) fun _ _ _ _ _ h => h).base HBS.out
  · refine leaves_cons (f := 91) (args := #[.pointer (some ⟨w.heap.size + 1, 0, none⟩)]) (by simp) (by simp [go_sem]) ?_
    refine (catchLb r (w.heap.size + 1) s1 e [] _ hr1 hc1).mono ?_
    rintro e2 u' w'' ⟨rfl, rfl, hr2, hk2⟩
    rw [hfl] at hr2
    refine ⟨_, results_tmp rfl _ _ _, HK.out.more hk2, hr2, _, [], rfl, ?_, ?_⟩
    · rw [if_neg hz0]
      exact World.ownsRow_nil _ _ _ _
    · rw [if_neg hz0]
      exact Bl.nil _ _
theorem TtB.base {w w1 w' : World} {r n : Nat} {mo : Int} {s : K.RS} {en : Ending} (h : TtB w1 r mo n s en w') (b : Below w.heap.size w w1) : TtB w r mo n s en w' := by
  obtain ⟨v, vs, h6, h7, h8⟩ := h.ex
  exact ⟨(Keep.ofBelow b (Nat.le_refl _)).more h.keep, h.rr, v, vs, h6, ownsRow_base h7 b.size, h8.base b.size⟩
set_option maxRecDepth 10000 in
theorem TakeLB (r : Nat) (mo : Int) (fn1 fn2 : FuncId) (cap1 cap2 : Array Value) (n : Nat) (s0 s : K.RS) (hz : s0.fault = 0) (w : World) (h : Rr w r s0)
    (ht : ∀ w1, Below w.heap.size w w1 → Calls Try.prog fn2 (#[.pointer (some ⟨r, 0, none⟩)] ++ cap2) w1 (TaB w1 r mo n s))
    (he : ∀ args w, (callFunc fn2 args).run Try.prog w = .ok (.enter fn2 args) w) :
    Calls Try.prog 14 #[.agg #[.func (.func fn1) #[] cap1, .func (.func fn2) #[] cap2], .pointer (some ⟨r, 0, none⟩)] w (TtB w r mo n s) := by
  have hba := (Below.refl w.heap.size w).alloc (Nat.le_refl _) (.cells #[.func (.func fn1) #[] cap1, .func (.func fn2) #[] cap2] 28)
  have hra := h.below hba
  have HT := hide ht
  have HB := hide hba
  have hr := h.lt
  obtain ⟨a, c, _, _, c2, _⟩ := hra.see
  clear ht h hra hba
  have c2' : (w.alloc (.cells #[.func (.func fn1) #[] cap1, .func (.func fn2) #[] cap2] 28)).cell? ⟨r, 2, none⟩ = some (.int .i64 0) := by rw [c2, hz]; rfl
  have hcf := heap_alloc_new w (.cells #[.func (.func fn1) #[] cap1, .func (.func fn2) #[] cap2] 28)
  clear hz c2
  go_enter Try.func14, Try.ntmps14
  go_wp2_with fail
  refine (wholeLb fn1 fn2 cap1 cap2 _).mono ?_
  rintro e w1 ⟨rfl, hb1⟩
  have hblk := (Keep.ofBelow (S := fun _ => False) hb1 (Nat.le_refl _)).blk hcf (fun h => h)
  have d0 : w1.cell? ⟨w.heap.size, 0, none⟩ = some (.func (.func fn1) #[] cap1) := by rw [cell_of_row _ _ _ _ _ _ hblk]; rfl
  have d1 : w1.cell? ⟨w.heap.size, 1, none⟩ = some (.func (.func fn2) #[] cap2) := by rw [cell_of_row _ _ _ _ _ _ hblk]; rfl
  have HB1 := hide (HB.out.trans (hb1.mono HB.out.size))
  clear hb1 hblk c2' hcf
  go_wp2_with fail
  refine (triedLB r mo fn1 fn2 cap1 cap2 n s w1 (Nat.lt_of_lt_of_le hr HB1.out.size) (fun w2 hb2 => HT.out w2 (further HB1.out hb2)) he).mono ?_
  rintro e w2 h2
  have H2 := hide (h2.base HB1.out)
  obtain ⟨v, vs, rfl, k7, k8⟩ := h2.ex
  obtain ⟨_, _, _, _, e2, _⟩ := h2.rr.see
  clear k7 k8 h2
  by_cases hz' : (allR (rowR mo) n s).fault = 0
  · have e2' : w2.cell? ⟨r, 2, none⟩ = some (.int .i64 0) := by rw [e2, hz']; rfl
    clear e2 hz'
    go_wp2
    go_ret
    exact H2.out
  · have hzz : ((((allR (rowR mo) n s).fault : Nat) : Int) == 0) = false := by simpa using hz'
    have HZ' := hide hz'
    clear hz'
    go_wp2
    go_ret
    refine ⟨H2.out.keep, H2.out.rr, _, [], rfl, ?_, ?_⟩
    · rw [if_neg HZ'.out]
      exact World.ownsRow_nil _ _ _ _
    · rw [if_neg HZ'.out]
      exact Bl.nil _ _
set_option maxRecDepth 10000 in
theorem TakeLB0 (r : Nat) (fn1 fn2 : FuncId) (cap1 cap2 : Array Value) (s : K.RS) (hz : s.fault ≠ 0) (w : World) (h : Rr w r s) :
    Calls Try.prog 14 #[.agg #[.func (.func fn1) #[] cap1, .func (.func fn2) #[] cap2], .pointer (some ⟨r, 0, none⟩)] w fun en w' => en = .returned (.slice none 0 0) ∧ Below w.heap.size w w' := by
  have hba := (Below.refl w.heap.size w).alloc (Nat.le_refl _) (.cells #[.func (.func fn1) #[] cap1, .func (.func fn2) #[] cap2] 28)
  have hra := h.below hba
  obtain ⟨a, c, _, _, c2, _⟩ := hra.see
  have HB := hide hba
  have hzz : (((s.fault : Nat) : Int) == 0) = false := by simpa using hz
  clear h hra hba hz
  go_enter Try.func14, Try.ntmps14
  go_wp2
  go_ret
  exact ⟨rfl, HB.out⟩
/-- Lists' form of blobs, in memory -/
def bL (mb fb : Nat) : Array Value := #[.func (.func 38) #[] #[.pointer (some ⟨mb, 0, none⟩), .pointer (some ⟨fb, 0, none⟩)], .func (.func 43) #[] #[.pointer (some ⟨mb, 0, none⟩), .pointer (some ⟨fb, 0, none⟩)]]
theorem takeAnyB (r m mb fb : Nat) (mo mst : Int) (s : K.RS) (w : World) (h : Rr w r s) (hmm : w.cell? ⟨m, 0, none⟩ = some (.int .i64 mo)) (hmr : m ≠ r) (hmb : w.heap[mb]? = some (numB (min mst 16777216))) (hfb : w.heap[fb]? = some (.cells (bF m) 33 (0, 0))) :
    Calls Try.prog 14 #[.agg (bL mb fb), .pointer (some ⟨r, 0, none⟩)] w (TtB w r mo (hdN mst s) (takeR (headR mst) s)) := by
  by_cases hz : s.fault = 0
  · obtain ⟨e1, e2⟩ := nT_head (mo := mst) hz
    rw [← e1, ← e2]
    exact TakeLB r mo _ _ _ _ (nT (min mst 16777216) s) s (sT (min mst 16777216) s) hz w h (fun w1 hb => takeListB r m mb fb mo _ (by omega) s hz w1 (h.below hb) (by rw [hb.cell (p := ⟨m, 0, none⟩) (block_lt_of_cell hmm)]; exact hmm) hmr (blkBX hmb hb) (blkBX hfb hb)) ent_listB2
  · have e2 : takeR (headR mst) s = s := if_neg hz
    have e1 : hdN mst s = 0 := by unfold hdN okR; rw [e2, if_neg hz]
    rw [e1, e2]
    refine (TakeLB0 r _ _ _ _ s hz w h).mono fun en w' ⟨e, hb⟩ => ⟨Keep.ofBelow hb (Nat.le_refl _), h.below hb, _, [], e, ?_, ?_⟩
    · rw [if_neg (show (allR (rowR mo) 0 s).fault ≠ 0 from hz)]
      exact World.ownsRow_nil _ _ _ _
    · rw [if_neg (show (allR (rowR mo) 0 s).fault ≠ 0 from hz)]
      exact Bl.nil _ _
end Wm
end Go.Proofs.Yteaokgolnhdloaa
