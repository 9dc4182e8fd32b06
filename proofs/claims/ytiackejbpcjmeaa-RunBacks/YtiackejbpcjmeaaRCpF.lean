import Derived.Test.YtiackejbpcjmeaaRCop
import Derived.Test.YtiackejbpcjmeaaRPlc
import Derived.Test.YtiackejbpcjmeaaRRuA
import Derived.Test.YtiackejbpcjmeaaRThr
import Derived.Test.YtiackejbpcjmeaaRFrm
import Derived.Deep.CutRange
/- Package run: Copy. -/
namespace Go.Proofs.Ytiackejbpcjmeaa
namespace Rn
open Go.RowKit Gr

theorem step_buildP {ops : Array Oper} {o : Oper} {a : Act} {w : World} {K : Act → World → Prop} {Q : Exit → Act → World → Prop} {E : Prop}
    (hg : o.guard = none) (t : Tmp) (hop : o.op = Op.buildSlice 72 1 #[(0, .tmp t)]) (x0 x1 x2 x3 x4 : Value) (hx : a.tmps[t]?.getD undef = .agg #[x0, x1, x2, x3, x4])
    (hK : K (a.put o.dst (.slice (some ⟨w.heap.size, 0, none⟩) 1 1)) (w.alloc (.cells #[x0, x1, x2, x3, x4] 76))) :
    if Region.wanted o (yielded ops a.tmps) = true then Oper.wp Try.prog o a w K Q else E := by
  have hw : Region.wanted o (yielded ops a.tmps) = true := by simp [Region.wanted, hg]
  rw [if_pos hw]
  obtain ⟨d, op, ty, pos, af, gd⟩ := o
  simp only at hop hg hK
  subst hop
  unfold Oper.wp
  go_simp
  exact hK
theorem keep_upC {w w' : World} (k : Keep (fun k => w.heap.size ≤ k) w w') : Keep (fun _ => False) w w' := ⟨k.os, k.tape, k.output, k.size, fun j hj _ => k.block j hj fun h => by omega⟩
/-- a run that is made of another, or of what was told -/
def CopE (xs : List No) (R : Rs) (f : Nat → Value) (w : World) (e : Ending) (w' : World) : Prop :=
  ∃ q : Rp, e = .returned (f q.P) ∧ w.heap.size ≤ q.P ∧ w.heap.size ≤ q.G ∧ q.xs.map nx = xs.map nx ∧ q.xs.length = xs.length ∧ RunAt (fun k => k = q.P ∨ k = q.G ∨ k < w.heap.size) w' q.P q.G q.nm q.dl q.s q.xs R ∧ Below w.heap.size w w'
set_option maxRecDepth 100000 in
set_option maxHeartbeats 8000000 in
theorem copy_any {T : Nat → Prop} {w : World} {P0 G0 : Nat} {nm : ByteArray} {dl : Int} {s : Option Addr × Nat × Nat} {xs : List No} {R : Rs} (h : RunAt T w P0 G0 nm dl s xs R) (hc : CapP xs) (hnm : nm.size ≤ 281474976710656) (hnn : ∀ x ∈ xs, x.q.nm.size ≤ 281474976710656) (hz : ∀ x ∈ xs, x.nl.length ≤ 20000 ∧ x.al.length ≤ 20000) (hr : ∀ p ∈ R.ps, (∀ d ∈ p.rs, d < 256) ∧ p.rs.length ≤ 1000) :
    Calls Try.prog 16 #[.pointer (some ⟨P0, 0, none⟩)] w (CopE xs R (fun P => .pointer (some ⟨P, 0, none⟩)) w) := by
  obtain ⟨st, ps⟩ := R
  simp only at hr
  have hn64 : xs.length ≤ 64 := h.val.1
  have HLN : Hid (ps.length = xs.length) := h.len
  have HSL : Hid (s.2.1 = xs.length) := h.pln.1
  have HV := hide h.val
  have HN1 := hide h.n1
  have HR := hide hr
  have HZ := hide hz
  have RA := hide (fun (W : World) (k : Keep (fun _ => False) w W) => h.new k)
  have HG0 : Hid (∃ cs, w.heap[G0]? = some (.cells cs 76 (0, 0))) := h.prt
  obtain ⟨cc, c0, c1, c2, c3, c4⟩ := h.cells
  have c3 : w.cell? ⟨P0, 3, none⟩ = some (.int .i64 st) := c3
  obtain ⟨sa, sn, sc⟩ := s
  simp only at *
  have kd := Keep.drew (fun _ => False) w
  have CP := hide (copyPlan_any nm dl (sa, sn, sc) xs w.drew (((h.new kd).pln).mono (Nat.le_refl _)) hc (by omega) hz hnm hnn)
  clear h hc hnm hnn hz hr
  have hwd : w.drew.heap.size = w.heap.size := rfl
  go_enter Try.func16, Try.ntmps16
  go_upto_region 1 with fail
  go_region_held3 (fun wx => wx.cell? ⟨P0, 0, none⟩ = some (.string nm) ∧ wx.cell? ⟨P0, 1, none⟩ = some (.int .i64 dl) ∧ wx.cell? ⟨P0, 2, none⟩ = some (.slice sa sn sc) ∧ wx.cell? ⟨P0, 3, none⟩ = some (.int .i64 st)) (first | (exact ⟨c0, c1, c2, c3⟩) | (exact ⟨hk4.cell c0 (fun f => f), hk4.cell c1 (fun f => f), hk4.cell c2 (fun f => f), hk4.cell c3 (fun f => f)⟩) | go_keep) ((go_at_call 27; refine CP.out.mono ?_; rintro e w4 ⟨qa, qc, ys, rfl, hyl, hN, hye, hb4⟩; have hk4 : Keep (fun _ => False) w w4 := kd.more (Keep.ofBelow hb4 (Nat.le_refl _))))
  have k5 := Keep.alloc (fun _ => False) w4 (.cells #[.string nm, .int .i64 dl, .slice qa xs.length qc, .int .i64 st, .slice none 0 0] 74)
  have FM0 : Hid (Fm w.heap.size nm dl qa qc xs.length w4.heap.size st none 0 [] ys (w4.alloc (.cells #[.string nm, .int .i64 dl, .slice qa xs.length qc, .int .i64 st, .slice none 0 0] 74))) := ⟨heap_alloc_new _ _, World.ownsRow_nil _ _ _ _, (fun x hx => by cases hx), (show NdX w.heap.size w4 (.slice qa xs.length qc) ys from hN).keep k5 (fun _ _ _ f => f.elim)⟩
  have K5 : Hid (Keep (fun k => w.heap.size ≤ k) w (w4.alloc (.cells #[.string nm, .int .i64 dl, .slice qa xs.length qc, .int .i64 st, .slice none 0 0] 74))) := (hk4.more k5).mono fun _ f => f.elim
  have HPB : Hid (w.heap.size ≤ w4.heap.size) := hk4.size
  have HYL := hide hyl
  have HYE := hide hye
  have c4' := (hk4.more k5).cell c4 (fun f => f)
  clear hN hyl hye hb4 hk4 k5 kd CP c0 c1 c2 c3 c4 hwd
  simp only [Exit.then]
  generalize w4.alloc (.cells #[.string nm, .int .i64 dl, .slice qa xs.length qc, .int .i64 st, .slice none 0 0] 74) = w5 at *
  generalize w4.heap.size = P at *
  generalize hn : xs.length = n at *
  have HN := hide hn
  clear hn
  go_wp2_with fail
  clear c4'
  go_loopw [22] (fun v22 wr => ∃ (va : Option Addr) (vc : Nat) (l : List (Pt × (Option Addr × Nat × Nat))), v22 = .int .i64 (l.length : Nat) ∧ l.length ≤ n ∧ Hid (Fm w.heap.size nm dl qa qc n P st va vc l ys wr ∧ l.map Prod.fst = ps.take l.length ∧ Keep (fun k => w.heap.size ≤ k) w wr)) (fun v22 _ => n - (intOf v22).toNat)
  case atStart => exact ⟨none, 0, [], rfl, Nat.zero_le _, FM0.out, rfl, K5.out⟩
  case round => as_aux_lemma =>
    clear FM0 K5
    obtain ⟨va, vc, l, rfl, hi, HD⟩ := hrel
    have FM : Hid (Fm w.heap.size nm dl qa qc n P st va vc l ys wr) := HD.out.1
    have HTK : Hid (l.map Prod.fst = ps.take l.length) := HD.out.2.1
    have HK : Hid (Keep (fun k => w.heap.size ≤ k) w wr) := HD.out.2.2
    clear HD
    by_cases hlt : l.length < n
    · as_aux_lemma =>
      have hp : ps[l.length]? = some (ps[l.length]'(by have := HLN.out; omega)) := List.getElem?_eq_getElem _
      generalize ps[l.length]'_ = p at hp
      obtain ⟨m, hm⟩ := (RA.out wr (keep_upC HK.out)).pts l.length p hp
      obtain ⟨p0, p1, p2, p3, p4⟩ := hm.all
      have RDM := hide hm.rd
      have HMC := hide hm.cap
      have HPL := hide (HR.out p (List.mem_of_getElem? hp)).2
      have HLT := hide hlt
      have HDF : Hid (∀ k, (Value.slice va l.length vc).ownBlock = some k → k ≠ wr.heap.size) := fun k hk e => by have := (FM.out.own.lt k hk).2; omega
      have HTK2 : Hid (∀ m2 : Option Addr × Nat × Nat, (l ++ [(p, m2)]).map Prod.fst = ps.take (l.length + 1)) := fun m2 => by rw [List.map_append, HTK.out, List.take_add_one, hp]; rfl
      clear hm hp hi hlt HTK
      have kA := Keep.alloc (fun _ => False) wr (.cells #[.int .i64 p.st, .int .i64 p.tr, .int .i64 0, .int .i64 0, .slice m.1 m.2.1 m.2.2] 76)
      have HBA := hide (heap_alloc_new wr (.cells #[.int .i64 p.st, .int .i64 p.tr, .int .i64 0, .int .i64 0, .slice m.1 m.2.1 m.2.2] 76))
      have FA := hide (FM.out.new kA)
      have KA := hide (HK.out.more (kA.mono fun _ f => f.elim))
      have hrA := RDM.out.stay kA (fun _ _ _ f => f)
      have hwA : w.heap.size ≤ wr.heap.size := HK.out.size
      have hzA : (wr.alloc (.cells #[.int .i64 p.st, .int .i64 p.tr, .int .i64 0, .int .i64 0, .slice m.1 m.2.1 m.2.2] 76)).heap.size = wr.heap.size + 1 := by simp
      have HWA : Hid (w.heap.size ≤ wr.heap.size ∧ (wr.alloc (.cells #[.int .i64 p.st, .int .i64 p.tr, .int .i64 0, .int .i64 0, .slice m.1 m.2.1 m.2.2] 76)).heap.size = wr.heap.size + 1) := ⟨hwA, hzA⟩
      have HRA := hide hrA
      clear kA hrA hwA hzA HK FM RDM
      go_upto_region 5 with fail
      generalize wr.alloc (.cells #[.int .i64 p.st, .int .i64 p.tr, .int .i64 0, .int .i64 0, .slice m.1 m.2.1 m.2.2] 76) = wa at *
      generalize wr.heap.size = D at *
      clear p0 p1 p2 p3 p4
      have d0 := cell_blk HBA.out 0 (v := .int .i64 p.st) rfl
      have d1 := cell_blk HBA.out 1 (v := .int .i64 p.tr) rfl
      have d2 := cell_blk HBA.out 2 (v := .int .i64 0) rfl
      have d3 := cell_blk HBA.out 3 (v := .int .i64 0) rfl
      have d4 := cell_blk HBA.out 4 (v := .slice m.1 m.2.1 m.2.2) rfl
      have r4 := cell_blk FA.out.blk 4 (v := .slice va l.length vc) rfl
      have kd := Keep.drew (fun _ => False) wa
      have CS := hide (copyState_any p m wa.drew (HRA.out.stay kd (fun _ _ _ f => f)) HMC.out HPL.out)
      refine RL.wp_region_held_last (S := fun wx => wx.cell? ⟨P, 4, none⟩ = some (.slice va l.length vc) ∧ wx.cell? ⟨D, 0, none⟩ = some (.int .i64 p.st) ∧ wx.cell? ⟨D, 1, none⟩ = some (.int .i64 p.tr) ∧ wx.cell? ⟨D, 2, none⟩ = some (.int .i64 0) ∧ wx.cell? ⟨D, 3, none⟩ = some (.int .i64 0) ∧ wx.cell? ⟨D, 4, none⟩ = some (.slice m.1 m.2.1 m.2.2)) rfl (by kernel_rfl) (by kernel_rfl) ⟨r4, d0, d1, d2, d3, d4⟩ (fun hHeld => ?_)
      change wpAnyH _ _ _ _ _ 14 (Array.replicate 14 false) _ _
      simp only [List.dropLast, List.getLast, List.cons_append, List.nil_append, RL.still]
      refine wpAnyH_take (i := 0) (oi := _) (v := ?_) rfl (by kernel_rfl) (by kernel_rfl) (by kernel_rfl) (fun _ _ _ h => h) (Or.inl ⟨by rfl, ?_⟩) (by assumption) ?_
      rotate_left
      · (intro w hSw; (try dsimp only at hSw); go_simp)
        all_goals with_reducible rfl
      go_simp
      refine wpAnyH_take (i := 1) (oi := _) (v := ?_) rfl (by kernel_rfl) (by kernel_rfl) (by kernel_rfl) (fun _ _ _ h => h) (Or.inl ⟨by rfl, ?_⟩) (by assumption) ?_
      rotate_left
      · (intro w hSw; (try dsimp only at hSw); go_simp)
        all_goals with_reducible rfl
      go_simp
      refine wpAnyH_take (i := 2) (oi := _) (v := ?_) rfl (by kernel_rfl) (by kernel_rfl) (by kernel_rfl) (fun _ _ _ h => h) (Or.inl ⟨by rfl, ?_⟩) (by assumption) ?_
      rotate_left
      · (intro w hSw; (try dsimp only at hSw); go_simp)
        all_goals with_reducible rfl
      go_simp
      refine wpAnyH_take (i := 3) (oi := _) (v := ?_) rfl (by kernel_rfl) (by kernel_rfl) (by kernel_rfl) (fun _ _ _ h => h) (Or.inl ⟨by rfl, ?_⟩) (by assumption) ?_
      rotate_left
      · (intro w hSw; (try dsimp only at hSw); go_simp)
        all_goals with_reducible rfl
      go_simp
      refine wpAnyH_take (i := 4) (oi := _) (v := ?_) rfl (by kernel_rfl) (by kernel_rfl) (by kernel_rfl) (fun _ _ _ h => h) (Or.inl ⟨by rfl, ?_⟩) (by assumption) ?_
      rotate_left
      · (intro w hSw; (try dsimp only at hSw); go_simp)
        all_goals with_reducible rfl
      go_simp
      refine wpAnyH_take (i := 5) (oi := _) (v := ?_) rfl (by kernel_rfl) (by kernel_rfl) (by kernel_rfl) (fun _ _ _ h => h) (Or.inl ⟨by rfl, ?_⟩) (by assumption) ?_
      rotate_left
      · (intro w hSw; (try dsimp only at hSw); go_simp)
        all_goals with_reducible rfl
      go_simp
      refine wpAnyH_take (i := 6) (oi := _) (v := ?_) rfl (by kernel_rfl) (by kernel_rfl) (by kernel_rfl) (fun _ _ _ h => h) (Or.inl ⟨by rfl, ?_⟩) (by assumption) ?_
      rotate_left
      · (intro w hSw; (try dsimp only at hSw); go_simp)
        all_goals with_reducible rfl
      go_simp
      refine wpAnyH_ready (rs := [7]) (by kernel_rfl) (by simp) ?_
      refine AllReadyH.cons (o := _) rfl (fun K hK => ?_) AllReadyH.nil
      rw [if_pos (by rfl)]
      go_simp
      go_at_call 33
      refine CS.out.mono ?_
      rintro e w3 ⟨m2, rfl, ho3, hk3⟩
      have k3 := kd.more hk3
      have kB := Keep.alloc (fun _ => False) w3 (.cells (ptRow p m2).toArray 76)
      have hqB := heap_alloc_new w3 (.cells (ptRow p m2).toArray 76)
      have FB := (FA.out.new k3).new kB
      have ho3' := ownsRow_base (ownsRow_new ho3 kB) (show w.heap.size ≤ wa.drew.heap.size by show w.heap.size ≤ wa.heap.size; have := HWA.out; omega)
      have hsB : w.heap.size ≤ (w3.alloc (.cells (ptRow p m2).toArray 76)).heap.size := by have := HWA.out; have := k3.size; have := kB.size; omega
      obtain ⟨v', w5, hap, ho5, hg5⟩ := append_part (x := (p, m2)) FB.own hsB hqB (by have := HLT.out; omega) 72
      obtain ⟨na, nc, hv'⟩ := ownsRow_shape ho5
      subst hv'
      have k5 := Keep.grown (S := fun k => (Value.slice va l.length vc).ownBlock = some k) hg5 fun k e => e
      obtain ⟨hP5, hF6⟩ := FB.grow k5 (x := (p, m2)) ho3' ho5
      have hs3 : w3.cell? ⟨P, 4, none⟩ = some (.slice va l.length vc) ∧ w3.cell? ⟨D, 0, none⟩ = some (.int .i64 p.st) ∧ w3.cell? ⟨D, 1, none⟩ = some (.int .i64 p.tr) ∧ w3.cell? ⟨D, 2, none⟩ = some (.int .i64 0) ∧ w3.cell? ⟨D, 3, none⟩ = some (.int .i64 0) ∧ w3.cell? ⟨D, 4, none⟩ = some (.slice m.1 m.2.1 m.2.2) := ⟨k3.cell r4 (fun f => f), k3.cell d0 (fun f => f), k3.cell d1 (fun f => f), k3.cell d2 (fun f => f), k3.cell d3 (fun f => f), k3.cell d4 (fun f => f)⟩
      have hs4 := (⟨kB.cell hs3.1 (fun f => f), kB.cell hs3.2.1 (fun f => f), kB.cell hs3.2.2.1 (fun f => f), kB.cell hs3.2.2.2.1 (fun f => f), kB.cell hs3.2.2.2.2.1 (fun f => f), kB.cell hs3.2.2.2.2.2 (fun f => f)⟩ : (w3.alloc (.cells (ptRow p m2).toArray 76)).cell? ⟨P, 4, none⟩ = some (.slice va l.length vc) ∧ (w3.alloc (.cells (ptRow p m2).toArray 76)).cell? ⟨D, 0, none⟩ = some (.int .i64 p.st) ∧ (w3.alloc (.cells (ptRow p m2).toArray 76)).cell? ⟨D, 1, none⟩ = some (.int .i64 p.tr) ∧ (w3.alloc (.cells (ptRow p m2).toArray 76)).cell? ⟨D, 2, none⟩ = some (.int .i64 0) ∧ (w3.alloc (.cells (ptRow p m2).toArray 76)).cell? ⟨D, 3, none⟩ = some (.int .i64 0) ∧ (w3.alloc (.cells (ptRow p m2).toArray 76)).cell? ⟨D, 4, none⟩ = some (.slice m.1 m.2.1 m.2.2))
      have hbD := kB.blk (k3.blk HBA.out (fun f => f)) (fun f => f)
      have hbD5 := k5.blk hbD (fun e => by
        obtain ⟨cur, hg⟩ := part_blk FB.own e
        exact HDF.out _ e rfl)
      have hs5 : w5.cell? ⟨P, 4, none⟩ = some (.slice va l.length vc) ∧ w5.cell? ⟨D, 0, none⟩ = some (.int .i64 p.st) ∧ w5.cell? ⟨D, 1, none⟩ = some (.int .i64 p.tr) ∧ w5.cell? ⟨D, 2, none⟩ = some (.int .i64 0) ∧ w5.cell? ⟨D, 3, none⟩ = some (.int .i64 0) ∧ w5.cell? ⟨D, 4, none⟩ = some (.slice m.1 m.2.1 m.2.2) := ⟨cell_blk hP5 4 rfl, cell_blk hbD5 0 rfl, cell_blk hbD5 1 rfl, cell_blk hbD5 2 rfl, cell_blk hbD5 3 rfl, cell_blk hbD5 4 rfl⟩
      have K6 : Hid (Keep (fun k => w.heap.size ≤ k) w (w5.setCell ⟨P, 4, none⟩ (.slice na (l.length + 1) nc))) := ((((KA.out.more (k3.mono fun _ f => f.elim)).more (kB.mono fun _ f => f.elim)).more (k5.mono fun k hk => (FB.own.lt k hk).1)).more ((keep_cell w5 P 4 _).mono fun k hk => by have := HPB.out; omega))
      have F6 := hide hF6
      have HAP := hide hap
      have HS4 := hide hs4
      have HS5 := hide hs5
      have y4 := cell_blk hP5 4 (v := .slice va l.length vc) rfl
      have f4 := frozen_blk hP5 4
      clear ho3 hk3 k3 kB hqB FB ho3' hsB ho5 hg5 k5 hF6 hap hs4 hs5 hbD hbD5 hP5 kd CS KA FA HBA HRA d0 d1 d2 d3 d4 r4
      go_simp
      refine hK.out _ _ hs3 (fun hHeld => ?_)
      clear hK K hs3
      try simp only [Act.put, List.setIfInBounds_toArray, List.set_cons_zero, List.set_cons_succ]
      refine wpAnyH_take (i := 8) (oi := _) (v := ?_) rfl (by kernel_rfl) (by kernel_rfl) (by kernel_rfl) (fun _ _ _ h => h) (Or.inl ⟨by rfl, ?_⟩) (by assumption) ?_
      rotate_left
      · (intro w hSw; (try dsimp only at hSw); go_simp)
        all_goals with_reducible rfl
      go_simp
      refine wpAnyH_ready (rs := [9]) (by kernel_rfl) (by simp) ?_
      refine AllReadyH.cons (o := _) rfl (fun K hK => ?_) AllReadyH.nil
      refine step_buildP (by rfl) _ (by rfl) _ _ _ _ _ (by rfl) ?_
      refine hK.out _ _ HS4.out (fun hHeld => ?_)
      clear hK K
      go_simp
      refine wpAnyH_ready (rs := [10]) (by kernel_rfl) (by simp) ?_
      refine AllReadyH.cons (o := _) rfl (fun K hK => ?_) AllReadyH.nil
      refine step_append_run (by rfl) _ _ 72 (by rfl) _ _ (by rfl) (by rfl) HAP.out ?_
      refine hK.out _ _ HS5.out (fun hHeld => ?_)
      clear hK K
      go_simp
      refine wpAnyH_take (i := 11) (oi := _) (v := ?_) rfl (by kernel_rfl) (by kernel_rfl) (by kernel_rfl) (fun _ _ _ h => h) (Or.inl ⟨by rfl, ?_⟩) (by assumption) ?_
      rotate_left
      · (intro w hSw; (try dsimp only at hSw); go_simp)
        all_goals with_reducible rfl
      go_simp
      refine wpAnyH_take (i := 12) (oi := _) (v := ?_) rfl (by kernel_rfl) (by kernel_rfl) (by kernel_rfl) (fun _ _ _ h => h) (Or.inl ⟨by rfl, ?_⟩) (by assumption) ?_
      rotate_left
      · (intro w hSw; (try dsimp only at hSw); go_simp)
        all_goals with_reducible rfl
      go_simp
      refine wpAnyH_take (i := 13) (oi := _) (v := ?_) rfl (by kernel_rfl) (by kernel_rfl) (by kernel_rfl) (fun _ _ _ h => h) (Or.inl ⟨by rfl, ?_⟩) (by assumption) ?_
      rotate_left
      · (intro w hSw; (try dsimp only at hSw); go_simp)
        all_goals with_reducible rfl
      go_simp
      refine wpAnyH_done (by kernel_rfl) ?_ _
      simp only [RL.endQ]
      unfold Oper.wp
      go_simp
      have hln : (l ++ [(p, m2)]).length = l.length + 1 := by simp
      have hlt2 := HLT.out
      clear y4 f4 HAP HS4 HS5 hHeld
      go_wp2_with fail
      go_roundw
      · exact ⟨na, nc, l ++ [(p, m2)], by rw [hln]; rfl, by rw [hln]; omega, F6.out, by rw [hln]; exact HTK2.out m2, K6.out⟩
      · show n - ((l.length : Int) + 1).toNat < n - (l.length : Int).toNat
        omega
    · as_aux_lemma =>
      have hll : l.length = n := by omega
      have hmp : l.map Prod.fst = ps := by rw [HTK.out, hll, ← HLN.out, List.take_length]
      have hzl : ∀ y ∈ ys, y.nl.length ≤ 1048576 ∧ y.al.length ≤ 1048576 := fun y hy => by
        obtain ⟨x, hx, e1, e2, _⟩ := mem_er HYE.out hy
        rw [e1, e2]
        have := HZ.out x hx
        omega
      obtain ⟨G, hG, hRU⟩ := FM.out.whole hmp HLN.out HYL.out HN1.out (val_er HYE.out HV.out) hzl HR.out
      have FIN : Hid (CopE xs ⟨st, ps⟩ (fun P => .pointer (some ⟨P, 0, none⟩)) w (.returned (.pointer (some ⟨P, 0, none⟩))) wr) := ⟨⟨P, G, nm, dl, (qa, n, qc), ys⟩, rfl, HPB.out, hG, map_nx HYE.out, by rw [HYL.out, HN.out], hRU, HK.out.below (Nat.le_refl _) fun _ h => h⟩
      clear hmp hzl hRU hG
      go_wp2_with fail
      go_ret
      exact FIN.out
end Rn
end Go.Proofs.Ytiackejbpcjmeaa

/- Package run: From. -/
namespace Go.Proofs.Ytiackejbpcjmeaa
namespace Rn
open Go.RowKit Gr

/-- how nodes stand, told in memory, with what room -/
def RdC (w : World) (s : Option Addr × Nat × Nat) (ps : List Pt) : Prop :=
  s.2.1 = ps.length ∧ (s.2.1 = 0 ∨ ∃ g off, s.1 = some ⟨g, off, none⟩ ∧ ∀ i p, ps[i]? = some p → ∃ m : Option Addr × Nat × Nat, (∀ j u, (ptRow p m)[j]? = some u → w.cell? ⟨g, off + i * 5 + j, none⟩ = some u) ∧ Rd w m.1 m.2.1 p.rs ∧ (m.1 = none → m.2.2 = 0))
theorem TdAt.rdc {B : Nat} {w : World} {v : Value} {ps : List Pt} (h : TdAt B w v ps) (hb : ∀ p ∈ ps, (∀ d ∈ p.rs, d < 256) ∧ p.rs.length ≤ 1000) : ∃ a c, v = .slice a ps.length c ∧ RdC w (a, ps.length, c) ps := by
  obtain ⟨l, h1, h2, h3⟩ := h
  obtain ⟨a, c, rfl⟩ := ownsRow_shape h2
  refine ⟨a, c, rfl, rfl, ?_⟩
  rcases h2.2 with ⟨e, e2⟩ | ⟨g, cap, cur, e, hb', hg, _, _, _, htk⟩
  · exact .inl e2
  · injection e with e1 _ _
    subst e1
    refine .inr ⟨g, 0, rfl, fun i p hp => ?_⟩
    rw [← h1, List.getElem?_map] at hp
    obtain ⟨x, hx, rfl⟩ := Option.map_eq_some_iff.1 hp
    have hxm := List.mem_of_getElem? hx
    have hpm : x.1 ∈ ps := by rw [← h1]; exact List.mem_map_of_mem hxm
    obtain ⟨a', c', e', hr, hcp, _⟩ := ownsRow_rdB (h3 x hxm) (hb _ hpm).1 (by have := (hb _ hpm).2; omega)
    injection e' with e1 e2 e3
    refine ⟨x.2, fun j u hu => ?_, by rw [e1, e2]; exact hr, by rw [e1, e3]; exact hcp⟩
    have hc := h2.cells (g := g) rfl (i * 5 + j) u (flatT_get l i j x u hx hu)
    rw [Addr.add_mid] at hc
    rw [Nat.add_assoc]
    exact hc
theorem RdC.new {w w' : World} {s : Option Addr × Nat × Nat} {ps : List Pt} (h : RdC w s ps) (k : Keep (fun _ => False) w w') : RdC w' s ps := by
  obtain ⟨h1, h2⟩ := h
  refine ⟨h1, ?_⟩
  rcases h2 with h2 | ⟨g, off, e, h2⟩
  · exact .inl h2
  · refine .inr ⟨g, off, e, fun i p hp => ?_⟩
    obtain ⟨m, h3, h4, h5⟩ := h2 i p hp
    exact ⟨m, fun j u hu => k.cell (h3 j u hu) (fun f => f), h4.stay k fun _ _ _ f => f, h5⟩
theorem RdC.at {w : World} {s : Option Addr × Nat × Nat} {ps : List Pt} (h : RdC w s ps) {i : Nat} (hi : i < ps.length) : ∃ (g off : Nat) (p : Pt) (m : Option Addr × Nat × Nat), s.1 = some ⟨g, off, none⟩ ∧ ps[i]? = some p ∧ (w.cell? ⟨g, off + i * 5, none⟩ = some (.int .i64 p.st) ∧ w.cell? ⟨g, off + i * 5 + 1, none⟩ = some (.int .i64 p.tr) ∧ w.cell? ⟨g, off + i * 5 + 2, none⟩ = some (.int .i64 0) ∧ w.cell? ⟨g, off + i * 5 + 3, none⟩ = some (.int .i64 0) ∧ w.cell? ⟨g, off + i * 5 + 4, none⟩ = some (.slice m.1 m.2.1 m.2.2)) ∧ Rd w m.1 m.2.1 p.rs ∧ (m.1 = none → m.2.2 = 0) := by
  obtain ⟨h1, h2⟩ := h
  obtain ⟨g, off, e, h2⟩ := h2.resolve_left (by omega)
  have hp : ps[i]? = some ps[i] := List.getElem?_eq_getElem hi
  obtain ⟨m, h3, h4, h5⟩ := h2 i _ hp
  exact ⟨g, off, _, m, e, hp, ⟨h3 0 _ rfl, h3 1 _ rfl, h3 2 _ rfl, h3 3 _ rfl, h3 4 _ rfl⟩, h4, h5⟩
set_option maxRecDepth 100000 in
set_option maxHeartbeats 8000000 in
theorem from_any (nm : ByteArray) (dl : Int) (s t : Option Addr × Nat × Nat) (xs : List No) (st : Int) (ps : List Pt) (w : World) (hP : RdP w.heap.size w s xs) (hc : CapP xs) (hs : Sz nm xs) (hz : ∀ x ∈ xs, x.nl.length ≤ 20000 ∧ x.al.length ≤ 20000) (hck : (chk nm dl xs).2 = 0) (hT : RdC w t ps) (hm : May (xs.map nx) ⟨st, ps⟩) (hr : ∀ p ∈ ps, (∀ d ∈ p.rs, d < 256) ∧ p.rs.length ≤ 1000) :
    Calls Try.prog 14 #[.agg #[.string nm, .int .i64 dl, .slice s.1 s.2.1 s.2.2], .int .i64 st, .slice t.1 t.2.1 t.2.2] w (CopE xs ⟨st, ps⟩ (fun P => .tuple #[.pointer (some ⟨P, 0, none⟩), .int .i64 0]) w) := by
  obtain ⟨a, n, c⟩ := s
  obtain ⟨ta, tn, tc⟩ := t
  have hn : n = xs.length := hP.1
  have hpl : ps.length = xs.length := by have := hm.1.1; simpa using this
  have htn : tn = n := by have : tn = ps.length := hT.1; omega
  subst htn
  have hok := Gr.chk_ok hck
  have HV := hide hok.2.2.2.1
  have HN1 : Hid (1 ≤ tn) := by show _ ≤ _; rw [hn]; exact hok.2.2.1
  have hn64 : tn ≤ 64 := by rw [hn]; exact HV.out.1
  have HN : Hid (xs.length = tn) := hn.symm
  have HLN : Hid (ps.length = tn) := by show _ = _; omega
  have HR := hide hr
  have HZ := hide hz
  have HMY := hide hm
  have HBU := hide (bu_of hck)
  have hnms := sizes_of hck
  have k1 := Keep.alloc (fun _ => False) w (.cells #[.string nm, .int .i64 dl, .slice a tn c] 24)
  have b1 := heap_alloc_new w (.cells #[.string nm, .int .i64 dl, .slice a tn c] 24)
  have CK := hide (Gr.check_any nm dl (a, tn, c) xs w.heap.size (w.alloc (.cells #[.string nm, .int .i64 dl, .slice a tn c] 24)) (hP.new k1) k1.size hs)
  rw [hck] at CK
  have CP := hide (fun (W : World) (k : Keep (fun _ => False) w W) => copyPlan_any nm dl (a, tn, c) xs W ((hP.new k).mono k.size) hc (by omega) hz hnms.1 hnms.2)
  have HT := hide hT
  have HB1 := hide b1
  have K1 := hide k1
  clear hP hc hs hz hck hT hm hr hok hnms k1 b1 hpl hn
  go_enter Try.func14, Try.ntmps14
  go_upto_region 1 with fail
  generalize w.alloc (.cells #[.string nm, .int .i64 dl, .slice a tn c] 24) = w1 at *
  have q0 := cell_blk HB1.out 0 (v := .string nm) rfl
  have q1 := cell_blk HB1.out 1 (v := .int .i64 dl) rfl
  have q2 := cell_blk HB1.out 2 (v := .slice a tn c) rfl
  go_wp2_with fail
  go_at_call 26
  refine CK.out.mono ?_
  rintro e w3 ⟨rfl, k3⟩
  have K3 := hide (K1.out.more k3)
  have hb3 := k3.blk HB1.out (fun f => f)
  clear q0 q1 q2 k3 CK HB1 K1
  have q0 := cell_blk hb3 0 (v := .string nm) rfl
  have q1 := cell_blk hb3 1 (v := .int .i64 dl) rfl
  have q2 := cell_blk hb3 2 (v := .slice a tn c) rfl
  have C2 := hide (CP.out w3 K3.out)
  rw [HN.out] at C2
  clear hb3 CP
  go_wp2_with fail
  go_at_call 27
  refine C2.out.mono ?_
  rintro e w4 ⟨qa, qc, ys, rfl, hyl, hN, hye, hb4⟩
  have hk4 : Keep (fun _ => False) w w4 := K3.out.more (Keep.ofBelow hb4 (Nat.le_refl _))
  have hN' : NdX w.heap.size w4 (.slice qa tn qc) ys := ⟨ownsRow_base hN.1 K3.out.size, fun y hy => ⟨ownsRow_base (hN.2 y hy).1 K3.out.size, ownsRow_base (hN.2 y hy).2 K3.out.size⟩⟩
  have k5 := Keep.alloc (fun _ => False) w4 (.cells #[.string nm, .int .i64 dl, .slice qa tn qc, .int .i64 st, .slice none 0 0] 74)
  have FM0 : Hid (Fm w.heap.size nm dl qa qc tn w4.heap.size st none 0 [] ys (w4.alloc (.cells #[.string nm, .int .i64 dl, .slice qa tn qc, .int .i64 st, .slice none 0 0] 74))) := ⟨heap_alloc_new _ _, World.ownsRow_nil _ _ _ _, (fun x hx => by cases hx), hN'.keep k5 (fun _ _ _ f => f.elim)⟩
  have K5 : Hid (Keep (fun k => w.heap.size ≤ k) w (w4.alloc (.cells #[.string nm, .int .i64 dl, .slice qa tn qc, .int .i64 st, .slice none 0 0] 74))) := (hk4.more k5).mono fun _ f => f.elim
  have HPB : Hid (w.heap.size ≤ w4.heap.size) := hk4.size
  have HYL : Hid (ys.length = tn) := hyl
  have HYE := hide hye
  clear hN hN' hyl hye hb4 hk4 k5 C2 K3 q0 q1 q2
  go_upto_region 7 with fail
  generalize w4.alloc (.cells #[.string nm, .int .i64 dl, .slice qa tn qc, .int .i64 st, .slice none 0 0] 74) = w5 at *
  generalize w4.heap.size = P at *
  go_wp2_with fail
  go_loopw [34] (fun v34 wr => ∃ (va : Option Addr) (vc : Nat) (l : List (Pt × (Option Addr × Nat × Nat))), v34 = .int .i64 (l.length : Nat) ∧ l.length ≤ tn ∧ Hid (Fm w.heap.size nm dl qa qc tn P st va vc l ys wr ∧ l.map Prod.fst = ps.take l.length ∧ Keep (fun k => w.heap.size ≤ k) w wr)) (fun v34 _ => tn - (intOf v34).toNat)
  case atStart => exact ⟨none, 0, [], rfl, Nat.zero_le _, FM0.out, rfl, K5.out⟩
  case round => as_aux_lemma =>
    clear FM0 K5
    obtain ⟨va, vc, l, rfl, hi, HD⟩ := hrel
    have FM : Hid (Fm w.heap.size nm dl qa qc tn P st va vc l ys wr) := HD.out.1
    have HTK : Hid (l.map Prod.fst = ps.take l.length) := HD.out.2.1
    have HK : Hid (Keep (fun k => w.heap.size ≤ k) w wr) := HD.out.2.2
    clear HD
    by_cases hlt : l.length < tn
    · as_aux_lemma =>
      obtain ⟨g, off, p, m, hta, hp, ⟨p0, p1, p2, p3, p4⟩, hrd, hcp⟩ := (HT.out.new (keep_upC HK.out)).at (i := l.length) (by have := HLN.out; omega)
      have hta : ta = some ⟨g, off, none⟩ := hta
      subst hta
      have RDM := hide hrd
      have HMC := hide hcp
      have HPL := hide (HR.out p (List.mem_of_getElem? hp)).2
      have HLT := hide hlt
      have HTK2 : Hid (∀ m2 : Option Addr × Nat × Nat, (l ++ [(p, m2)]).map Prod.fst = ps.take (l.length + 1)) := fun m2 => by rw [List.map_append, HTK.out, List.take_add_one, hp]; rfl
      clear hrd hcp hp hi hlt HTK
      have kA := Keep.alloc (fun _ => False) wr (.cells #[.int .i64 p.st, .int .i64 p.tr, .int .i64 0, .int .i64 0, .slice m.1 m.2.1 m.2.2] 40)
      have HBA := hide (heap_alloc_new wr (.cells #[.int .i64 p.st, .int .i64 p.tr, .int .i64 0, .int .i64 0, .slice m.1 m.2.1 m.2.2] 40))
      have FA := hide (FM.out.new kA)
      have KA := hide (HK.out.more (kA.mono fun _ f => f.elim))
      have hrA := RDM.out.stay kA (fun _ _ _ f => f)
      have hwA : w.heap.size ≤ wr.heap.size := HK.out.size
      have hzA : (wr.alloc (.cells #[.int .i64 p.st, .int .i64 p.tr, .int .i64 0, .int .i64 0, .slice m.1 m.2.1 m.2.2] 40)).heap.size = wr.heap.size + 1 := by simp
      have HWA : Hid (w.heap.size ≤ wr.heap.size ∧ (wr.alloc (.cells #[.int .i64 p.st, .int .i64 p.tr, .int .i64 0, .int .i64 0, .slice m.1 m.2.1 m.2.2] 40)).heap.size = wr.heap.size + 1) := ⟨hwA, hzA⟩
      have HRA := hide hrA
      clear kA hrA hwA hzA HK FM RDM
      go_upto_region 10 with fail
      generalize wr.alloc (.cells #[.int .i64 p.st, .int .i64 p.tr, .int .i64 0, .int .i64 0, .slice m.1 m.2.1 m.2.2] 40) = wa at *
      generalize wr.heap.size = D at *
      clear p0 p1 p2 p3 p4
      have d0 := cell_blk HBA.out 0 (v := .int .i64 p.st) rfl
      have d1 := cell_blk HBA.out 1 (v := .int .i64 p.tr) rfl
      have d2 := cell_blk HBA.out 2 (v := .int .i64 0) rfl
      have d3 := cell_blk HBA.out 3 (v := .int .i64 0) rfl
      have d4 := cell_blk HBA.out 4 (v := .slice m.1 m.2.1 m.2.2) rfl
      have r4 := cell_blk FA.out.blk 4 (v := .slice va l.length vc) rfl
      have kd := Keep.drew (fun _ => False) wa
      have CS := hide (copyState_any p m wa.drew (HRA.out.stay kd (fun _ _ _ f => f)) HMC.out HPL.out)
      refine RL.wp_region_held_last (S := fun wx => wx.cell? ⟨P, 4, none⟩ = some (.slice va l.length vc) ∧ wx.cell? ⟨D, 0, none⟩ = some (.int .i64 p.st) ∧ wx.cell? ⟨D, 1, none⟩ = some (.int .i64 p.tr) ∧ wx.cell? ⟨D, 2, none⟩ = some (.int .i64 0) ∧ wx.cell? ⟨D, 3, none⟩ = some (.int .i64 0) ∧ wx.cell? ⟨D, 4, none⟩ = some (.slice m.1 m.2.1 m.2.2)) rfl (by kernel_rfl) (by kernel_rfl) ⟨r4, d0, d1, d2, d3, d4⟩ (fun hHeld => ?_)
      change wpAnyH _ _ _ _ _ 13 (Array.replicate 13 false) _ _
      simp only [List.dropLast, List.getLast, List.cons_append, List.nil_append, RL.still]
      refine wpAnyH_take (i := 0) (oi := _) (v := ?_) rfl (by kernel_rfl) (by kernel_rfl) (by kernel_rfl) (fun _ _ _ h => h) (Or.inl ⟨by rfl, ?_⟩) (by assumption) ?_
      rotate_left
      · (intro w hSw; (try dsimp only at hSw); go_simp)
        all_goals with_reducible rfl
      go_simp
      refine wpAnyH_take (i := 1) (oi := _) (v := ?_) rfl (by kernel_rfl) (by kernel_rfl) (by kernel_rfl) (fun _ _ _ h => h) (Or.inl ⟨by rfl, ?_⟩) (by assumption) ?_
      rotate_left
      · (intro w hSw; (try dsimp only at hSw); go_simp)
        all_goals with_reducible rfl
      go_simp
      refine wpAnyH_take (i := 2) (oi := _) (v := ?_) rfl (by kernel_rfl) (by kernel_rfl) (by kernel_rfl) (fun _ _ _ h => h) (Or.inl ⟨by rfl, ?_⟩) (by assumption) ?_
      rotate_left
      · (intro w hSw; (try dsimp only at hSw); go_simp)
        all_goals with_reducible rfl
      go_simp
      refine wpAnyH_take (i := 3) (oi := _) (v := ?_) rfl (by kernel_rfl) (by kernel_rfl) (by kernel_rfl) (fun _ _ _ h => h) (Or.inl ⟨by rfl, ?_⟩) (by assumption) ?_
      rotate_left
      · (intro w hSw; (try dsimp only at hSw); go_simp)
        all_goals with_reducible rfl
      go_simp
      refine wpAnyH_take (i := 4) (oi := _) (v := ?_) rfl (by kernel_rfl) (by kernel_rfl) (by kernel_rfl) (fun _ _ _ h => h) (Or.inl ⟨by rfl, ?_⟩) (by assumption) ?_
      rotate_left
      · (intro w hSw; (try dsimp only at hSw); go_simp)
        all_goals with_reducible rfl
      go_simp
      refine wpAnyH_take (i := 5) (oi := _) (v := ?_) rfl (by kernel_rfl) (by kernel_rfl) (by kernel_rfl) (fun _ _ _ h => h) (Or.inl ⟨by rfl, ?_⟩) (by assumption) ?_
      rotate_left
      · (intro w hSw; (try dsimp only at hSw); go_simp)
        all_goals with_reducible rfl
      go_simp
      refine wpAnyH_ready (rs := [6]) (by kernel_rfl) (by simp) ?_
      refine AllReadyH.cons (o := _) rfl (fun K hK => ?_) AllReadyH.nil
      rw [if_pos (by rfl)]
      go_simp
      go_at_call 33
      refine CS.out.mono ?_
      rintro e w3 ⟨m2, rfl, ho3, hk3⟩
      have k3 := kd.more hk3
      have kB := Keep.alloc (fun _ => False) w3 (.cells (ptRow p m2).toArray 76)
      have hqB := heap_alloc_new w3 (.cells (ptRow p m2).toArray 76)
      have FB := (FA.out.new k3).new kB
      have ho3' := ownsRow_base (ownsRow_new ho3 kB) (show w.heap.size ≤ wa.drew.heap.size by show w.heap.size ≤ wa.heap.size; have := HWA.out; omega)
      have hsB : w.heap.size ≤ (w3.alloc (.cells (ptRow p m2).toArray 76)).heap.size := by have := HWA.out; have := k3.size; have := kB.size; omega
      obtain ⟨v', w5, hap, ho5, hg5⟩ := append_part (x := (p, m2)) FB.own hsB hqB (by have := HLT.out; omega) 72
      obtain ⟨na, nc, hv'⟩ := ownsRow_shape ho5
      subst hv'
      have k5 := Keep.grown (S := fun k => (Value.slice va l.length vc).ownBlock = some k) hg5 fun k e => e
      obtain ⟨hP5, hF6⟩ := FB.grow k5 (x := (p, m2)) ho3' ho5
      have hs3 : w3.cell? ⟨P, 4, none⟩ = some (.slice va l.length vc) ∧ w3.cell? ⟨D, 0, none⟩ = some (.int .i64 p.st) ∧ w3.cell? ⟨D, 1, none⟩ = some (.int .i64 p.tr) ∧ w3.cell? ⟨D, 2, none⟩ = some (.int .i64 0) ∧ w3.cell? ⟨D, 3, none⟩ = some (.int .i64 0) ∧ w3.cell? ⟨D, 4, none⟩ = some (.slice m.1 m.2.1 m.2.2) := ⟨k3.cell r4 (fun f => f), k3.cell d0 (fun f => f), k3.cell d1 (fun f => f), k3.cell d2 (fun f => f), k3.cell d3 (fun f => f), k3.cell d4 (fun f => f)⟩
      have hs4 := (⟨kB.cell hs3.1 (fun f => f), kB.cell hs3.2.1 (fun f => f), kB.cell hs3.2.2.1 (fun f => f), kB.cell hs3.2.2.2.1 (fun f => f), kB.cell hs3.2.2.2.2.1 (fun f => f), kB.cell hs3.2.2.2.2.2 (fun f => f)⟩ : (w3.alloc (.cells (ptRow p m2).toArray 76)).cell? ⟨P, 4, none⟩ = some (.slice va l.length vc) ∧ (w3.alloc (.cells (ptRow p m2).toArray 76)).cell? ⟨D, 0, none⟩ = some (.int .i64 p.st) ∧ (w3.alloc (.cells (ptRow p m2).toArray 76)).cell? ⟨D, 1, none⟩ = some (.int .i64 p.tr) ∧ (w3.alloc (.cells (ptRow p m2).toArray 76)).cell? ⟨D, 2, none⟩ = some (.int .i64 0) ∧ (w3.alloc (.cells (ptRow p m2).toArray 76)).cell? ⟨D, 3, none⟩ = some (.int .i64 0) ∧ (w3.alloc (.cells (ptRow p m2).toArray 76)).cell? ⟨D, 4, none⟩ = some (.slice m.1 m.2.1 m.2.2))
      have hbD := kB.blk (k3.blk HBA.out (fun f => f)) (fun f => f)
      have hbD5 := k5.blk hbD (fun e => by
        obtain ⟨cur, hg⟩ := part_blk FB.own e
        rw [hbD] at hg
        injection hg with hg
        injection hg with _ hg
        exact absurd hg (by decide))
      have hs5 : w5.cell? ⟨P, 4, none⟩ = some (.slice va l.length vc) ∧ w5.cell? ⟨D, 0, none⟩ = some (.int .i64 p.st) ∧ w5.cell? ⟨D, 1, none⟩ = some (.int .i64 p.tr) ∧ w5.cell? ⟨D, 2, none⟩ = some (.int .i64 0) ∧ w5.cell? ⟨D, 3, none⟩ = some (.int .i64 0) ∧ w5.cell? ⟨D, 4, none⟩ = some (.slice m.1 m.2.1 m.2.2) := ⟨cell_blk hP5 4 rfl, cell_blk hbD5 0 rfl, cell_blk hbD5 1 rfl, cell_blk hbD5 2 rfl, cell_blk hbD5 3 rfl, cell_blk hbD5 4 rfl⟩
      have K6 : Hid (Keep (fun k => w.heap.size ≤ k) w (w5.setCell ⟨P, 4, none⟩ (.slice na (l.length + 1) nc))) := ((((KA.out.more (k3.mono fun _ f => f.elim)).more (kB.mono fun _ f => f.elim)).more (k5.mono fun k hk => (FB.own.lt k hk).1)).more ((keep_cell w5 P 4 _).mono fun k hk => by have := HPB.out; omega))
      have F6 := hide hF6
      have HAP := hide hap
      have HS4 := hide hs4
      have HS5 := hide hs5
      have y4 := cell_blk hP5 4 (v := .slice va l.length vc) rfl
      have f4 := frozen_blk hP5 4
      clear ho3 hk3 k3 kB hqB FB ho3' hsB ho5 hg5 k5 hF6 hap hs4 hs5 hbD hbD5 hP5 kd CS KA FA HBA HRA d0 d1 d2 d3 d4 r4
      go_simp
      refine hK.out _ _ hs3 (fun hHeld => ?_)
      clear hK K hs3
      try simp only [Act.put, List.setIfInBounds_toArray, List.set_cons_zero, List.set_cons_succ]
      refine wpAnyH_take (i := 7) (oi := _) (v := ?_) rfl (by kernel_rfl) (by kernel_rfl) (by kernel_rfl) (fun _ _ _ h => h) (Or.inl ⟨by rfl, ?_⟩) (by assumption) ?_
      rotate_left
      · (intro w hSw; (try dsimp only at hSw); go_simp)
        all_goals with_reducible rfl
      go_simp
      refine wpAnyH_ready (rs := [8]) (by kernel_rfl) (by simp) ?_
      refine AllReadyH.cons (o := _) rfl (fun K hK => ?_) AllReadyH.nil
      refine step_buildP (by rfl) _ (by rfl) _ _ _ _ _ (by rfl) ?_
      refine hK.out _ _ HS4.out (fun hHeld => ?_)
      clear hK K
      go_simp
      refine wpAnyH_ready (rs := [9]) (by kernel_rfl) (by simp) ?_
      refine AllReadyH.cons (o := _) rfl (fun K hK => ?_) AllReadyH.nil
      refine step_append_run (by rfl) _ _ 72 (by rfl) _ _ (by rfl) (by rfl) HAP.out ?_
      refine hK.out _ _ HS5.out (fun hHeld => ?_)
      clear hK K
      go_simp
      refine wpAnyH_take (i := 10) (oi := _) (v := ?_) rfl (by kernel_rfl) (by kernel_rfl) (by kernel_rfl) (fun _ _ _ h => h) (Or.inl ⟨by rfl, ?_⟩) (by assumption) ?_
      rotate_left
      · (intro w hSw; (try dsimp only at hSw); go_simp)
        all_goals with_reducible rfl
      go_simp
      refine wpAnyH_take (i := 11) (oi := _) (v := ?_) rfl (by kernel_rfl) (by kernel_rfl) (by kernel_rfl) (fun _ _ _ h => h) (Or.inl ⟨by rfl, ?_⟩) (by assumption) ?_
      rotate_left
      · (intro w hSw; (try dsimp only at hSw); go_simp)
        all_goals with_reducible rfl
      go_simp
      refine wpAnyH_take (i := 12) (oi := _) (v := ?_) rfl (by kernel_rfl) (by kernel_rfl) (by kernel_rfl) (fun _ _ _ h => h) (Or.inl ⟨by rfl, ?_⟩) (by assumption) ?_
      rotate_left
      · (intro w hSw; (try dsimp only at hSw); go_simp)
        all_goals with_reducible rfl
      go_simp
      refine wpAnyH_done (by kernel_rfl) ?_ _
      simp only [RL.endQ]
      unfold Oper.wp
      go_simp
      have hln : (l ++ [(p, m2)]).length = l.length + 1 := by simp
      have hlt2 := HLT.out
      clear y4 f4 HAP HS4 HS5 hHeld
      go_wp2_with fail
      go_roundw
      · exact ⟨na, nc, l ++ [(p, m2)], by rw [hln]; rfl, by rw [hln]; omega, F6.out, by rw [hln]; exact HTK2.out m2, K6.out⟩
      · show tn - ((l.length : Int) + 1).toNat < tn - (l.length : Int).toNat
        omega
    · as_aux_lemma =>
      have hll : l.length = tn := by omega
      have hmp : l.map Prod.fst = ps := by rw [HTK.out, hll, ← HLN.out, List.take_length]
      have hzl : ∀ y ∈ ys, y.nl.length ≤ 1048576 ∧ y.al.length ≤ 1048576 := fun y hy => by
        obtain ⟨x, hx, e1, e2, _⟩ := mem_er HYE.out hy
        rw [e1, e2]
        have := HZ.out x hx
        omega
      obtain ⟨G, hG, hRU⟩ := FM.out.whole hmp HLN.out HYL.out HN1.out (val_er HYE.out HV.out) hzl HR.out
      have hmx := map_nx HYE.out
      have MS := hide (mayStand_any hRU (by rw [hmx]; exact HMY.out) (fun y hy => by
        have : nx y ∈ xs.map nx := by rw [← hmx]; exact List.mem_map_of_mem hy
        obtain ⟨x, hx, e⟩ := List.mem_map.1 this
        have e2 : x.q.bu = y.q.bu := congrArg Nx.bu e
        have := HBU.out x hx
        omega))
      have HRU := hide hRU
      have HG := hide hG
      clear hmp hzl hRU hG hmx
      go_wp2_with fail
      go_at_call 34
      refine MS.out.mono ?_
      rintro e w2 ⟨rfl, k2⟩
      have FIN : Hid (CopE xs ⟨st, ps⟩ (fun P => .tuple #[.pointer (some ⟨P, 0, none⟩), .int .i64 0]) w (.returned (.tuple #[.pointer (some ⟨P, 0, none⟩), .int .i64 0])) w2) := ⟨⟨P, G, nm, dl, (qa, tn, qc), ys⟩, rfl, HPB.out, HG.out, map_nx HYE.out, by rw [HYL.out, HN.out], HRU.out.new k2, (HK.out.below (Nat.le_refl _) fun _ h => h).trans (k2.below HK.out.size fun _ f => f.elim)⟩
      clear k2 MS HRU
      go_wp2_with fail
      go_ret2
      exact FIN.out
end Rn
end Go.Proofs.Ytiackejbpcjmeaa
