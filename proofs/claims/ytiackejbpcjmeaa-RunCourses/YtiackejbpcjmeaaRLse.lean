/- Package run: Lease, Node, Result, Status. -/
import Derived.Test.YtiackejbpcjmeaaRSet
import Derived.BigQuiet
import Derived.OwnWalk
namespace Go.Proofs.Ytiackejbpcjmeaa
namespace Rn
open Go.RowKit Gr

theorem rdz_one (w : World) (v : Int) : RdZ (w.alloc (.cells #[.int .i64 v] 3)).heap.size (w.alloc (.cells #[.int .i64 v] 3)) (some ⟨w.heap.size, 0, none⟩, 1, 1) [v] := by
  refine ⟨rfl, (show (1 : Nat) ≤ 17592186044416 by decide), .inr ⟨w.heap.size, 0, rfl, by simp, fun j x hj => ?_⟩⟩
  have hj0 : j = 0 := by
    have := (List.getElem?_eq_some_iff.1 hj).1
    simpa using this
  subst hj0
  obtain rfl : v = x := by simpa using hj
  exact cell_one w _ _
theorem modify_set {ps : List Pt} {k : Nat} {p : Pt} (h : ps[k]? = some p) (f : Pt → Pt) : ps.modify k f = ps.set k (f p) := by
  have hl := (List.getElem?_eq_some_iff.1 h).1
  refine List.ext_getElem? fun i => ?_
  rw [List.getElem?_modify, List.getElem?_set]
  by_cases c : k = i
  · subst c; rw [h]; simp [hl]
  · simp [c]
/-- a whole node is another one: what one store does -/
theorem RunAt.put' {T : Nat → Prop} {w : World} {P G : Nat} {nm : ByteArray} {dl : Int} {s : Option Addr × Nat × Nat} {xs : List No} {R : Rs} (h : RunAt T w P G nm dl s xs R) (t : Nat) (p p' : Pt) (m m' : Option Addr × Nat × Nat) (hp : R.ps[t]? = some p) (hm : PtAt T w G t p m) (j : Nat) (v : Value) (hj : j < 5) (hrow : ptRow p' m' = (ptRow p m).set j v) (hrd : Rd w m'.1 m'.2.1 p'.rs) (hof : Off T m') (hcap : m'.1 = none → m'.2.2 = 0) :
    RunAt T (w.setCell ⟨G, t * 5 + j, none⟩ v) P G nm dl s xs ⟨R.stt, R.ps.set t p'⟩ := by
  obtain ⟨cs, hg⟩ := h.prt
  exact h.put t p p' m m' hp hm j v hj hrow hrd hof hcap (by rw [hg]; exact hm.size hg)

set_option maxRecDepth 100000 in
set_option maxHeartbeats 2000000 in
theorem lease_any {T : Nat → Prop} {w : World} {P G : Nat} {nm : ByteArray} {dl : Int} {s : Option Addr × Nat × Nat} {xs : List No} {R : Rs} (h : RunAt T w P G nm dl s xs R) (i : Int) (htr : ∀ p ∈ R.ps, -1000 ≤ p.tr ∧ p.tr ≤ 1000) :
    Calls Try.prog 19 #[.pointer (some ⟨P, 0, none⟩), .int .i64 i] w fun e w' => e = .returned (.tuple #[.int .i64 (leaseR R i).1.1, .int .i64 (leaseR R i).1.2]) ∧ RunAt T w' P G nm dl s xs (leaseR R i).2 ∧ Keep (fun k => k = G) w w' := by
  have k1 := Keep.alloc (fun _ => False) w (.cells #[.int .i64 2] 3)
  have RF := hide (refuses_any (h.new k1) i (some ⟨w.heap.size, 0, none⟩, 1, 1) [2] (rdz_one w 2))
  have HR1 := hide (h.new k1)
  have K1 := hide (k1.mono (T := fun k => k = G) fun _ f => f.elim)
  by_cases hc : refI R i [2] = 0
  · obtain ⟨hi, hs⟩ := refI_zero hc
    obtain ⟨p, hp, e1, e2, hii⟩ := at_of hi
    have hst : p.st = 2 := by rw [e1] at hs; simpa using hs
    have HLR : Hid (leaseR R i = ((p.tr + 1, 0), ⟨R.stt, R.ps.set i.toNat ⟨3, p.tr + 1, p.rs⟩⟩)) := by
      show _ = _
      unfold leaseR
      rw [if_neg (by simp [hc]), e2, modify_set hp]
    rw [hc] at RF
    have hb := htr p (List.mem_of_getElem? hp)
    have hlt : i.toNat < xs.length := by rw [← h.len]; exact (List.getElem?_eq_some_iff.1 hp).1
    generalize leaseR R i = LR at *
    obtain ⟨k, rfl⟩ : ∃ k : Nat, i = (k : Int) := ⟨i.toNat, hii.symm⟩
    simp only [Int.toNat_natCast] at *
    clear hc hi hs e1 e2 hii h k1 htr
    have HP := hide hp
    have HT := hide hst
    clear hp hst
    go_enter Try.func19, Try.ntmps19
    go_wp2_with fail
    go_at_call 36
    refine RF.out.mono ?_
    rintro e w1 ⟨rfl, hw1⟩
    subst hw1
    clear RF
    generalize w.alloc (.cells #[.int .i64 2] 3) = w1 at *
    obtain ⟨c, _, _, _, _, d4⟩ := HR1.out.cells
    obtain ⟨m, hm⟩ := HR1.out.pts k p HP.out
    have a0 := hm.all.1
    have f0 := (HR1.out.frozen (k * 5)).1
    have HR2 := hide (HR1.out.put' k p ⟨3, p.tr, p.rs⟩ m m HP.out hm 0 (.int .i64 3) (by decide) rfl hm.rd hm.off hm.cap)
    have K2 := hide (K1.out.more (keep_cell w1 G (k * 5) (.int .i64 3)))
    clear hm
    go_upto_region 6 with fail
    generalize w1.setCell ⟨G, k * 5, none⟩ (.int .i64 3) = w2 at *
    clear a0 f0 d4 HR1 K1
    have hp2 : (R.ps.set k ⟨3, p.tr, p.rs⟩)[k]? = some ⟨3, p.tr, p.rs⟩ := by
      rw [List.getElem?_set, if_pos rfl, if_pos (List.getElem?_eq_some_iff.1 HP.out).1]
    obtain ⟨m, hm⟩ := HR2.out.pts k _ hp2
    have a1 := hm.all.2.1
    have f1 := (HR2.out.frozen (k * 5 + 1)).1
    have HR3 := hide (HR2.out.put' k _ ⟨3, p.tr + 1, p.rs⟩ m m hp2 hm 1 (.int .i64 (p.tr + 1)) (by decide) rfl hm.rd hm.off hm.cap)
    have K3 := hide (K2.out.more (keep_cell w2 G (k * 5 + 1) (.int .i64 (p.tr + 1))))
    simp only [List.set_set] at HR3
    clear hm hp2
    simp only at a1
    go_upto_region 7 with fail
    generalize w2.setCell ⟨G, k * 5 + 1, none⟩ (.int .i64 (p.tr + 1)) = w3 at *
    clear a1 f1 HR2 K2
    have hp3 : (R.ps.set k ⟨3, p.tr + 1, p.rs⟩)[k]? = some ⟨3, p.tr + 1, p.rs⟩ := by
      rw [List.getElem?_set, if_pos rfl, if_pos (List.getElem?_eq_some_iff.1 HP.out).1]
    obtain ⟨m, hm⟩ := HR3.out.pts k _ hp3
    have a1 := hm.all.2.1
    simp only at a1
    clear hm hp3
    go_wp2_with fail
    go_ret2
    exact ⟨by rw [HLR.out]; rfl, by rw [HLR.out]; exact HR3.out, K3.out⟩
  · have HLR : Hid (leaseR R i = ((0, refI R i [2]), R)) := by
      show _ = _
      unfold leaseR
      rw [if_pos hc]
    generalize leaseR R i = LR at *
    have hne : (refI R i [2] != 0) = true := by simpa using hc
    generalize refI R i [2] = q at *
    clear hc h k1
    go_enter Try.func19, Try.ntmps19
    go_wp2_with fail
    go_at_call 36
    refine RF.out.mono ?_
    rintro e w1 ⟨rfl, hw1⟩
    subst hw1
    clear RF
    go_wp2_with fail
    go_ret2
    exact ⟨by rw [HLR.out]; rfl, by rw [HLR.out]; exact HR1.out, K1.out⟩

set_option maxRecDepth 100000 in
set_option maxHeartbeats 2000000 in
theorem node_any {T : Nat → Prop} {w : World} {P G : Nat} {nm : ByteArray} {dl : Int} {s : Option Addr × Nat × Nat} {xs : List No} {R : Rs} (h : RunAt T w P G nm dl s xs R) (i : Int) :
    Calls Try.prog 21 #[.pointer (some ⟨P, 0, none⟩), .int .i64 i] w fun e w' => e = .returned (if hasI R.ps.length i then .tuple #[.int .i64 (sAt (sts R.ps) i), .int .i64 (trAt R.ps i), .int .i64 0] else .tuple #[.int .i64 0, .int .i64 0, .int .i64 130]) ∧ Keep (fun _ => False) w w' := by
  have HA := hide (has_any h i)
  cases hh : hasI R.ps.length i with
  | false =>
    rw [hh] at HA
    rw [if_neg (by simp)]
    clear h hh
    go_enter Try.func21, Try.ntmps21
    go_wp2_with fail
    go_at_call 37
    refine HA.out.mono ?_
    rintro e w1 ⟨rfl, rfl⟩
    go_wp2_with fail
    go_ret3
    exact ⟨rfl, Keep.refl _ _⟩
  | true =>
    rw [hh] at HA
    rw [if_pos rfl]
    obtain ⟨p, hp, e1, e2, hii⟩ := at_of hh
    rw [e1, e2]
    have hlt : i.toNat < xs.length := by rw [← h.len]; exact (List.getElem?_eq_some_iff.1 hp).1
    obtain ⟨m, hm⟩ := h.pts _ p hp
    obtain ⟨a0, a1, a2, a3, a4⟩ := hm.all
    obtain ⟨c, _, _, _, _, d4⟩ := h.cells
    obtain ⟨k, rfl⟩ : ∃ k : Nat, i = (k : Int) := ⟨i.toNat, hii.symm⟩
    simp only [Int.toNat_natCast] at *
    have K1 := hide (Keep.alloc (fun _ => False) w (.cells #[.int .i64 p.st, .int .i64 p.tr, .int .i64 0, .int .i64 0, .slice m.1 m.2.1 m.2.2] 76))
    have hb := heap_alloc_new w (.cells #[.int .i64 p.st, .int .i64 p.tr, .int .i64 0, .int .i64 0, .slice m.1 m.2.1 m.2.2] 76)
    have HB := hide hb
    clear h hh hm hp e1 e2 hii hb
    generalize p.st = st at *
    generalize p.tr = tr at *
    go_enter Try.func21, Try.ntmps21
    go_wp2_with fail
    go_at_call 37
    refine HA.out.mono ?_
    rintro e w1 ⟨rfl, hw⟩
    subst hw
    go_upto_region 4 with fail
    generalize hwq : w1.alloc (.cells #[.int .i64 st, .int .i64 tr, .int .i64 0, .int .i64 0, .slice m.1 m.2.1 m.2.2] 76) = w2 at *
    have b0 := cell_blk HB.out 0 (v := .int .i64 st) rfl
    have b1 := cell_blk HB.out 1 (v := .int .i64 tr) rfl
    generalize w1.heap.size = A at *
    clear hwq a0 a1 a2 a3 a4 d4 HB HA
    go_quiet (fail)
    generalize hwd : w2.drewN _ = wd
    have KD := hide (K1.out.more (show Keep (fun _ => False) w2 wd by rw [← hwd]; exact ⟨rfl, rfl, rfl, Nat.le_refl _, fun _ _ _ => rfl⟩))
    go_wp2_with fail
    go_ret3
    exact ⟨rfl, KD.out⟩
theorem status_any {T : Nat → Prop} {w : World} {P G : Nat} {nm : ByteArray} {dl : Int} {s : Option Addr × Nat × Nat} {xs : List No} {R : Rs} (h : RunAt T w P G nm dl s xs R) :
    Calls Try.prog 15 #[.pointer (some ⟨P, 0, none⟩)] w fun e w' => e = .returned (.int .i64 R.stt) ∧ w' = w := by
  obtain ⟨c, _, _, _, d3, _⟩ := h.cells
  clear h
  go_enter Try.func15, Try.ntmps15
  go_wp2_with fail
  go_ret
  exact ⟨rfl, rfl⟩
def rsAt (ps : List Pt) (i : Int) : List Nat := ((ps[i.toNat]?).map Pt.rs).getD []
set_option maxRecDepth 100000 in
theorem result_any {T : Nat → Prop} {w : World} {P G : Nat} {nm : ByteArray} {dl : Int} {s : Option Addr × Nat × Nat} {xs : List No} {R : Rs} (h : RunAt T w P G nm dl s xs R) (i : Int) (hlen : ∀ p ∈ R.ps, p.rs.length ≤ 1000) :
    Calls Try.prog 32 #[.pointer (some ⟨P, 0, none⟩), .int .i64 i] w fun e w' => ∃ v, e = .returned (.tuple #[v, .int .i64 (if hasI R.ps.length i then 0 else 130)]) ∧ w'.ownsRow w.heap.size 5 1 v (if hasI R.ps.length i then rsAt R.ps i else []).length (B8 (if hasI R.ps.length i then rsAt R.ps i else [])) ∧ Below w.heap.size w w' := by
  have HA := hide (has_any h i)
  cases hh : hasI R.ps.length i with
  | false =>
    rw [hh] at HA
    simp only [Bool.false_eq_true, if_false]
    clear h hh
    go_enter Try.func32, Try.ntmps32
    go_wp2_with fail
    go_at_call 37
    refine HA.out.mono ?_
    rintro e w1 ⟨rfl, rfl⟩
    go_wp2_with fail
    go_ret2
    exact ⟨_, rfl, World.ownsRow_nil _ _ _ _, Below.refl _ _⟩
  | true =>
    rw [hh] at HA
    simp only [if_true]
    obtain ⟨p, hp, _, _, hii⟩ := at_of hh
    have e3 : rsAt R.ps i = p.rs := by unfold rsAt; rw [hp]; rfl
    rw [e3]
    have hlt : i.toNat < xs.length := by rw [← h.len]; exact (List.getElem?_eq_some_iff.1 hp).1
    obtain ⟨m, hm⟩ := h.pts _ p hp
    have a4 := hm.all.2.2.2.2
    obtain ⟨c, _, _, _, _, d4⟩ := h.cells
    obtain ⟨k, rfl⟩ : ∃ k : Nat, i = (k : Int) := ⟨i.toNat, hii.symm⟩
    simp only [Int.toNat_natCast] at *
    have hl := hlen p (List.mem_of_getElem? hp)
    have CL := hide (clone_any m.1 m.2.1 m.2.2 p.rs w hm.rd hm.cap (by rw [hm.rd.1]; omega))
    clear h hh hm hp hii e3 hl hlen
    go_enter Try.func32, Try.ntmps32
    go_wp2_with fail
    go_at_call 37
    refine HA.out.mono ?_
    rintro e w1 ⟨rfl, hw⟩
    subst hw
    clear HA
    go_wp2_with fail
    go_at_call 38
    refine CL.out.mono ?_
    rintro e w2 ⟨v, rfl, ho, hb⟩
    have HO := hide ho
    have HB := hide hb
    clear ho hb CL
    go_wp2_with fail
    go_ret2
    exact ⟨_, rfl, HO.out, HB.out⟩
end Rn
end Go.Proofs.Ytiackejbpcjmeaa
