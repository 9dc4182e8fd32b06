/- Package queue: Push. -/
import Derived.Test.YtobmnkoohgkiiaaQOps
namespace Go.Proofs.Ytobmnkoohgkiiaa
namespace Qu
open Go.RowKit

section
variable {α : Type} [DecidableEq α] {K : Kd α}
/-- what Push leaves -/
def Pushd (K : Kd α) (S : Nat → Prop) (w : World) (P : Nat) (s : St α) (k : α) (e : Ending) (w' : World) : Prop :=
  e = .returned (.tuple #[.int .i64 ((pushR s k).1 : Nat), .int .i64 ((pushR s k).2 : Nat)]) ∧ QAt K (fun i => S i ∨ w.heap.size ≤ i) w' P (s.pushed k) ∧ Keep S w w'

theorem QIn.put (hK : KdOk K) {S : Nat → Prop} {w w1 w2 W w4 : World} {P m : Nat} {k : α} {v v' : Value} {s : St α} (h : QIn K S w P m v s)
    (h1 : w1 = w.setCell ⟨P, 1, none⟩ (nv (s.last + 1))) (hm : MapK K w2 m (s.last + 1) (updK (numL s.row) k (some (s.last + 1)))) (hn : numL s.row k = none) (k2 : Keep (fun i => i = m) w1 w2)
    (k3 : Keep (fun _ => False) w2 W) (k4 : Keep (fun i => v.ownBlock = some i) W w4) (hrow : RowAt K (fun i => S i ∨ W.heap.size ≤ i) w4 v' (s.row ++ [(s.last + 1, k)])) (hPr : ∀ i, v'.ownBlock = some i → i ≠ P) :
    QIn K (fun i => S i ∨ w.heap.size ≤ i) (w4.setCell ⟨P, 3, none⟩ v') P m v' (s.push k) ∧ Keep S w (w4.setCell ⟨P, 3, none⟩ v') ∧ w4.heap[P]? = some (.cells #[nv s.places, nv (s.last + 1), .map (some m), v] K.tq (0, 0)) := by
  have k1 : Keep (fun i => i = P) w w1 := by rw [h1]; exact keep_cell _ _ _ _
  have b1 : w1.heap[P]? = some (.cells #[nv s.places, nv (s.last + 1), .map (some m), v] K.tq (0, 0)) := by rw [h1, set_blk h.blk 1 _]; rfl
  have b4 := k4.blk (k3.blk (k2.blk b1 (fun e => h.ePm e)) (fun f => f)) (fun e => h.eP hK e)
  refine ⟨⟨?_, ?_, ?_, .inl h.sp, .inl h.sm⟩, ?_, b4⟩
  · rw [set_blk b4 3 v']
    rfl
  · rw [show numL (s.push k).row = updK (numL s.row) k (some (s.last + 1)) from numL_snoc hn]
    have m4 := (hm.keep k3 fun f => f).keep k4 (fun e => h.em e)
    exact m4.keep (keep_cell w4 P 3 v') (Ne.symm h.ePm)
  · exact (hrow.far (keep_cell w4 P 3 v') fun i e1 e2 => hPr i e1 e2).mono fun i e => e.imp (fun x => x) fun h' => Nat.le_trans k1.size (Nat.le_trans k2.size (Nat.le_trans k3.size h'))
  · exact ((((k1.mono fun i e => by subst e; exact h.sp).more (k2.mono fun i e => by subst e; exact h.sm)).more (k3.mono fun _ f => f.elim)).more (k4.mono fun i e => (h.row.own e).1)).more (Keep.setCell _ (show S P from h.sp) _)
end

/-- 'append' as one step of a region that draws -/
theorem step_append_run {ops : Array Oper} {o : Oper} {a : Act} {w : World} {K : Act → World → Prop} {Q : Exit → Act → World → Prop} {E : Prop}
    (hg : o.guard = none) (d x : Operand) (t : TypeId) (hop : o.op = Op.call { callee := Callee.builtin Builtin.append, args := #[d, x], argTypes := #[t, t] })
    (v u : Value) (hd : a.eval d = v) (hx : a.eval x = u) {v' : Value} {w' : World} (hr : (Builtin.append_ #[t, t] o.type #[v, u]).run Try.prog w = .ok v' w') (hK : K (a.put o.dst v') w') :
    if Region.wanted o (yielded ops a.tmps) = true then Oper.wp Try.prog o a w K Q else E := by
  have hw : Region.wanted o (yielded ops a.tmps) = true := by simp [Region.wanted, hg]
  rw [if_pos hw]
  unfold Oper.wp
  simp [execOp, hop, resolve, invoke, builtin, hd, hx, hr, Result.andThen]
  exact hK

theorem two_new (w : World) (a b : Value) (t : TypeId) (j : Nat) (u : Value) (hu : [a, b][j]? = some u) : (w.alloc (.cells #[a, b] t)).drew.cell? ((⟨w.heap.size, 0, none⟩ : Addr).add j) = some u := by
  rw [Addr.add_mid, Nat.zero_add]
  exact cell_blk (w := w.alloc (.cells #[a, b] t)) (heap_alloc_new _ _) j (by simpa using hu)

set_option maxRecDepth 100000 in
set_option maxHeartbeats 4000000 in
theorem pushI {S : Nat → Prop} {P : Nat} {s : St _} (k : _) (w : World) (h : QAt KI S w P s) (hk : KI.ok k) (hlast : s.last < 9007199254740990) :
    Calls Try.prog 24 #[.pointer (some ⟨P, 0, none⟩), KI.enc k] w (Pushd KI S w P s k) := by
  have HQ := hide h
  obtain ⟨hok, hks, m, v, h⟩ := h
  obtain ⟨a, cap, rfl, hc, _⟩ := h.row.shape
  have c0 := h.c0
  have c1 := h.c1
  have c2 := h.c2
  have c3 := h.c3
  have f1 := h.fz 1
  have hlen := Nat.le_trans hok.len hok.pl
  have hpl := hok.pl
  rcases h.look okI hk with ⟨hn, hl⟩ | ⟨n, hn, hl⟩
  · have hl0 := hl 0
    rw [show w.drewN 0 = w from rfl] at hl0
    by_cases hf : s.places ≤ s.row.length
    · have e1 : pushR s k = (0, 82) := by simp [pushR, hn, hf]
      have e2 : s.pushed k = s := by simp [St.pushed, hn, hf]
      have hf' : (s.places : Int) ≤ (s.row.length : Int) := by omega
      unfold Pushd
      rw [e1, e2]
      unfold KI at hl0 ⊢
      clear h hok hks hn hl hk hf e1 e2
      go_enter Try.func24, Try.ntmps24
      go_wp2_with fail
      go_region
      go_wp2
      go_ret2
      exact ⟨rfl, (HQ.out.new (Keep.drew _ _)).mono fun i e => .inl e, Keep.drew _ _⟩
    · have e1 : pushR s k = (s.last + 1, 0) := by simp [pushR, hn, hf]
      have e2 : s.pushed k = s.push k := by simp [St.pushed, hn, hf]
      have hf' : ¬ ((s.places : Int) ≤ (s.row.length : Int)) := by omega
      have hcq : ((s.last + 1 : Nat) : Int) = (s.last : Int) + 1 := by omega
      unfold Pushd
      rw [e1, e2]
      simp only
      rw [hcq]
      obtain ⟨w1, hw1⟩ : ∃ w1, w1 = (w.setCell ⟨P, 1, none⟩ (.int .i64 ((s.last : Int) + 1))).drew := ⟨_, rfl⟩
      have hqd : QIn KI S w.drew P m _ s := ⟨h.blk, h.mp.of_blk rfl, h.row.far (Keep.drew (fun _ => False) w) (fun _ _ f => f), h.sp, h.sm⟩
      have k1 : Keep (fun i => i = P) w.drew w1 := by rw [hw1]; exact keep_cell w.drew P 1 _
      obtain ⟨w2, hst, m2, k2, s2⟩ := ((hqd.mp.keep k1 (Ne.symm h.ePm)).of_blk (w' := w1.drew) rfl).store okI okI.um hk (by omega) (s.last + 1)
      have b1 : w1.heap[P]? = some (.cells #[nv s.places, .int .i64 ((s.last : Int) + 1), .map (some m), .slice a s.row.length cap] KI.tq (0, 0)) := by rw [hw1]; exact (set_blk hqd.blk 1 _).trans rfl
      have b2 := k2.blk (w := w1.drew) b1 (fun e => h.ePm e)
      obtain ⟨W, hW⟩ : ∃ W, W = (w2.alloc (.cells #[.int .i64 ((s.last : Int) + 1), KI.enc k] KI.te)).drew := ⟨_, rfl⟩
      have k3 : Keep (fun _ => False) w2 W := by rw [hW]; exact (Keep.alloc _ _ _).more (Keep.drew _ _)
      have hrW : RowAt KI S W (.slice a s.row.length cap) s.row := ((hqd.row.far (k1) (fun i e1 e2 => h.eP okI (e2 ▸ e1))).far (w' := w2) (T := fun i => i = m) ((Keep.drew _ w1).more k2) (fun i e1 e2 => h.em (e2 ▸ e1))).far k3 (fun _ _ f => f)
      obtain ⟨g, off, cap', w4, hap, r4, k4⟩ := hrW.append okI (by omega) (B := w2.heap.size) (n := s.last + 1) (k := k) (c := 1) (fun j u hu => by rw [hW]; exact two_new w2 _ _ _ j u (by rw [← hcq]; exact hu)) 64
      have hgP : ∀ i, (Value.slice (some ⟨g, off, none⟩) (s.row.length + 1) cap').ownBlock = some i → i ≠ P := fun i e1 e2 => by
        obtain ⟨_, cs, hcs⟩ := r4.own e1
        have := k4.blk (k3.blk b2 fun f => f) (fun e => h.eP okI e)
        rw [e2, this] at hcs
        injection hcs with hcs
        injection hcs with _ hcs
        exact okI.ne hcs.symm
      have FIN := hide (hqd.put okI (by rw [hw1]; show _ = World.setCell _ _ (.int .i64 ((s.last + 1 : Nat) : Int)); rw [hcq]; rfl) m2 hn ((Keep.drew _ w1).more k2) k3 k4 r4 hgP)
      have hsz : w.drew.heap.size = w.heap.size := rfl
      rw [hsz] at FIN
      have c0' := cell_blk b1 0 (v := nv s.places) rfl
      have c1' := cell_blk b1 1 (v := .int .i64 ((s.last : Int) + 1)) rfl
      have c2' := cell_blk b1 2 (v := .map (some m)) rfl
      have x1 := cell_blk b2 1 (v := .int .i64 ((s.last : Int) + 1)) rfl
      have x3 := cell_blk b2 3 (v := .slice a s.row.length cap) rfl
      have y1 : w4.cell? ⟨P, 1, none⟩ = some (.int .i64 ((s.last : Int) + 1)) := by rw [← hcq]; exact cell_blk FIN.out.2.2 1 (v := nv (s.last + 1)) rfl
      have y3 := cell_blk FIN.out.2.2 3 (v := .slice a s.row.length cap) rfl
      have y3f := frozen_blk FIN.out.2.2 3
      have HO := hide (hok.push hn (by omega))
      have HKs : Hid (∀ e ∈ (s.push k).row, KI.ok e.2) := fun e he => by
        rcases List.mem_append.1 he with he | he
        · exact hks e he
        · obtain rfl := List.mem_singleton.1 he; exact hk
      have z1 : W.cell? ⟨P, 1, none⟩ = some (.int .i64 ((s.last : Int) + 1)) := k3.cell x1 fun f => f
      have z3 : W.cell? ⟨P, 3, none⟩ = some (.slice a s.row.length cap) := k3.cell x3 fun f => f
      rw [hW] at hap z1 z3
      have HAP := hide hap
      clear hap
      rw [show nv (s.last + 1) = .int .i64 ((s.last : Int) + 1) by unfold nv; rw [hcq]] at hst
      have HW1 := hide hw1
      unfold KI at hl0 hst HAP z1 z3 ⊢
      clear h hok hks hn hl hk hf e1 e2 m2 k2 k3 k4 hrW hqd k1 b1 b2 hW r4 hgP hsz s2 hcq HQ hw1
      go_enter Try.func24, Try.ntmps24
      go_wp2_with fail
      go_region
      go_wp2_with fail
      rw [← HW1.out]
      go_region
      go_wp2_with fail
      go_region_law (refine step_append_run (by rfl) _ _ 64 (by rfl) _ _ (by rfl) (by rfl) HAP.out ?_)
      all_goals go_wp2
      all_goals go_ret2
      all_goals exact ⟨rfl, ⟨HO.out, HKs.out, m, _, FIN.out.1⟩, (Keep.drew _ _).more FIN.out.2.1⟩
  · have hl0 := hl 0
    rw [show w.drewN 0 = w from rfl] at hl0
    have e1 : pushR s k = (0, 81) := by simp [pushR, hn]
    have e2 : s.pushed k = s := by simp [St.pushed, hn]
    unfold Pushd
    rw [e1, e2]
    unfold KI at hl0 ⊢
    clear h hok hks hn hl hk e1 e2
    go_enter Try.func24, Try.ntmps24
    go_wp2
    go_ret2
    exact ⟨rfl, HQ.out.mono fun i e => .inl e, Keep.refl _ _⟩
set_option maxRecDepth 100000 in
set_option maxHeartbeats 4000000 in
theorem pushS {S : Nat → Prop} {P : Nat} {s : St _} (k : _) (w : World) (h : QAt KS S w P s) (hk : KS.ok k) (hlast : s.last < 9007199254740990) :
    Calls Try.prog 20 #[.pointer (some ⟨P, 0, none⟩), KS.enc k] w (Pushd KS S w P s k) := by
  have HQ := hide h
  obtain ⟨hok, hks, m, v, h⟩ := h
  obtain ⟨a, cap, rfl, hc, _⟩ := h.row.shape
  have c0 := h.c0
  have c1 := h.c1
  have c2 := h.c2
  have c3 := h.c3
  have f1 := h.fz 1
  have hlen := Nat.le_trans hok.len hok.pl
  have hpl := hok.pl
  rcases h.look okS hk with ⟨hn, hl⟩ | ⟨n, hn, hl⟩
  · have hl0 := hl 0
    rw [show w.drewN 0 = w from rfl] at hl0
    by_cases hf : s.places ≤ s.row.length
    · have e1 : pushR s k = (0, 82) := by simp [pushR, hn, hf]
      have e2 : s.pushed k = s := by simp [St.pushed, hn, hf]
      have hf' : (s.places : Int) ≤ (s.row.length : Int) := by omega
      unfold Pushd
      rw [e1, e2]
      unfold KS at hl0 ⊢
      clear h hok hks hn hl hk hf e1 e2
      go_enter Try.func20, Try.ntmps20
      go_wp2_with fail
      go_region
      go_wp2
      go_ret2
      exact ⟨rfl, (HQ.out.new (Keep.drew _ _)).mono fun i e => .inl e, Keep.drew _ _⟩
    · have e1 : pushR s k = (s.last + 1, 0) := by simp [pushR, hn, hf]
      have e2 : s.pushed k = s.push k := by simp [St.pushed, hn, hf]
      have hf' : ¬ ((s.places : Int) ≤ (s.row.length : Int)) := by omega
      have hcq : ((s.last + 1 : Nat) : Int) = (s.last : Int) + 1 := by omega
      unfold Pushd
      rw [e1, e2]
      simp only
      rw [hcq]
      obtain ⟨w1, hw1⟩ : ∃ w1, w1 = (w.setCell ⟨P, 1, none⟩ (.int .i64 ((s.last : Int) + 1))).drew := ⟨_, rfl⟩
      have hqd : QIn KS S w.drew P m _ s := ⟨h.blk, h.mp.of_blk rfl, h.row.far (Keep.drew (fun _ => False) w) (fun _ _ f => f), h.sp, h.sm⟩
      have k1 : Keep (fun i => i = P) w.drew w1 := by rw [hw1]; exact keep_cell w.drew P 1 _
      obtain ⟨w2, hst, m2, k2, s2⟩ := ((hqd.mp.keep k1 (Ne.symm h.ePm)).of_blk (w' := w1.drew) rfl).store okS okS.um hk (by omega) (s.last + 1)
      have b1 : w1.heap[P]? = some (.cells #[nv s.places, .int .i64 ((s.last : Int) + 1), .map (some m), .slice a s.row.length cap] KS.tq (0, 0)) := by rw [hw1]; exact (set_blk hqd.blk 1 _).trans rfl
      have b2 := k2.blk (w := w1.drew) b1 (fun e => h.ePm e)
      obtain ⟨W, hW⟩ : ∃ W, W = (w2.alloc (.cells #[.int .i64 ((s.last : Int) + 1), KS.enc k] KS.te)).drew := ⟨_, rfl⟩
      have k3 : Keep (fun _ => False) w2 W := by rw [hW]; exact (Keep.alloc _ _ _).more (Keep.drew _ _)
      have hrW : RowAt KS S W (.slice a s.row.length cap) s.row := ((hqd.row.far (k1) (fun i e1 e2 => h.eP okS (e2 ▸ e1))).far (w' := w2) (T := fun i => i = m) ((Keep.drew _ w1).more k2) (fun i e1 e2 => h.em (e2 ▸ e1))).far k3 (fun _ _ f => f)
      obtain ⟨g, off, cap', w4, hap, r4, k4⟩ := hrW.append okS (by omega) (B := w2.heap.size) (n := s.last + 1) (k := k) (c := 1) (fun j u hu => by rw [hW]; exact two_new w2 _ _ _ j u (by rw [← hcq]; exact hu)) 68
      have hgP : ∀ i, (Value.slice (some ⟨g, off, none⟩) (s.row.length + 1) cap').ownBlock = some i → i ≠ P := fun i e1 e2 => by
        obtain ⟨_, cs, hcs⟩ := r4.own e1
        have := k4.blk (k3.blk b2 fun f => f) (fun e => h.eP okS e)
        rw [e2, this] at hcs
        injection hcs with hcs
        injection hcs with _ hcs
        exact okS.ne hcs.symm
      have FIN := hide (hqd.put okS (by rw [hw1]; show _ = World.setCell _ _ (.int .i64 ((s.last + 1 : Nat) : Int)); rw [hcq]; rfl) m2 hn ((Keep.drew _ w1).more k2) k3 k4 r4 hgP)
      have hsz : w.drew.heap.size = w.heap.size := rfl
      rw [hsz] at FIN
      have c0' := cell_blk b1 0 (v := nv s.places) rfl
      have c1' := cell_blk b1 1 (v := .int .i64 ((s.last : Int) + 1)) rfl
      have c2' := cell_blk b1 2 (v := .map (some m)) rfl
      have x1 := cell_blk b2 1 (v := .int .i64 ((s.last : Int) + 1)) rfl
      have x3 := cell_blk b2 3 (v := .slice a s.row.length cap) rfl
      have y1 : w4.cell? ⟨P, 1, none⟩ = some (.int .i64 ((s.last : Int) + 1)) := by rw [← hcq]; exact cell_blk FIN.out.2.2 1 (v := nv (s.last + 1)) rfl
      have y3 := cell_blk FIN.out.2.2 3 (v := .slice a s.row.length cap) rfl
      have y3f := frozen_blk FIN.out.2.2 3
      have HO := hide (hok.push hn (by omega))
      have HKs : Hid (∀ e ∈ (s.push k).row, KS.ok e.2) := fun e he => by
        rcases List.mem_append.1 he with he | he
        · exact hks e he
        · obtain rfl := List.mem_singleton.1 he; exact hk
      have z1 : W.cell? ⟨P, 1, none⟩ = some (.int .i64 ((s.last : Int) + 1)) := k3.cell x1 fun f => f
      have z3 : W.cell? ⟨P, 3, none⟩ = some (.slice a s.row.length cap) := k3.cell x3 fun f => f
      rw [hW] at hap z1 z3
      have HAP := hide hap
      clear hap
      rw [show nv (s.last + 1) = .int .i64 ((s.last : Int) + 1) by unfold nv; rw [hcq]] at hst
      have HW1 := hide hw1
      unfold KS at hl0 hst HAP z1 z3 ⊢
      clear h hok hks hn hl hk hf e1 e2 m2 k2 k3 k4 hrW hqd k1 b1 b2 hW r4 hgP hsz s2 hcq HQ hw1
      go_enter Try.func20, Try.ntmps20
      go_wp2_with fail
      go_region
      go_wp2_with fail
      rw [← HW1.out]
      go_region
      go_wp2_with fail
      go_region_law (refine step_append_run (by rfl) _ _ 68 (by rfl) _ _ (by rfl) (by rfl) HAP.out ?_)
      all_goals go_wp2
      all_goals go_ret2
      all_goals exact ⟨rfl, ⟨HO.out, HKs.out, m, _, FIN.out.1⟩, (Keep.drew _ _).more FIN.out.2.1⟩
  · have hl0 := hl 0
    rw [show w.drewN 0 = w from rfl] at hl0
    have e1 : pushR s k = (0, 81) := by simp [pushR, hn]
    have e2 : s.pushed k = s := by simp [St.pushed, hn]
    unfold Pushd
    rw [e1, e2]
    unfold KS at hl0 ⊢
    clear h hok hks hn hl hk e1 e2
    go_enter Try.func20, Try.ntmps20
    go_wp2
    go_ret2
    exact ⟨rfl, HQ.out.mono fun i e => .inl e, Keep.refl _ _⟩

end Qu
end Go.Proofs.Ytobmnkoohgkiiaa
