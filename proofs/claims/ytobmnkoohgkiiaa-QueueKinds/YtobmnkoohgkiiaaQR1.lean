/- Package queue, things of two parts: New, Len, Front, numbers compared, the halving search, Ahead (out of ref_gen.py). -/
import Derived.Test.YtobmnkoohgkiiaaQRk
import Derived.Laws.ResultCell
import Derived.Deep.Cut
namespace Go.Proofs.Ytobmnkoohgkiiaa
namespace Qu
open Go.RowKit Go.Maps

theorem info_ref : (Try.prog.info? 36).map (·.size) = some 2 := by kernel_rfl
theorem res_ref {fn : Func} {p q : Tmp} (h : fn.results = #[.cell p 36, .tmp q]) (tmps : Array Value) (w : World) (g : Nat) (a b : Value) (hp : tmps.getD p undef = .pointer (some ⟨g, 0, none⟩)) (hg : w.heap[g]? = some (.cells #[a, b] 36 (0, 0))) :
    (results fn tmps).run Try.prog w = .ok (.tuple #[.agg #[a, b], tmps.getD q undef]) w := by
  rw [results_cell_tmp h, hp]
  have c0 := cell_blk hg 0 (v := a) rfl
  have c1 := cell_blk hg 1 (v := b) rfl
  simp [asAddr, c0, c1, go_sem, Result.andThen]
set_option maxRecDepth 100000 in
set_option maxHeartbeats 4000000 in
theorem newF (c : Nat) (w : World) (h1 : 1 ≤ c) (h2 : c ≤ 65536) :
    Calls Try.prog 9 #[.int .i64 c] w fun e w' => ∃ P, e = .returned (.tuple #[.pointer (some ⟨P, 0, none⟩), .int .i64 0]) ∧
      QAt KF (fun k => w.heap.size ≤ k) w' P (fresh c) ∧ Keep (fun _ => False) w w' := by
  have e1 : ¬ ((c : Int) < 1) := by omega
  have e2 : ¬ ((65536 : Int) < c) := by omega
  have hmm := @run_makeMap Try.prog
  go_enter Try.func9, Try.ntmps9
  go_wp2
  go_ret2
  exact ⟨_, rfl, fresh_at KF w h2, (Keep.alloc _ _ _).more (Keep.alloc _ _ _)⟩

set_option maxHeartbeats 2000000 in
theorem lenF {S : Nat → Prop} {P m : Nat} {v : Value} {s : St _} (w : World) (h : QIn KF S w P m v s) :
    Calls Try.prog 39 #[.pointer (some ⟨P, 0, none⟩)] w fun e w' => e = .returned (.int .i64 (s.row.length : Nat)) ∧ w' = w := by
  obtain ⟨a, cap, rfl, hc, _⟩ := h.row.shape
  have c3 := h.c3
  go_enter Try.func39, Try.ntmps39
  go_wp2
  go_ret
  exact ⟨rfl, rfl⟩

def put2 (w : World) (g : Nat) (a b : Value) : World := (w.setCell ⟨g, 0, none⟩ a).setCell ⟨g, 1, none⟩ b
theorem put2_keep (w : World) (g : Nat) (a b : Value) : Keep (fun i => i = g) w (put2 w g a b) := (keep_cell w g 0 a).more (keep_cell _ g 1 b)
theorem put2_blk {w : World} {g : Nat} {x0 x1 : Value} {t : TypeId} (h : w.heap[g]? = some (.cells #[x0, x1] t (0, 0))) (a b : Value) : (put2 w g a b).heap[g]? = some (.cells #[a, b] t (0, 0)) := by
  unfold put2
  rw [set_blk (set_blk h 0 a) 1 b]
  rfl
set_option maxHeartbeats 2000000 in
theorem frontF {S : Nat → Prop} {P m : Nat} {v : Value} {s : St _} (w : World) (h : QIn KF S w P m v s) :
    Calls Try.prog 36 #[.pointer (some ⟨P, 0, none⟩)] w fun e w' => e = .returned (.tuple #[frontV KF (.agg #[.int .i64 0, .int .i64 0]) s, .bool (!s.row.isEmpty)]) ∧ Keep (fun _ => False) w w' := by
  obtain ⟨w1, hw1⟩ : ∃ w1, w1 = w.alloc (.cells #[.int .i64 0, .int .i64 0] 36) := ⟨_, rfl⟩
  have k1 : Keep (fun _ => False) w w1 := by rw [hw1]; exact Keep.alloc _ _ _
  have b1 : w1.heap[w.heap.size]? = some (.cells #[.int .i64 0, .int .i64 0] 36 (0, 0)) := by rw [hw1]; exact heap_alloc_new _ _
  have c3 := k1.cell h.c3 fun f => f
  have z0 := cell_blk b1 0 (v := .int .i64 0) rfl
  have z1 := cell_blk b1 1 (v := .int .i64 0) rfl
  have f0 := frozen_blk b1 0
  have f1 := frozen_blk b1 1
  cases hr : s.row with
  | nil =>
    obtain ⟨a, cap, rfl, hc, _⟩ := h.row.shape
    rw [hr] at c3
    simp only [List.length_nil] at c3
    have hf : frontV KF (.agg #[.int .i64 0, .int .i64 0]) s = .agg #[.int .i64 0, .int .i64 0] := by simp [frontV, hr]
    rw [hf]
    go_enter Try.func36, Try.ntmps36
    have kA : Keep (fun _ => False) w1 (w1.alloc (.cells #[.int .i64 0, .int .i64 0] 36)) := Keep.alloc _ _ _
    have y0 := kA.cell z0 fun f => f
    have y1 := kA.cell z1 fun f => f
    have bA := kA.blk b1 fun f => f
    have e0 := frozen_blk bA 0
    have e1 := frozen_blk bA 1
    have HE : Hid (Keep (fun _ => False) w (put2 (w1.alloc (.cells #[.int .i64 0, .int .i64 0] 36)) w.heap.size (.int .i64 0) (.int .i64 0))) := (k1.more kA).trans (put2_keep _ _ _ _) fun i e => .inr (Nat.le_of_eq e.symm)
    have HB := hide (put2_blk bA (.int .i64 0) (.int .i64 0))
    clear kA bA b1 k1
    go_upto_region 1 with fail
    rw [← hw1]
    clear hw1 h
    go_wp2
    exact bodyPost_ret (res_ref rfl _ _ w.heap.size _ _ rfl HB.out) rfl ⟨rfl, HE.out⟩
  | cons e t =>
    obtain ⟨g, off, cap, rfl, _, _, hc, _, hra, _⟩ := h.row.full (by rw [hr]; simp)
    have hx := k1.cell (RowAt.at_ okF hra (i := 0) (e := e) (by rw [hr]; rfl) (j := 1) (by decide) (u := .int .i64 e.2.1.1) rfl) fun f => f
    have hz := k1.cell (RowAt.at_ okF hra (i := 0) (e := e) (by rw [hr]; rfl) (j := 2) (by decide) (u := .int .i64 e.2.1.2) rfl) fun f => f
    have hl : s.row.length = t.length + 1 := by rw [hr]; simp
    rw [hl] at c3
    simp only [Nat.zero_mul, Nat.zero_add] at hx hz
    have hf : frontV KF (.agg #[.int .i64 0, .int .i64 0]) s = KF.enc e.2 := by simp [frontV, hr]
    rw [hf]
    generalize e.2 = k at hx hz ⊢
    obtain ⟨⟨ka, kb⟩, hkab⟩ := k
    unfold KF
    simp only at hx hz ⊢
    clear hra hf hr hl hkab
    go_enter Try.func36, Try.ntmps36
    have HE : Hid (Keep (fun _ => False) w (put2 w1 w.heap.size (.int .i64 ka) (.int .i64 kb))) := k1.trans (put2_keep _ _ _ _) fun i e => .inr (Nat.le_of_eq e.symm)
    have HB := hide (put2_blk b1 (.int .i64 ka) (.int .i64 kb))
    clear b1 k1
    go_upto_region 1 with fail
    rw [← hw1]
    clear hw1 h
    go_wp2
    exact bodyPost_ret (res_ref rfl _ _ w.heap.size _ _ rfl HB.out) rfl ⟨rfl, HE.out⟩

set_option maxHeartbeats 2000000 in
theorem ahead1F (n : Int) (ka kb : Int) (b : Int) (w : World) : Calls Try.prog 54 #[.agg #[.int .i64 n, .int .i64 ka, .int .i64 kb], .int .i64 b] w fun e w' => e = .returned (.int .i64 (cmpN n b)) ∧ Keep (fun _ => False) w w' := by
  go_enter Try.func54, Try.ntmps54
  go_wp2_with (go_at_call 48; refine (compare_any _ _ _).mono ?_; rintro e w1 ⟨rfl, rfl⟩)
  go_ret
  exact ⟨rfl, Keep.alloc _ _ _⟩

end Qu
end Go.Proofs.Ytobmnkoohgkiiaa
