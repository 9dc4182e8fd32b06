/- Codec: the small forms; nodeFields and planFields made (written by cnv_gen.py). -/
import Derived.Test.YtbjcckfhfbjchaaGreatCDu
import Derived.Test.YtbjcckfhfbjchaaGreatPWordR
import Derived.Test.YtbjcckfhfbjchaaGreatPBlobR
namespace Go.Proofs.YtbjcckfhfbjchaaGreat
namespace Cd
open Go.RowKit Go.Deep

theorem set2_blk {w : World} {b : Nat} {x y u v : Value} {t : TypeId} (h : w.heap[b]? = some (.cells #[x, y] t (0, 0))) : ((w.setCell ⟨b, 0, none⟩ u).setCell ⟨b, 1, none⟩ v).heap[b]? = some (.cells #[u, v] t (0, 0)) := (set_blk ((set_blk h 0 u).trans rfl) 1 v).trans rfl
theorem set2_keep (w : World) (b : Nat) (u v : Value) : Keep (fun k => k = b) w ((w.setCell ⟨b, 0, none⟩ u).setCell ⟨b, 1, none⟩ v) := (keep_cell w b 0 u).more (keep_cell _ b 1 v)
/-- a form's block, stored whole -/
theorem below_set2 {w w1 : World} {b : Nat} (h : Below w.heap.size w w1) (hb : w.heap.size ≤ b) (u v : Value) : Below w.heap.size w ((w1.setCell ⟨b, 0, none⟩ u).setCell ⟨b, 1, none⟩ v) :=
  h.trans ((set2_keep w1 b u v).below h.size fun i e => by have e : i = b := e; omega)
theorem names_any (w : World) :
    Calls Tryz.prog 54 #[] w fun en w' => ∃ m, en = .returned (.agg (fS m)) ∧ w'.cell? ⟨m, 0, none⟩ = some (.int .i64 40) ∧ w.heap.size ≤ m ∧ Below w.heap.size w w' := by
  go_enter Tryz.func54, Tryz.ntmps54
  go_wp2_with fail
  refine (Texts_any 40 _).mono ?_
  rintro e w1 ⟨m, rfl, hm, hlm, hb⟩
  have hx := blkB (heap_alloc_new w _) hb
  have f0 := cell_blk hx 0 rfl
  have f1 := cell_blk hx 1 rfl
  have z0 := frozen_blk hx 0
  have z1 := frozen_blk hx 1
  have HS := hide ((Keep.alloc (fun _ => False) w (.cells #[.nilFunc, .nilFunc] 109)).size)
  have hsz : (w.alloc (.cells #[.nilFunc, .nilFunc] 109)).heap.size = w.heap.size + 1 := by simp
  rw [hsz] at hlm hb
  have HB : Hid (Below w.heap.size w w1) := ((Below.refl w.heap.size w).alloc (Nat.le_refl _) _).trans (hb.mono (by omega))
  have HX := hide hx
  have HM := hide (And.intro hm hlm)
  clear hx hb hm hlm hsz
  go_wp2_with fail
  refine bodyPost_ret (results_cell_row rfl _ _ w.heap.size 109 (fS m) (0, 0) _ rfl (set2_blk HX.out) Tryz.underlying109 rfl (by kernel_rfl)) rfl ?_
  refine ⟨m, rfl, (set2_keep _ _ _ _).cell HM.out.1 (by have := HM.out.2; show ¬ m = _; omega), by have := HM.out.2; omega, below_set2 HB.out (Nat.le_refl _) _ _⟩
theorem keys_any (w : World) :
    Calls Tryz.prog 138 #[] w fun en w' => ∃ m, en = .returned (.agg (fS m)) ∧ w'.cell? ⟨m, 0, none⟩ = some (.int .i64 40) ∧ w.heap.size ≤ m ∧ Below w.heap.size w w' := by
  go_enter Tryz.func138, Tryz.ntmps138
  go_wp2_with fail
  refine (Texts_any 40 _).mono ?_
  rintro e w1 ⟨m, rfl, hm, hlm, hb⟩
  have hx := blkB (heap_alloc_new w _) hb
  have f0 := cell_blk hx 0 rfl
  have f1 := cell_blk hx 1 rfl
  have z0 := frozen_blk hx 0
  have z1 := frozen_blk hx 1
  have HS := hide ((Keep.alloc (fun _ => False) w (.cells #[.nilFunc, .nilFunc] 109)).size)
  have hsz : (w.alloc (.cells #[.nilFunc, .nilFunc] 109)).heap.size = w.heap.size + 1 := by simp
  rw [hsz] at hlm hb
  have HB : Hid (Below w.heap.size w w1) := ((Below.refl w.heap.size w).alloc (Nat.le_refl _) _).trans (hb.mono (by omega))
  have HX := hide hx
  have HM := hide (And.intro hm hlm)
  clear hx hb hm hlm hsz
  go_wp2_with fail
  refine bodyPost_ret (results_cell_row rfl _ _ w.heap.size 109 (fS m) (0, 0) _ rfl (set2_blk HX.out) Tryz.underlying109 rfl (by kernel_rfl)) rfl ?_
  refine ⟨m, rfl, (set2_keep _ _ _ _).cell HM.out.1 (by have := HM.out.2; show ¬ m = _; omega), by have := HM.out.2; omega, below_set2 HB.out (Nat.le_refl _) _ _⟩
def fB (m : Nat) : Array Value := #[.func (.func 186) #[] #[.pointer (some ⟨m, 0, none⟩)], .func (.func 188) #[] #[.pointer (some ⟨m, 0, none⟩)]]
theorem results_any (w : World) :
    Calls Tryz.prog 141 #[] w fun en w' => ∃ m, en = .returned (.agg (fB m)) ∧ w'.cell? ⟨m, 0, none⟩ = some (.int .i64 64) ∧ w.heap.size ≤ m ∧ Below w.heap.size w w' := by
  go_enter Tryz.func141, Tryz.ntmps141
  go_wp2_with fail
  refine (Blobs_any 64 _).mono ?_
  rintro e w1 ⟨m, rfl, hm, hlm, hb⟩
  have hx := blkB (heap_alloc_new w _) hb
  have f0 := cell_blk hx 0 rfl
  have f1 := cell_blk hx 1 rfl
  have z0 := frozen_blk hx 0
  have z1 := frozen_blk hx 1
  have HS := hide ((Keep.alloc (fun _ => False) w (.cells #[.nilFunc, .nilFunc] 167)).size)
  have hsz : (w.alloc (.cells #[.nilFunc, .nilFunc] 167)).heap.size = w.heap.size + 1 := by simp
  rw [hsz] at hlm hb
  have HB : Hid (Below w.heap.size w w1) := ((Below.refl w.heap.size w).alloc (Nat.le_refl _) _).trans (hb.mono (by omega))
  have HX := hide hx
  have HM := hide (And.intro hm hlm)
  clear hx hb hm hlm hsz
  go_wp2_with fail
  refine bodyPost_ret (results_cell_row rfl _ _ w.heap.size 167 (fB m) (0, 0) _ rfl (set2_blk HX.out) Tryz.underlying167 rfl (by kernel_rfl)) rfl ?_
  refine ⟨m, rfl, (set2_keep _ _ _ _).cell HM.out.1 (by have := HM.out.2; show ¬ m = _; omega), by have := HM.out.2; omega, below_set2 HB.out (Nat.le_refl _) _ _⟩
theorem lanes_any (w : World) :
    Calls Tryz.prog 121 #[] w fun en w' => ∃ l m, en = .returned (.agg (fI l m)) ∧ w'.cell? ⟨l, 0, none⟩ = some (.int .i64 0) ∧ w'.cell? ⟨m, 0, none⟩ = some (.int .i64 15) ∧ w.heap.size ≤ l ∧ w.heap.size ≤ m ∧ Below w.heap.size w w' := by
  go_enter Tryz.func121, Tryz.ntmps121
  go_wp2_with fail
  refine (Numbers_any 0 15 _).mono ?_
  rintro e w1 ⟨l, m, rfl, hl, hm, hll, hlm, hb⟩
  have hx := blkB (heap_alloc_new w _) hb
  have f0 := cell_blk hx 0 rfl
  have f1 := cell_blk hx 1 rfl
  have z0 := frozen_blk hx 0
  have z1 := frozen_blk hx 1
  have HS := hide ((Keep.alloc (fun _ => False) w (.cells #[.nilFunc, .nilFunc] 90)).size)
  have hsz : (w.alloc (.cells #[.nilFunc, .nilFunc] 90)).heap.size = w.heap.size + 1 := by simp
  rw [hsz] at hll hlm hb
  have HB : Hid (Below w.heap.size w w1) := ((Below.refl w.heap.size w).alloc (Nat.le_refl _) _).trans (hb.mono (by omega))
  have HX := hide hx
  have HM := hide (And.intro hm hlm)
  have HL := hide (And.intro hl hll)
  clear hx hb hm hlm hsz hl hll
  go_wp2_with fail
  refine bodyPost_ret (results_cell_row rfl _ _ w.heap.size 90 (fI l m) (0, 0) _ rfl (set2_blk HX.out) Tryz.underlying90 rfl (by kernel_rfl)) rfl ?_
  refine ⟨l, m, rfl, (set2_keep _ _ _ _).cell HL.out.1 (by have := HL.out.2; show ¬ l = _; omega), (set2_keep _ _ _ _).cell HM.out.1 (by have := HM.out.2; show ¬ m = _; omega), by have := HL.out.2; omega, by have := HM.out.2; omega, below_set2 HB.out (Nat.le_refl _) _ _⟩
theorem workers_any (w : World) :
    Calls Tryz.prog 139 #[] w fun en w' => ∃ l m, en = .returned (.agg (fI l m)) ∧ w'.cell? ⟨l, 0, none⟩ = some (.int .i64 0) ∧ w'.cell? ⟨m, 0, none⟩ = some (.int .i64 1099511627776) ∧ w.heap.size ≤ l ∧ w.heap.size ≤ m ∧ Below w.heap.size w w' := by
  go_enter Tryz.func139, Tryz.ntmps139
  go_wp2_with fail
  refine (Numbers_any 0 1099511627776 _).mono ?_
  rintro e w1 ⟨l, m, rfl, hl, hm, hll, hlm, hb⟩
  have hx := blkB (heap_alloc_new w _) hb
  have f0 := cell_blk hx 0 rfl
  have f1 := cell_blk hx 1 rfl
  have z0 := frozen_blk hx 0
  have z1 := frozen_blk hx 1
  have HS := hide ((Keep.alloc (fun _ => False) w (.cells #[.nilFunc, .nilFunc] 90)).size)
  have hsz : (w.alloc (.cells #[.nilFunc, .nilFunc] 90)).heap.size = w.heap.size + 1 := by simp
  rw [hsz] at hll hlm hb
  have HB : Hid (Below w.heap.size w w1) := ((Below.refl w.heap.size w).alloc (Nat.le_refl _) _).trans (hb.mono (by omega))
  have HX := hide hx
  have HM := hide (And.intro hm hlm)
  have HL := hide (And.intro hl hll)
  clear hx hb hm hlm hsz hl hll
  go_wp2_with fail
  refine bodyPost_ret (results_cell_row rfl _ _ w.heap.size 90 (fI l m) (0, 0) _ rfl (set2_blk HX.out) Tryz.underlying90 rfl (by kernel_rfl)) rfl ?_
  refine ⟨l, m, rfl, (set2_keep _ _ _ _).cell HL.out.1 (by have := HL.out.2; show ¬ l = _; omega), (set2_keep _ _ _ _).cell HM.out.1 (by have := HM.out.2; show ¬ m = _; omega), by have := HL.out.2; omega, by have := HM.out.2; omega, below_set2 HB.out (Nat.le_refl _) _ _⟩
theorem counts_any (w : World) :
    Calls Tryz.prog 140 #[] w fun en w' => ∃ l m, en = .returned (.agg (fI l m)) ∧ w'.cell? ⟨l, 0, none⟩ = some (.int .i64 1) ∧ w'.cell? ⟨m, 0, none⟩ = some (.int .i64 1099511627776) ∧ w.heap.size ≤ l ∧ w.heap.size ≤ m ∧ Below w.heap.size w w' := by
  go_enter Tryz.func140, Tryz.ntmps140
  go_wp2_with fail
  refine (Numbers_any 1 1099511627776 _).mono ?_
  rintro e w1 ⟨l, m, rfl, hl, hm, hll, hlm, hb⟩
  have hx := blkB (heap_alloc_new w _) hb
  have f0 := cell_blk hx 0 rfl
  have f1 := cell_blk hx 1 rfl
  have z0 := frozen_blk hx 0
  have z1 := frozen_blk hx 1
  have HS := hide ((Keep.alloc (fun _ => False) w (.cells #[.nilFunc, .nilFunc] 90)).size)
  have hsz : (w.alloc (.cells #[.nilFunc, .nilFunc] 90)).heap.size = w.heap.size + 1 := by simp
  rw [hsz] at hll hlm hb
  have HB : Hid (Below w.heap.size w w1) := ((Below.refl w.heap.size w).alloc (Nat.le_refl _) _).trans (hb.mono (by omega))
  have HX := hide hx
  have HM := hide (And.intro hm hlm)
  have HL := hide (And.intro hl hll)
  clear hx hb hm hlm hsz hl hll
  go_wp2_with fail
  refine bodyPost_ret (results_cell_row rfl _ _ w.heap.size 90 (fI l m) (0, 0) _ rfl (set2_blk HX.out) Tryz.underlying90 rfl (by kernel_rfl)) rfl ?_
  refine ⟨l, m, rfl, (set2_keep _ _ _ _).cell HL.out.1 (by have := HL.out.2; show ¬ l = _; omega), (set2_keep _ _ _ _).cell HM.out.1 (by have := HM.out.2; show ¬ m = _; omega), by have := HL.out.2; omega, by have := HM.out.2; omega, below_set2 HB.out (Nat.le_refl _) _ _⟩
theorem times_any (w : World) :
    Calls Tryz.prog 147 #[] w fun en w' => ∃ l m, en = .returned (.agg (fI l m)) ∧ w'.cell? ⟨l, 0, none⟩ = some (.int .i64 0) ∧ w'.cell? ⟨m, 0, none⟩ = some (.int .i64 4611686018427387904) ∧ w.heap.size ≤ l ∧ w.heap.size ≤ m ∧ Below w.heap.size w w' := by
  go_enter Tryz.func147, Tryz.ntmps147
  go_wp2_with fail
  refine (Numbers_any 0 4611686018427387904 _).mono ?_
  rintro e w1 ⟨l, m, rfl, hl, hm, hll, hlm, hb⟩
  have hx := blkB (heap_alloc_new w _) hb
  have f0 := cell_blk hx 0 rfl
  have f1 := cell_blk hx 1 rfl
  have z0 := frozen_blk hx 0
  have z1 := frozen_blk hx 1
  have HS := hide ((Keep.alloc (fun _ => False) w (.cells #[.nilFunc, .nilFunc] 90)).size)
  have hsz : (w.alloc (.cells #[.nilFunc, .nilFunc] 90)).heap.size = w.heap.size + 1 := by simp
  rw [hsz] at hll hlm hb
  have HB : Hid (Below w.heap.size w w1) := ((Below.refl w.heap.size w).alloc (Nat.le_refl _) _).trans (hb.mono (by omega))
  have HX := hide hx
  have HM := hide (And.intro hm hlm)
  have HL := hide (And.intro hl hll)
  clear hx hb hm hlm hsz hl hll
  go_wp2_with fail
  refine bodyPost_ret (results_cell_row rfl _ _ w.heap.size 90 (fI l m) (0, 0) _ rfl (set2_blk HX.out) Tryz.underlying90 rfl (by kernel_rfl)) rfl ?_
  refine ⟨l, m, rfl, (set2_keep _ _ _ _).cell HL.out.1 (by have := HL.out.2; show ¬ l = _; omega), (set2_keep _ _ _ _).cell HM.out.1 (by have := HM.out.2; show ¬ m = _; omega), by have := HL.out.2; omega, by have := HM.out.2; omega, below_set2 HB.out (Nat.le_refl _) _ _⟩
end Cd
end Go.Proofs.YtbjcckfhfbjchaaGreat
