/- Package queue: kinds of things; New, Len, Front. -/
import Derived.Test.YtobmnkoohgkiiaaQSt
import Derived.Maps.OwnSet
namespace Go.Proofs.Ytobmnkoohgkiiaa
namespace Qu
open Go.RowKit Go.Maps

def KI : Kd Int := { kt := 3, enc := fun k => .int .i64 k, lit := fun k => .int .i64 k, ok := fun k => -9223372036854775808 ≤ k ∧ k ≤ 9223372036854775807, c := 1, cl := fun k => [.int .i64 k], zc := [.int .i64 0, .int .i64 0], tq := 66, te := 91, tl := 64, tm := 63 }
def KS : Kd ByteArray := { kt := 9, enc := fun k => .string k, lit := fun k => .string k.data.toList, ok := fun k => k.size ≤ maxLen, c := 1, cl := fun k => [.string k], zc := [.int .i64 0, .string ⟨#[]⟩], tq := 70, te := 95, tl := 68, tm := 67 }

theorem infoI : (Try.prog.info? 91).map (fun i => (i.zero, i.size, i.bytes)) = some (some (.agg #[.int .i64 0, .int .i64 0]), 2, 16) := by kernel_rfl
theorem infoS : (Try.prog.info? 95).map (fun i => (i.zero, i.size, i.bytes)) = some (some (.agg #[.int .i64 0, .string ⟨#[]⟩]), 2, 24) := by kernel_rfl
theorem okI : KdOk KI where
  keyed := int_keyed Try.underlying3
  key a h := keyOf_int_mk Try.underlying3 (WalkArith.wf_i64 (by have := h.1; have := h.2; omega))
  inj a b h := (Lit.int.inj h).2
  cln _ := rfl
  one a u hu := by simp [KI] at hu; subst hu; rfl
  zln := rfl
  zne u hu := by simp [KI] at hu; subst hu; rfl
  ul := Try.underlying64
  um := Try.underlying63
  inf := by obtain ⟨i0, hi, hz0, hz1, hz2⟩ := info_parts infoI; exact ⟨i0, hi, hz0, hz1, by omega⟩
  ne := by decide
theorem okS : KdOk KS where
  keyed := string_keyed Try.underlying9
  key a h := Go.WideMaps.keyOf_string_mk Try.underlying9 h
  inj a b h := by
    have := Lit.string.inj h
    cases a; cases b
    simp at this
    rw [this]
  cln _ := rfl
  one a u hu := by simp [KS] at hu; subst hu; rfl
  zln := rfl
  zne u hu := by simp [KS] at hu; rcases hu with rfl | rfl <;> rfl
  ul := Try.underlying68
  um := Try.underlying67
  inf := by obtain ⟨i0, hi, hz0, hz1, hz2⟩ := info_parts infoS; exact ⟨i0, hi, hz0, hz1, by omega⟩
  ne := by decide

/-- a new queue -/
def fresh {α : Type} (c : Nat) : St α := ⟨c, 0, []⟩
theorem fresh_at {α : Type} [DecidableEq α] (K : Kd α) (w : World) {c : Nat} (hc : c ≤ 65536) : QAt K (fun k => w.heap.size ≤ k) ((w.alloc (.map #[] 0)).alloc (.cells #[nv c, nv 0, .map (some w.heap.size), .slice none 0 0] K.tq)) (w.heap.size + 1) (fresh c) := by
  refine ⟨⟨hc, Nat.zero_le _, List.Pairwise.nil, fun e h => (by cases h), List.nodup_nil⟩, fun e h => (by cases h), w.heap.size, .slice none 0 0, ⟨?_, (mapK_made K w).keep (Keep.alloc (fun _ => False) _ _) (fun h => h), .inl ⟨rfl, rfl⟩, Nat.le_succ _, Nat.le_refl _⟩⟩
  have := heap_alloc_new (w.alloc (.map #[] 0)) (.cells #[nv c, nv 0, .map (some w.heap.size), .slice none 0 0] K.tq)
  rwa [World.size_alloc] at this

set_option maxRecDepth 100000 in
set_option maxHeartbeats 4000000 in
theorem newI (c : Nat) (w : World) (h1 : 1 ≤ c) (h2 : c ≤ 65536) :
    Calls Try.prog 6 #[.int .i64 c] w fun e w' => ∃ P, e = .returned (.tuple #[.pointer (some ⟨P, 0, none⟩), .int .i64 0]) ∧
      QAt KI (fun k => w.heap.size ≤ k) w' P (fresh c) ∧ Keep (fun _ => False) w w' := by
  have e1 : ¬ ((c : Int) < 1) := by omega
  have e2 : ¬ ((65536 : Int) < c) := by omega
  have hmm := @run_makeMap Try.prog
  go_enter Try.func6, Try.ntmps6
  go_wp2
  go_ret2
  exact ⟨_, rfl, fresh_at KI w h2, (Keep.alloc _ _ _).more (Keep.alloc _ _ _)⟩

set_option maxHeartbeats 2000000 in
theorem lenI {S : Nat → Prop} {P m : Nat} {v : Value} {s : St _} (w : World) (h : QIn KI S w P m v s) :
    Calls Try.prog 29 #[.pointer (some ⟨P, 0, none⟩)] w fun e w' => e = .returned (.int .i64 (s.row.length : Nat)) ∧ w' = w := by
  obtain ⟨a, cap, rfl, hc, _⟩ := h.row.shape
  have c3 := h.c3
  go_enter Try.func29, Try.ntmps29
  go_wp2
  go_ret
  exact ⟨rfl, rfl⟩
set_option maxRecDepth 100000 in
set_option maxHeartbeats 4000000 in
theorem newS (c : Nat) (w : World) (h1 : 1 ≤ c) (h2 : c ≤ 65536) :
    Calls Try.prog 8 #[.int .i64 c] w fun e w' => ∃ P, e = .returned (.tuple #[.pointer (some ⟨P, 0, none⟩), .int .i64 0]) ∧
      QAt KS (fun k => w.heap.size ≤ k) w' P (fresh c) ∧ Keep (fun _ => False) w w' := by
  have e1 : ¬ ((c : Int) < 1) := by omega
  have e2 : ¬ ((65536 : Int) < c) := by omega
  have hmm := @run_makeMap Try.prog
  go_enter Try.func8, Try.ntmps8
  go_wp2
  go_ret2
  exact ⟨_, rfl, fresh_at KS w h2, (Keep.alloc _ _ _).more (Keep.alloc _ _ _)⟩

set_option maxHeartbeats 2000000 in
theorem lenS {S : Nat → Prop} {P m : Nat} {v : Value} {s : St _} (w : World) (h : QIn KS S w P m v s) :
    Calls Try.prog 23 #[.pointer (some ⟨P, 0, none⟩)] w fun e w' => e = .returned (.int .i64 (s.row.length : Nat)) ∧ w' = w := by
  obtain ⟨a, cap, rfl, hc, _⟩ := h.row.shape
  have c3 := h.c3
  go_enter Try.func23, Try.ntmps23
  go_wp2
  go_ret
  exact ⟨rfl, rfl⟩

/-- a capacity that may not be -/
theorem newI_bad (c : Int) (w : World) (h : c < 1 ∨ 65536 < c) :
    Calls Try.prog 6 #[.int .i64 c] w fun e w' => e = .returned (.tuple #[.pointer none, .int .i64 80]) ∧ w' = w := by
  by_cases e1 : c < 1
  · go_enter Try.func6, Try.ntmps6
    go_wp2
    go_ret2
    exact ⟨rfl, rfl⟩
  · have e2 : 65536 < c := by omega
    go_enter Try.func6, Try.ntmps6
    go_wp2
    go_ret2
    exact ⟨rfl, rfl⟩

/-- the first thing, or none -/
def frontV {α : Type} (K : Kd α) (z : Value) (s : St α) : Value := match s.row with | [] => z | e :: _ => K.enc e.2

theorem RowAt.at_ {α : Type} {K : Kd α} (hK : KdOk K) {w : World} {g off : Nat} {r : List (Nat × α)} (h : w.rangeAt g off (flat K r)) {i : Nat} {e : Nat × α} (hi : r[i]? = some e) {j : Nat} (hj : j < K.c + 1) {u : Value} (hu : (nv e.1 :: K.cl e.2)[j]? = some u) : w.cell? ⟨g, off + (i * (K.c + 1) + j), none⟩ = some u := h _ _ ((flat_at hK.cln hi hj).trans hu)

set_option maxHeartbeats 2000000 in
theorem frontI {S : Nat → Prop} {P m : Nat} {v : Value} {s : St _} (w : World) (h : QIn KI S w P m v s) :
    Calls Try.prog 26 #[.pointer (some ⟨P, 0, none⟩)] w fun e w' => e = .returned (.tuple #[frontV KI (.int .i64 0) s, .bool (!s.row.isEmpty)]) ∧ w' = w := by
  have c3 := h.c3
  cases hr : s.row with
  | nil =>
    obtain ⟨a, cap, rfl, hc, _⟩ := h.row.shape
    rw [hr] at c3
    simp only [List.length_nil] at c3
    have hf : frontV KI (.int .i64 0) s = .int .i64 0 := by simp [frontV, hr]
    rw [hf]
    go_enter Try.func26, Try.ntmps26
    go_wp2
    go_ret2
    exact ⟨rfl, rfl⟩
  | cons e t =>
    obtain ⟨g, off, cap, rfl, _, _, hc, _, hra, _⟩ := h.row.full (by rw [hr]; simp)
    have hx := RowAt.at_ okI hra (i := 0) (e := e) (by rw [hr]; rfl) (j := 1) (by decide) (u := KI.enc e.2) rfl
    have hl : s.row.length = t.length + 1 := by rw [hr]; simp
    rw [hl] at c3
    simp only [Nat.zero_mul, Nat.zero_add] at hx
    have hf : frontV KI (.int .i64 0) s = KI.enc e.2 := by simp [frontV, hr]
    rw [hf]
    generalize e.2 = k at hx ⊢
    have hx' : w.cell? ⟨g, off + 1, none⟩ = some (KI.enc k) := hx
    unfold KI at hx' ⊢
    clear hx hra hf hr hl
    go_enter Try.func26, Try.ntmps26
    go_wp2
    go_ret2
    exact ⟨rfl, rfl⟩
set_option maxHeartbeats 2000000 in
theorem frontS {S : Nat → Prop} {P m : Nat} {v : Value} {s : St _} (w : World) (h : QIn KS S w P m v s) :
    Calls Try.prog 32 #[.pointer (some ⟨P, 0, none⟩)] w fun e w' => e = .returned (.tuple #[frontV KS (.string ⟨#[]⟩) s, .bool (!s.row.isEmpty)]) ∧ w' = w := by
  have c3 := h.c3
  cases hr : s.row with
  | nil =>
    obtain ⟨a, cap, rfl, hc, _⟩ := h.row.shape
    rw [hr] at c3
    simp only [List.length_nil] at c3
    have hf : frontV KS (.string ⟨#[]⟩) s = .string ⟨#[]⟩ := by simp [frontV, hr]
    rw [hf]
    go_enter Try.func32, Try.ntmps32
    go_wp2
    go_ret2
    exact ⟨rfl, rfl⟩
  | cons e t =>
    obtain ⟨g, off, cap, rfl, _, _, hc, _, hra, _⟩ := h.row.full (by rw [hr]; simp)
    have hx := RowAt.at_ okS hra (i := 0) (e := e) (by rw [hr]; rfl) (j := 1) (by decide) (u := KS.enc e.2) rfl
    have hl : s.row.length = t.length + 1 := by rw [hr]; simp
    rw [hl] at c3
    simp only [Nat.zero_mul, Nat.zero_add] at hx
    have hf : frontV KS (.string ⟨#[]⟩) s = KS.enc e.2 := by simp [frontV, hr]
    rw [hf]
    generalize e.2 = k at hx ⊢
    have hx' : w.cell? ⟨g, off + 1, none⟩ = some (KS.enc k) := hx
    unfold KS at hx' ⊢
    clear hx hra hf hr hl
    go_enter Try.func32, Try.ntmps32
    go_wp2
    go_ret2
    exact ⟨rfl, rfl⟩

end Qu
end Go.Proofs.Ytobmnkoohgkiiaa
