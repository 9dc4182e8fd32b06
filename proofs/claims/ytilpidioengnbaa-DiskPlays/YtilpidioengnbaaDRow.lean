/- Package disk: rows of bytes: slices.Grow, lay, cut. -/
import Derived.Test.YtilpidioengnbaaDMap
import Derived.Lib.AppendZerosOnto
import Derived.Lib.SliceRun
import Derived.Lib.Walk
namespace Go.Proofs.Ytilpidioengnbaa
open Go.RowKit Go.Lib

theorem size_u8 : (Try.prog.info? 5).map (·.size) = some 1 := by kernel_rfl
theorem zero_u8 (w : World) : (zeroValue 5).run Try.prog w = .ok (.int .u8 0) w := by kernel_rfl

/-- a row of bytes -/
def Row (w : World) (v : Value) (l : List Nat) : Prop := w.ownsRow 0 5 1 v l.length (B8 l) ∧ ∀ d ∈ l, d < 256

theorem row_nil (w : World) : Row w (.slice none 0 0) [] := ⟨World.ownsRow_nil w _ _ _, fun d hd => by cases hd⟩

theorem Row.parts {w : World} {v : Value} {l : List Nat} (h : Row w v l) : (v = .slice none 0 0 ∧ l = []) ∨ ∃ (g cap : Nat) (cur : List Value), v = .slice (some ⟨g, 0, none⟩) l.length cap ∧ w.heap[g]? = some (.cells cur.toArray 5 (0, 0)) ∧ l.length ≤ cap ∧ cap ≤ maxLen ∧ cur.length = cap ∧ cur.take l.length = B8 l := by
  rcases h.1.2 with ⟨h1, h2⟩ | ⟨g, cap, cur, h1, _, h2, h3, h4, h5, h6⟩
  · exact .inl ⟨h1, List.eq_nil_of_length_eq_zero h2⟩
  · exact .inr ⟨g, cap, cur.toList, h1, by simpa using h2, h3, h4, by simpa using h5, by simpa using h6⟩

theorem row_mk {w : World} {g cap : Nat} {cur : List Value} {l : List Nat} (h1 : w.heap[g]? = some (.cells cur.toArray 5 (0, 0))) (h2 : l.length ≤ cap) (h3 : cap ≤ maxLen) (h4 : cur.length = cap) (h5 : cur.take l.length = B8 l) (h6 : ∀ d ∈ l, d < 256) :
    Row w (.slice (some ⟨g, 0, none⟩) l.length cap) l :=
  ⟨⟨by rw [B8_length, Nat.mul_one], .inr ⟨g, cap, cur.toArray, rfl, Nat.zero_le _, h1, h2, h3, by simpa using h4, by simpa using h5⟩⟩, h6⟩

theorem Row.keep {w w' : World} {v : Value} {l : List Nat} (h : Row w v l) {S : Nat → Prop} (hk : Keep S w w') (hS : ∀ g, v.ownBlock = some g → ¬ S g) : Row w' v l := by
  refine ⟨⟨h.1.1, ?_⟩, h.2⟩
  rcases h.1.2 with h1 | ⟨g, cap, cur, h1, h0, h2, h3⟩
  · exact .inl h1
  · exact .inr ⟨g, cap, cur, h1, h0, hk.blk h2 (hS g (by rw [h1]; rfl)), h3⟩

theorem Row.rd {w : World} {v : Value} {l : List Nat} (h : Row w v l) (hs : l.length < 281474976710656) : ∃ a c, v = .slice a l.length c ∧ Rd w a l.length l ∧ (a = none → c = 0) ∧ l.length ≤ c ∧ (∀ ad, a = some ad → ∃ g, ad = ⟨g, 0, none⟩ ∧ v.ownBlock = some g) := by
  obtain ⟨a, c, rfl, h2, h3, h4, h5⟩ := ownsRow_rd h.1 h.2 hs
  refine ⟨a, c, rfl, h2, h3, h4, fun ad e => ?_⟩
  obtain ⟨g, e2, _⟩ := h5 ad e
  subst e; subst e2
  exact ⟨g, rfl, rfl⟩

set_option maxHeartbeats 2000000 in
set_option maxRecDepth 100000 in
theorem grow_room (base : Option Addr) (l c n : Nat) (w : World) (hlc : l ≤ c) (hc63 : c ≤ 9223372036854775807) (hn63 : n ≤ 9223372036854775807) (hroom : l + n ≤ c) :
    Calls Try.prog 51 #[.slice base l c, .int .i64 n] w fun e w' => e = .returned (.slice base l c) ∧ w' = w := by
  have h1 : ¬ ((n : Int) < 0) := by omega
  have h2 : wrap64 ((c : Int) - (l : Int)) = (c : Int) - (l : Int) := by unfold wrap64; omega
  have h3 : wrap64 ((n : Int) - ((c : Int) - (l : Int))) = (n : Int) - ((c : Int) - (l : Int)) := by unfold wrap64; omega
  have h4 : ¬ ((n : Int) - ((c : Int) - (l : Int)) > 0) := by omega
  go_enter Try.func51, Try.ntmps51
  go_wp2
  go_ret
  exact ⟨rfl, rfl⟩

set_option maxHeartbeats 4000000 in
set_option maxRecDepth 100000 in
theorem grow_grow (base : Option Addr) (l c n : Nat) (cs : List Value) (w : World) (hlc : l ≤ c) (hroom : c < l + n) (hbig : l + n ≤ 140737488355328)
    (hcl : cs.length = c) (hnil : base = none → c = 0) (hcs : ∀ a, base = some a → ∀ j v, cs[j]? = some v → w.cell? (a.add j) = some v) :
    Calls Try.prog 51 #[.slice base l c, .int .i64 n] w fun e w' =>
      ∃ G, l + n ≤ G ∧ G ≤ maxLen ∧ e = .returned (.slice (some ⟨w.heap.size, 0, none⟩) l G) ∧
      w' = w.drew.alloc (.cells (cs ++ (List.replicate (l + n - c) (Value.int .u8 0) ++ List.replicate (G - (l + n)) (Value.int .u8 0))).toArray 5) := by
  obtain ⟨i0, hi0, hz0, hz1, hz2⟩ := info_parts info_u8
  have h1 : ¬ ((n : Int) < 0) := by omega
  have h2 : wrap64 ((c : Int) - (l : Int)) = (c : Int) - (l : Int) := by unfold wrap64; omega
  have h3 : wrap64 ((n : Int) - ((c : Int) - (l : Int))) = (n : Int) - ((c : Int) - (l : Int)) := by unfold wrap64; omega
  have h4 : (n : Int) - ((c : Int) - (l : Int)) > 0 := by omega
  have hck : c + (l + n - c) = l + n := by omega
  have hold : (Builtin.firstCells i0.size c (.slice base c c)).run Try.prog w.drew = .ok cs.toArray w.drew := by
    cases base with
    | none =>
      have h0 := hnil rfl
      subst h0
      have hc0 : cs = [] := List.length_eq_zero_iff.1 hcl
      rw [hc0]
      exact run_firstCells_none w.drew i0.size 0 0 0
    | some a => exact run_firstCells_some w.drew i0.size c a c c cs (by rw [hz1]; omega) (fun j v hj => hcs a rfl j v hj)
  have hzc : ∀ m, Builtin.zeroCells (Value.int .u8 0).cells m = (List.replicate m (Value.int .u8 0)).toArray := fun m => by
    apply Array.toList_inj.1
    simp [Builtin.zeroCells, Value.cells]
    apply List.ext_getElem
    · simp
    · intro i h1 h2
      simp [Nat.mod_one]
  have hrz : ∀ ty, (Builtin.append_ #[33, 3] ty #[.slice base c c, .int .i64 ((n : Int) - ((c : Int) - (l : Int)))]).run Try.prog w =
      .ok (.slice (some ⟨w.heap.size, 0, none⟩) (l + n) (grownCap w (l + n) c 5)) (w.drew.alloc (.cells (cs.toArray ++ Builtin.zeroCells (Value.int .u8 0).cells (l + n - c) ++ Builtin.zeroCells (Value.int .u8 0).cells (grownCap w (l + n) c 5 - (l + n))) 5)) := fun ty => by
    have h := Lib.run_append_grow_zeros w 33 3 ty 5 i0 (.int .u8 0) .i64 .i64 Try.underlying33 Try.underlying3 hi0 hz0 base c c cs hold (l + n - c) (by omega) (by omega) (by omega) (by omega)
      (by rw [hz2]; omega)
      (by rw [hck]; exact growslice_fits hroom (by rw [hz2]; omega))
    rw [hck] at h
    rw [show (n : Int) - ((c : Int) - (l : Int)) = ((l + n - c : Nat) : Int) by omega]
    exact h
  have hGn : l + n ≤ grownCap w (l + n) c 5 := grownCap_ge w _ _ _
  obtain ⟨G, hG⟩ : ∃ G, G = grownCap w (l + n) c 5 := ⟨_, rfl⟩
  rw [← hG] at hrz hGn
  have hGm : G ≤ maxLen := by
    have := grownCap_le_maxLen w (l + n) c 5 (by unfold maxLen; omega)
    rwa [← hG] at this
  have hG63 : G ≤ 9223372036854775807 := by unfold maxLen at hGm; omega
  have HGm := hide hGm
  have HGn := hide hGn
  have hend : (cs.toArray ++ Builtin.zeroCells (Value.int .u8 0).cells (l + n - c) ++ Builtin.zeroCells (Value.int .u8 0).cells (G - (l + n))) = (cs ++ (List.replicate (l + n - c) (Value.int .u8 0) ++ List.replicate (G - (l + n)) (Value.int .u8 0))).toArray := by
    rw [hzc, hzc]
    simp
  rw [hend] at hrz
  clear hold hck hG hcs hcl hzc hend hi0 hz0 hz1 hz2 hGm
  go_enter Try.func51, Try.ntmps51
  cases base with
  | none =>
    have h0 := hnil rfl
    subst h0
    obtain rfl : l = 0 := by omega
    go_wp2_with (at_builtin; refine Lib.wpList_append_run _ rfl _ _ _ _ rfl _ _ rfl rfl _ _ (hrz _) ?_)
    all_goals (go_ret; exact ⟨G, by have := HGn.out; omega, HGm.out, rfl, by first | rfl | simp⟩)
  | some a =>
    obtain ⟨ab, ao, asp⟩ := a
    go_wp2_with (at_builtin; refine Lib.wpList_append_run _ rfl _ _ _ _ rfl _ _ rfl rfl _ _ (hrz _) ?_)
    all_goals (go_ret; exact ⟨G, HGn.out, HGm.out, rfl, rfl⟩)

/-- what a grown row is -/
def GrownTo (w : World) (v : Value) (l : List Nat) (n : Nat) (e : Ending) (w' : World) : Prop :=
  (v = .slice none 0 0 ∧ l = [] ∧ n = 0 ∧ e = .returned (.slice none 0 0) ∧ w' = w) ∨
  ∃ (g cap : Nat) (cur : List Value), e = .returned (.slice (some ⟨g, 0, none⟩) l.length cap) ∧ w'.heap[g]? = some (.cells cur.toArray 5 (0, 0)) ∧ l.length + n ≤ cap ∧ cap ≤ maxLen ∧ cur.length = cap ∧ cur.take l.length = B8 l ∧ Keep (fun _ => False) w w' ∧ (v.ownBlock = some g ∨ w.heap.size ≤ g)

theorem grow_any (v : Value) (l : List Nat) (n : Nat) (w : World) (hr : Row w v l) (hs : l.length + n ≤ 140737488355328) :
    Calls Try.prog 51 #[v, .int .i64 n] w (GrownTo w v l n) := by
  rcases hr.parts with ⟨rfl, rfl⟩ | ⟨g, cap, cur, rfl, h1, h2, h3, h4, h5⟩
  · by_cases hn : n = 0
    · subst hn
      refine (grow_room none 0 0 0 w (Nat.le_refl _) (by decide) (by decide) (Nat.le_refl _)).mono fun e w' h => ?_
      exact .inl ⟨rfl, rfl, rfl, h.1, h.2⟩
    · refine (grow_grow none 0 0 n [] w (Nat.le_refl _) (by omega) (by simpa using hs) rfl (fun _ => rfl) (fun a e => by cases e)).mono fun e w' ⟨G, g1, g2, g3, g4⟩ => ?_
      refine .inr ⟨w.heap.size, G, _, g3, by rw [g4]; exact heap_alloc_new w.drew _, g1, g2, ?_, ?_, ?_, .inr (Nat.le_refl _)⟩
      · simp; omega
      · simp [B8]
      · rw [g4]; exact (Keep.drew _ w).more (Keep.alloc _ _ _)
  · have h63 : cap ≤ 9223372036854775807 := by unfold maxLen at h3; omega
    by_cases hn : l.length + n ≤ cap
    · refine (grow_room _ l.length cap n w h2 h63 (by omega) hn).mono fun e w' h => ?_
      exact .inr ⟨g, cap, cur, h.1, by rw [h.2]; exact h1, hn, h3, h4, h5, by rw [h.2]; exact Keep.refl _ _, .inl rfl⟩
    · refine (grow_grow (some ⟨g, 0, none⟩) l.length cap n cur w h2 (by omega) hs h4 (fun e => by cases e) (fun a e j v hj => ?_)).mono fun e w' ⟨G, g1, g2, g3, g4⟩ => ?_
      · injection e with e; subst e
        rw [Addr.add_lit, Nat.zero_add]
        rw [World.cell?, h1]
        simpa using hj
      refine .inr ⟨w.heap.size, G, _, g3, by rw [g4]; exact heap_alloc_new w.drew _, g1, g2, ?_, ?_, ?_, .inr (Nat.le_refl _)⟩
      · simp; omega
      · rw [List.take_append_of_le_length (by omega)]
        exact h5
      · rw [g4]; exact (Keep.drew _ w).more (Keep.alloc _ _ _)

theorem slice_to (g l m c : Nat) (h : m ≤ c) (wx : World) : (Instr.slice 33 (.slice (some ⟨g, 0, none⟩) l c) none (some (.int .i64 (m : Int))) none).run Try.prog wx = .ok (.slice (some ⟨g, 0, none⟩) m c) wx := by
  by_cases hc : c = 0
  · subst hc; obtain rfl : m = 0 := by omega
    go_simp
  · go_simp
theorem slice_to_nil (wx : World) : (Instr.slice 33 (.slice none 0 0) none (some (.int .i64 ((0 : Nat) : Int))) none).run Try.prog wx = .ok (.slice none 0 0) wx := by
  go_simp
theorem slice_from (g l n c : Nat) (hm : l + n ≤ c) : ∃ a', (∀ wx, (Instr.slice 33 (.slice (some ⟨g, 0, none⟩) (l + n) c) (some (.int .i64 (l : Int))) none none).run Try.prog wx = .ok (.slice a' n (c - l)) wx) ∧ (0 < c - l → a' = some ⟨g, l, none⟩) := by
  refine ⟨if c = l then some ⟨g, 0, none⟩ else some ⟨g, l, none⟩, fun wx => ?_, fun h => by rw [if_neg (by omega)]⟩
  by_cases h : c = l
  · subst h
    obtain rfl : n = 0 := by omega
    go_simp
  · rw [if_neg h]
    go_simp
    intro h'
    omega

end Go.Proofs.Ytilpidioengnbaa
