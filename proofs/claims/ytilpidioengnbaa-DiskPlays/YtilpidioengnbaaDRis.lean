/- Package disk: rising: the keys of a map, sorted. -/
import Derived.Test.YtilpidioengnbaaDSyn
import Derived.Test.YtilpidioengnbaaShelf
import Derived.Sort.OwnSortedInts
import Derived.Maps.AppendAt
namespace Go.Proofs.Ytilpidioengnbaa
open Go.RowKit Go.Lib Go.Maps Go.MapKept Go.ChangeMaps Go.Sort

/-- keys met so far -/
def Coll (f : Int → Option Value) (left : Lit → Bool) (ks : List Int) : Prop := ks.Nodup ∧ ∀ k, k ∈ ks ↔ f k ≠ none ∧ left (.int .i64 k) = false

theorem coll_start {D : DataW Value} {f : Int → Option Value} (ha : Agr D f) : Coll f (Maps.has D) [] := by
  refine ⟨List.nodup_nil, fun k => ⟨(fun h => by cases h), fun ⟨h1, h2⟩ => ?_⟩⟩
  cases e : f k with
  | none => exact absurd e h1
  | some v => rw [((ha k).2 v e).1] at h2; cases h2
theorem same_int (k x : Int) : (Lit.int .i64 k).sameKey (.int .i64 x) = decide (k = x) := by
  by_cases h : k = x
  · subst h; rw [WideAt.sameKey_self (show WideAt.IsKeyLit (Lit.int .i64 k) from trivial)]; simp
  · have : ¬ (Lit.int .i64 k).sameKey (.int .i64 x) = true := fun e => h (by have := WideAt.sameKey_eq e; injection this)
    simp only [Bool.not_eq_true] at this
    rw [this]; simp [h]
theorem coll_step {f : Int → Option Value} {left : Lit → Bool} {ks : List Int} (h : Coll f left ks) {x : Int} (hl : left (.int .i64 x) = true) (hf : f x ≠ none) : Coll f (fun z => left z && !z.sameKey (.int .i64 x)) (ks ++ [x]) := by
  have hx : x ∉ ks := fun e => by have := ((h.2 x).1 e).2; rw [hl] at this; cases this
  refine ⟨List.nodup_append.2 ⟨h.1, by simp, fun a ha b hb e => ?_⟩, fun k => ?_⟩
  · simp only [List.mem_singleton] at hb; subst hb; subst e; exact hx ha
  · simp only [List.mem_append, List.mem_singleton, same_int]
    by_cases e : k = x
    · subst e; simp [hf]
    · simp only [e, or_false, decide_false, Bool.not_false, Bool.and_true]
      exact h.2 k
theorem atKey_some {D : DataW Value} {f : Int → Option Value} (ha : Agr D f) {x : Int} {y : DataW Value} (h : ∀ z, D.atKey (.int .i64 x) z = y) : ∃ v, f x = some v ∧ y = .held v := by
  cases e : f x with
  | none =>
    have h0 := (ha x).1 e
    have h1 := h (.held (.bool true))
    have h2 := h (.held (.bool false))
    rw [atKey_of_not_has h0] at h1 h2
    rw [← h2] at h1
    cases h1
  | some v => exact ⟨v, rfl, by rw [← h (.held v)]; exact ((ha x).2 v e).2 _⟩

/-- a round of a range over a map of segments -/
theorem wpList_next_raw {w : World} {ops : Array Oper} {rest : List Oper} {o : Oper} {a : Act} {Q : Exit → Act → World → Prop} (hg : o.guard = none) (it : Operand) (hop : o.op = Op.next it false) (b r n : Nat) (D : DataW Value) (f : Int → Option Value) (left : Lit → Bool) (cnt : Nat)
    (hit : a.eval it = .pointer (some ⟨r, 0, none⟩)) (h : w.ranges Try.prog 3 rawE b r n D left cnt) (ha : Agr D f)
    (hDone : cnt = 0 → (∀ kl, left kl = false) → wpList Try.prog ops Q rest (a.put o.dst (.tuple #[.bool false])) w)
    (hMore : ∀ (x : Int) (c : Value) (w' : World) (cnt' : Nat), (Lit.int .i64 x).wf = true → left (.int .i64 x) = true → f x = some c → w'.ranges Try.prog 3 rawE b r n D (fun z => left z && !z.sameKey (.int .i64 x)) cnt' → cnt' < cnt →
      w.grownBy w' (some r) → w'.heap.size = w.heap.size → (Instr.entry (.pointer (some ⟨r, 0, none⟩))).run Try.prog w' = .ok (.tuple #[.int .i64 x, c]) w' → wpList Try.prog ops Q rest (a.put o.dst (.tuple #[.bool true, .int .i64 x, c])) w') :
    wpList Try.prog ops Q (o :: rest) a w :=
  wpList_next_ranges w hg it hop 3 kint rawE (Value.int .i64) (fun c : Value => c) (fun key kl hkey => by obtain ⟨x, rfl, _⟩ := Maps.keyOf_int_inv Try.underlying3 hkey; exact ⟨x, rfl⟩) (fun v _ _ => ⟨v, rfl⟩) b r n D left cnt hit h hDone
    (fun x c kl y w' cnt' hkey hlx hv hat hrg hlt hgr hsz hen => by
      obtain ⟨x', ex, rfl, hwx⟩ := Maps.keyOf_int_inv Try.underlying3 hkey
      injection ex with _ ex
      subst ex
      obtain ⟨u, hfu, hy⟩ := atKey_some ha hat
      have e1 := rawE_inv (d := y.1) (ps := y.2) hv
      rw [hy] at e1
      injection e1 with e1
      subst e1
      exact hMore x u w' cnt' hwx hlx hfu hrg hlt hgr hsz hen)

theorem sorted_lt {ks : List Int} (h : ks.Nodup) : (ks.mergeSort fun x y => decide (x ≤ y)).Pairwise (· < ·) := by
  have h1 := List.pairwise_mergeSort (le := fun x y : Int => decide (x ≤ y)) (fun a b c => by simp; omega) (fun a b => by simp; omega) ks
  have h2 : (ks.mergeSort fun x y => decide (x ≤ y)).Nodup := (List.mergeSort_perm ks _).nodup_iff.2 h
  exact (h1.and h2).imp fun ⟨a, b⟩ => by simp at a; omega

/-- what rising answers -/
def Risen (w : World) (f : Int → Option Value) (e : Ending) (w' : World) : Prop :=
  ∃ (v : Value) (ks : List Int), e = .returned v ∧ ks.Pairwise (· < ·) ∧ (∀ k, k ∈ ks ↔ f k ≠ none) ∧ w'.ownsRow w.heap.size 3 1 v ks.length (ks.map (Value.int .i64)) ∧ Keep (fun _ => False) w w'

theorem info_i64 : (Try.prog.info? 3).map (fun i => (i.zero, i.size, i.bytes)) = some (some (.int .i64 0), 1, 8) := by kernel_rfl

theorem risen_end {w wr : World} {f : Int → Option Value} {left : Lit → Bool} {ks : List Int} {g cap nn : Nat} {os : Array Obj} {cur : Array Value} (hl0 : ∀ kl, left kl = false) (hc : Coll f left ks) (hk : Keep (fun _ => False) w wr)
    (hb : wr.heap[g]? = some (.cells cur 3 (0, 0))) (hg : w.heap.size ≤ g) (h1 : ks.length ≤ cap) (h2 : cap ≤ maxLen) (h3 : cur.size = cap * 1) :
    Risen w f (.returned (.slice (some ⟨g, 0, none⟩) ks.length cap)) (grow (putRow (Value.int .i64) (Sort.ahead wr nn) g 0 (ks.mergeSort fun x y => decide (x ≤ y)).toArray) os) := by
  have hl2 : (ks.mergeSort fun x y => decide (x ≤ y)).length = ks.length := List.length_mergeSort ks
  refine ⟨_, ks.mergeSort fun x y => decide (x ≤ y), rfl, sorted_lt hc.1, fun k => ?_, ?_, ?_⟩
  · rw [List.mem_mergeSort, hc.2 k]
    simp [hl0]
  · rw [hl2]; exact ownsRow_sortedI (n := nn) (os := os) (ts := ks.mergeSort fun x y => decide (x ≤ y)) hl2 hg hb h1 h2 h3
  · exact hk.grownNew (grownBy_sortedI (w := wr) (g := g) (n := nn) (os := os) (ks.mergeSort fun x y => decide (x ≤ y)).toArray) fun k e => .inr (by injection e with e; omega)

set_option maxRecDepth 100000 in
set_option maxHeartbeats 2000000 in
theorem rising_T (b : Nat) (f : Int → Option Value) (w : World) (hm : MapIs w b f) (hs : Segs f) :
    Calls Try.prog 50 #[.map (some b)] w (Risen w f) := by
  obtain ⟨i0, hi, hz0, hz1, hz2⟩ := info_parts info_i64
  obtain ⟨D, hD, ha⟩ := hm
  have hn := MapIs.room hD ha hs
  obtain ⟨n, en⟩ : ∃ n, n = Maps.size D := ⟨_, rfl⟩
  rw [← en] at hD hn
  have HA := hide ha
  have hbl := hD.lt
  have EN := hide en
  clear ha hs en
  go_enter Try.func50, Try.ntmps50
  go_wp2_with (first
    | (at_range; refine wpList_range_own _ rfl _ 65 rfl 3 33 kint mapT rawE b n D rfl hD ?_; intro w0 hrg0 hg0 hs0)
    | go_in)
  go_frame
  go_loopw [3] (fun v wr => ∃ (left : Lit → Bool) (cnt : Nat) (ks : List Int), wr.ranges Try.prog 3 rawE b w.heap.size n D left cnt ∧
      wr.ownsRow (w.heap.size + 1) 3 1 v ks.length (ks.map (Value.int .i64)) ∧ Hid (Coll f left ks) ∧ ks.length + cnt ≤ n ∧ Hid (Keep (fun _ => False) w wr))
    (fun _ wr => wr.rangeLeft b w.heap.size)
  case atStart =>
    exact ⟨_, _, [], hrg0, World.ownsRow_nil _ _ _ _, coll_start HA.out, by rw [EN.out]; simp, Keep.grown hg0 fun _ e => by cases e⟩
  case round =>
    obtain ⟨left, cnt, ks, hrg, hrow, HC, hlen, HK⟩ := hrel
    go_wp2_with (first
      | (at_next; refine wpList_next_raw rfl _ rfl b w.heap.size n D f _ _ rfl hrg HA.out ?_ ?_)
      | go_in)
    · intro hc0 hl0
      rcases hrow.2 with ⟨hnil, hk0⟩ | ⟨g, cap, cur, hv, hbase, hb, h1, h2, h3, h4⟩
      · subst hnil
        obtain rfl : ks = [] := List.eq_nil_of_length_eq_zero hk0
        clear hrg
        go_wp2_with (go_at_call 60; refine (Try.slices_Sort_int_none none 0 _).mono ?_; rintro e w' ⟨rfl, rfl⟩)
        go_ret
        exact ⟨_, [], rfl, List.Pairwise.nil, fun k => by rw [HC.out.2 k]; simp [hl0], World.ownsRow_nil _ _ _ _, HK.out⟩
      · subst hv
        have hH : Holds (Value.int .i64) wr g 0 ks.toArray := holds_of_blockI hb (by simpa using h4)
        have hgl : g < wr.heap.size := (Array.getElem?_eq_some_iff.1 hb).1
        have hsort := Try.slices_Sort_int g 0 cap ks wr hH hgl (by omega)
        have HE : Hid (∀ nn os, Risen w f (.returned (.slice (some ⟨g, 0, none⟩) ks.length cap)) (grow (putRow (Value.int .i64) (Sort.ahead wr nn) g 0 (ks.mergeSort fun x y => decide (x ≤ y)).toArray) os)) := fun nn os =>
          risen_end hl0 HC.out HK.out hb (by omega) h1 h2 h3
        clear hrg hH
        go_wp2_with (go_at_call 60; refine hsort.mono ?_; rintro e w' ⟨rfl, nn, os, rfl⟩)
        go_ret
        exact HE.out nn os
    · intro x c w1 cnt1 hwx hlx hfu hrg1 hlt hg1 hs1 hen
      have hm0 : wr.rangeLeft b w.heap.size = cnt := hrg.left_eq
      have hrow1 := hrow.kept hg1 (by
        cases hob : u3.ownBlock with
        | none => exact Or.inl rfl
        | some g => exact Or.inr (fun e => by have := (hrow.lt g hob).1; injection e with e; omega))
      have HK1 : Hid (Keep (fun _ => False) w w1) := HK.out.grownNew hg1 fun k e => .inr (by injection e with e; omega)
      have HC1 := hide (coll_step HC.out hlx (by rw [hfu]; simp))
      have hsz1 := HK1.out.size
      have hw1s : w.heap.size < w1.heap.size := by
        obtain ⟨_, _, _, _, _, _, _, _, _, hit, _⟩ := hrg1
        exact (Array.getElem?_eq_some_iff.1 hit).1
      clear HK HC hrow hrg hfu hs1
      go_wp2_with (first
        | (at_builtin; refine wpList_append_own_at _ rfl _ _ 34 rfl (w.heap.size + 1) 3 i0 (.int .i64 0) 1 8 Try.underlying34 hi hz0 hz1 hz2 rfl (by decide) _ _ _ rfl (hrow1.alloc _) ⟨w1.heap.size, 0, none⟩ 1 1 [.int .i64 x] rfl rfl ?c1 ?c2 ?c3 ?c4 ?c5 ?_)
        | go_in)
      case c1 =>
        intro j u hj
        match j, hj with
        | 0, hj => simp at hj; subst hj; simp [Addr.add]
      case c2 => intro u hu; simp at hu; subst hu; rfl
      case c3 => unfold maxLen; omega
      case c4 => omega
      case c5 => simp; omega
      · intro v' w4 hown' hgrow _ hloc
        have hrg4 := (hrg1.alloc (.cells #[.int .i64 x] 3)).kept hgrow (fun e => by have := ((hrow1.alloc (.cells #[.int .i64 x] 3)).lt b e.symm).1; omega) (fun e => by have := ((hrow1.alloc (.cells #[.int .i64 x] 3)).lt _ e.symm).1; omega)
        have HK4 : Hid (Keep (fun _ => False) w w4) := (HK1.out.more (Keep.alloc _ _ _)).grownNew hgrow fun k e => .inr (by have := ((hrow1.alloc (.cells #[.int .i64 x] 3)).lt k e).1; omega)
        have hrow4 : w4.ownsRow (w.heap.size + 1) 3 1 v' (ks ++ [x]).length ((ks ++ [x]).map (Value.int .i64)) := by simpa using hown'
        clear hown' hgrow hloc hrow1 hrg1 HK1
        go_wp2
        go_roundw
        case rel => exact ⟨_, cnt1, ks ++ [x], hrg4, hrow4, HC1, by simp; omega, HK4⟩
        case measure => rw [hrg4.left_eq, hm0]; omega

set_option maxRecDepth 100000 in
set_option maxHeartbeats 2000000 in
theorem rising_O (b : Nat) (f : Int → Option Value) (w : World) (hm : MapIs w b f) (hs : Segs f) :
    Calls Try.prog 44 #[.map (some b)] w (Risen w f) := by
  obtain ⟨i0, hi, hz0, hz1, hz2⟩ := info_parts info_i64
  obtain ⟨D, hD, ha⟩ := hm
  have hn := MapIs.room hD ha hs
  obtain ⟨n, en⟩ : ∃ n, n = Maps.size D := ⟨_, rfl⟩
  rw [← en] at hD hn
  have HA := hide ha
  have hbl := hD.lt
  have EN := hide en
  clear ha hs en
  go_enter Try.func44, Try.ntmps44
  go_wp2_with (first
    | (at_range; refine wpList_range_own _ rfl _ 66 rfl 3 71 kint mapO rawE b n D rfl hD ?_; intro w0 hrg0 hg0 hs0)
    | go_in)
  go_frame
  go_loopw [3] (fun v wr => ∃ (left : Lit → Bool) (cnt : Nat) (ks : List Int), wr.ranges Try.prog 3 rawE b w.heap.size n D left cnt ∧
      wr.ownsRow (w.heap.size + 1) 3 1 v ks.length (ks.map (Value.int .i64)) ∧ Hid (Coll f left ks) ∧ ks.length + cnt ≤ n ∧ Hid (Keep (fun _ => False) w wr))
    (fun _ wr => wr.rangeLeft b w.heap.size)
  case atStart =>
    exact ⟨_, _, [], hrg0, World.ownsRow_nil _ _ _ _, coll_start HA.out, by rw [EN.out]; simp, Keep.grown hg0 fun _ e => by cases e⟩
  case round =>
    obtain ⟨left, cnt, ks, hrg, hrow, HC, hlen, HK⟩ := hrel
    go_wp2_with (first
      | (at_next; refine wpList_next_raw rfl _ rfl b w.heap.size n D f _ _ rfl hrg HA.out ?_ ?_)
      | go_in)
    · intro hc0 hl0
      rcases hrow.2 with ⟨hnil, hk0⟩ | ⟨g, cap, cur, hv, hbase, hb, h1, h2, h3, h4⟩
      · subst hnil
        obtain rfl : ks = [] := List.eq_nil_of_length_eq_zero hk0
        clear hrg
        go_wp2_with (go_at_call 60; refine (Try.slices_Sort_int_none none 0 _).mono ?_; rintro e w' ⟨rfl, rfl⟩)
        go_ret
        exact ⟨_, [], rfl, List.Pairwise.nil, fun k => by rw [HC.out.2 k]; simp [hl0], World.ownsRow_nil _ _ _ _, HK.out⟩
      · subst hv
        have hH : Holds (Value.int .i64) wr g 0 ks.toArray := holds_of_blockI hb (by simpa using h4)
        have hgl : g < wr.heap.size := (Array.getElem?_eq_some_iff.1 hb).1
        have hsort := Try.slices_Sort_int g 0 cap ks wr hH hgl (by omega)
        have HE : Hid (∀ nn os, Risen w f (.returned (.slice (some ⟨g, 0, none⟩) ks.length cap)) (grow (putRow (Value.int .i64) (Sort.ahead wr nn) g 0 (ks.mergeSort fun x y => decide (x ≤ y)).toArray) os)) := fun nn os =>
          risen_end hl0 HC.out HK.out hb (by omega) h1 h2 h3
        clear hrg hH
        go_wp2_with (go_at_call 60; refine hsort.mono ?_; rintro e w' ⟨rfl, nn, os, rfl⟩)
        go_ret
        exact HE.out nn os
    · intro x c w1 cnt1 hwx hlx hfu hrg1 hlt hg1 hs1 hen
      have hm0 : wr.rangeLeft b w.heap.size = cnt := hrg.left_eq
      have hrow1 := hrow.kept hg1 (by
        cases hob : u3.ownBlock with
        | none => exact Or.inl rfl
        | some g => exact Or.inr (fun e => by have := (hrow.lt g hob).1; injection e with e; omega))
      have HK1 : Hid (Keep (fun _ => False) w w1) := HK.out.grownNew hg1 fun k e => .inr (by injection e with e; omega)
      have HC1 := hide (coll_step HC.out hlx (by rw [hfu]; simp))
      have hsz1 := HK1.out.size
      have hw1s : w.heap.size < w1.heap.size := by
        obtain ⟨_, _, _, _, _, _, _, _, _, hit, _⟩ := hrg1
        exact (Array.getElem?_eq_some_iff.1 hit).1
      clear HK HC hrow hrg hfu hs1
      go_wp2_with (first
        | (at_builtin; refine wpList_append_own_at _ rfl _ _ 34 rfl (w.heap.size + 1) 3 i0 (.int .i64 0) 1 8 Try.underlying34 hi hz0 hz1 hz2 rfl (by decide) _ _ _ rfl (hrow1.alloc _) ⟨w1.heap.size, 0, none⟩ 1 1 [.int .i64 x] rfl rfl ?c1 ?c2 ?c3 ?c4 ?c5 ?_)
        | go_in)
      case c1 =>
        intro j u hj
        match j, hj with
        | 0, hj => simp at hj; subst hj; simp [Addr.add]
      case c2 => intro u hu; simp at hu; subst hu; rfl
      case c3 => unfold maxLen; omega
      case c4 => omega
      case c5 => simp; omega
      · intro v' w4 hown' hgrow _ hloc
        have hrg4 := (hrg1.alloc (.cells #[.int .i64 x] 3)).kept hgrow (fun e => by have := ((hrow1.alloc (.cells #[.int .i64 x] 3)).lt b e.symm).1; omega) (fun e => by have := ((hrow1.alloc (.cells #[.int .i64 x] 3)).lt _ e.symm).1; omega)
        have HK4 : Hid (Keep (fun _ => False) w w4) := (HK1.out.more (Keep.alloc _ _ _)).grownNew hgrow fun k e => .inr (by have := ((hrow1.alloc (.cells #[.int .i64 x] 3)).lt k e).1; omega)
        have hrow4 : w4.ownsRow (w.heap.size + 1) 3 1 v' (ks ++ [x]).length ((ks ++ [x]).map (Value.int .i64)) := by simpa using hown'
        clear hown' hgrow hloc hrow1 hrg1 HK1
        go_wp2
        go_roundw
        case rel => exact ⟨_, cnt1, ks ++ [x], hrg4, hrow4, HC1, by simp; omega, HK4⟩
        case measure => rw [hrg4.left_eq, hm0]; omega

end Go.Proofs.Ytilpidioengnbaa
