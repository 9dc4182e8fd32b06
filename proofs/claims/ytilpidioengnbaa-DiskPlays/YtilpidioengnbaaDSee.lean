/- The laws' seen, lost: what a disk tells of its segments. -/
import Derived.Test.YtilpidioengnbaaDThk
namespace Go.Proofs.Ytilpidioengnbaa
open Go.RowKit Go.Lib

/-- cells of a list of segments -/
def SegCells (w : World) (B : Nat) (xs : List Value) (L : List (Int × List Nat)) : Prop :=
  xs.length = L.length * 2 ∧ ∀ j (h : j < L.length), xs[2 * j]? = some (.int .i64 L[j].1) ∧ ∃ v, xs[2 * j + 1]? = some v ∧ Row w v L[j].2 ∧ ∀ g, v.ownBlock = some g → B ≤ g

theorem SegCells.nil (w : World) (B : Nat) : SegCells w B [] [] := ⟨rfl, fun j h => by cases h⟩
theorem SegCells.keep {w w' : World} {B : Nat} {xs : List Value} {L : List (Int × List Nat)} (h : SegCells w B xs L) {T : Nat → Prop} (hk : Keep T w w') (hT : ∀ g, B ≤ g → g < w.heap.size → ¬ T g) : SegCells w' B xs L :=
  ⟨h.1, fun j hj => by
    obtain ⟨h1, v, h2, h3, h4⟩ := h.2 j hj
    exact ⟨h1, v, h2, h3.keep hk fun g hg => hT g (h4 g hg) (h3.1.lt g hg).2, h4⟩⟩
theorem SegCells.add {w : World} {B : Nat} {xs : List Value} {L : List (Int × List Nat)} (h : SegCells w B xs L) (k : Int) {v : Value} {b : List Nat} (hr : Row w v b) (hb : ∀ g, v.ownBlock = some g → B ≤ g) : SegCells w B (xs ++ [.int .i64 k, v]) (L ++ [(k, b)]) := by
  obtain ⟨h0, h⟩ := h
  refine ⟨by simp; omega, fun j hj => ?_⟩
  rw [List.length_append, List.length_singleton] at hj
  by_cases e : j < L.length
  · obtain ⟨h1, v', h2, h3, h4⟩ := h j e
    rw [List.getElem_append_left e, List.getElem?_append_left (by omega), List.getElem?_append_left (by omega)]
    exact ⟨h1, v', h2, h3, h4⟩
  · obtain rfl : j = L.length := by omega
    rw [List.getElem_append_right (Nat.le_refl _), List.getElem?_append_right (by omega), List.getElem?_append_right (by omega)]
    rw [show 2 * L.length - xs.length = 0 by omega, show 2 * L.length + 1 - xs.length = 1 by omega]
    simp only [Nat.sub_self, List.getElem_cons_zero]
    exact ⟨rfl, v, rfl, hr, hb⟩

/-- what a list of segments reads -/
def RdS (lo : Nat) (w : World) (a : Option Addr) (L : List (Int × List Nat)) : Prop :=
  L.length ≤ 1099511627776 ∧ ∀ j (h : j < L.length), ∃ g, a = some ⟨g, 0, none⟩ ∧ lo ≤ g ∧ w.cell? ⟨g, 2 * j, none⟩ = some (.int .i64 L[j].1) ∧
    ∃ v, w.cell? ⟨g, 2 * j + 1, none⟩ = some v ∧ Row w v L[j].2 ∧ ∀ g, v.ownBlock = some g → lo ≤ g

theorem RdS.keep {lo : Nat} {w w' : World} {a : Option Addr} {L : List (Int × List Nat)} (h : RdS lo w a L) {T : Nat → Prop} (hk : Keep T w w') (hT : ∀ g, lo ≤ g → g < w.heap.size → ¬ T g) : RdS lo w' a L :=
  ⟨h.1, fun j hj => by
    obtain ⟨g, rfl, h1, h2, v, h3, h4, h5⟩ := h.2 j hj
    have hn := hT g h1 (block_lt_of_cell h2)
    exact ⟨g, rfl, h1, hk.cell h2 hn, v, hk.cell h3 hn, h4.keep hk fun g' e => hT g' (h5 g' e) (h4.1.lt g' e).2, h5⟩⟩
theorem RdS.low {lo lo' : Nat} {w : World} {a : Option Addr} {L : List (Int × List Nat)} (h : RdS lo w a L) (hl : lo' ≤ lo) : RdS lo' w a L :=
  ⟨h.1, fun j hj => by
    obtain ⟨g, e, h1, h2, v, h3, h4, h5⟩ := h.2 j hj
    exact ⟨g, e, Nat.le_trans hl h1, h2, v, h3, h4, fun g' e' => Nat.le_trans hl (h5 g' e')⟩⟩

theorem rdS_of {w : World} {B n c : Nat} {a : Option Addr} {xs : List Value} {L : List (Int × List Nat)} (ho : w.ownsRow B 77 2 (.slice a n c) n xs) (hc : SegCells w B xs L) (hl : L.length ≤ 1099511627776) : RdS B w a L := by
  refine ⟨hl, fun j hj => ?_⟩
  obtain ⟨h1, v, h2, h3, h4⟩ := hc.2 j hj
  rcases ho.2 with ⟨e, h0⟩ | ⟨g, cap, cur, e, hg, _⟩
  · have := ho.1; have := hc.1; omega
  · injection e with e _ _
    subst e
    have c1 := ho.cells (g := g) rfl (2 * j) _ h1
    have c2 := ho.cells (g := g) rfl (2 * j + 1) _ h2
    rw [Addr.add_lit, Nat.zero_add] at c1 c2
    exact ⟨g, rfl, hg, c1, v, c2, h3, h4⟩

/-- the segments that are there -/
def Lst (s : St) (L : List (Int × List Nat)) : Prop := (L.map Prod.fst).Pairwise (· < ·) ∧ ∀ k b, (k, b) ∈ L ↔ s.there k = some b

theorem info_seg : (Try.prog.info? 77).map (fun i => (i.zero, i.size, i.bytes)) = some (some (.agg #[.int .i64 0, .slice none 0 0]), 2, 32) := by kernel_rfl

/-- what seen answers -/
def SeenAs (w : World) (s : St) (e : Ending) (w' : World) : Prop :=
  ∃ (a : Option Addr) (c : Nat) (L : List (Int × List Nat)), e = .returned (.tuple #[.slice a L.length c, .bool (!s.down)]) ∧ RdS w.heap.size w' a L ∧ (s.down = false → Lst s L) ∧ (s.down = true → L = []) ∧ Keep (fun _ => False) w w'

theorem lst_of {s : St} {ks : List Int} (h1 : ks.Pairwise (· < ·)) (h2 : ∀ k, k ∈ ks ↔ s.there k ≠ none) : Lst s (ks.map fun k => (k, s.bytes k)) := by
  refine ⟨by rw [List.map_map]; simpa [Function.comp_def] using h1, fun k b => ?_⟩
  constructor
  · intro h
    obtain ⟨k', hk, e⟩ := List.mem_map.1 h
    injection e with e1 e2
    subst e1 e2
    obtain ⟨l, hl⟩ := Option.ne_none_iff_exists'.1 ((h2 k').1 hk)
    rw [hl, St.bytes, hl]; rfl
  · intro h
    exact List.mem_map.2 ⟨k, (h2 k).2 (by rw [h]; simp), by rw [St.bytes, h]; rfl⟩

set_option maxRecDepth 100000 in
set_option maxHeartbeats 4000000 in
theorem seen_any (S : Nat → Prop) (w : World) (p : Nat) (s : St) (h : DAt S w p s) (ok : Ok s) :
    Calls Try.prog 14 #[.pointer (some ⟨p, 0, none⟩)] w (SeenAs w s) := by
  have HLi := hide (list_any S w p s h ok)
  have H := hide h
  have HOk := hide ok
  cases hd : s.down with
  | true =>
    have HD := hide hd
    have HLi' : Hid (Calls Try.prog 28 #[.pointer (some ⟨p, 0, none⟩)] w fun e w' => ∃ a c, ∃ n : Nat, e = .returned (.tuple #[.slice a n c, .int .i64 56]) ∧ Keep (fun _ => False) w w') := HLi.out.mono fun e w' ⟨v, ks, e1, _, _, ho, hk⟩ => by
      obtain ⟨a, c, hv⟩ := ownsRow_shape ho
      subst hv
      rw [HD.out] at e1
      exact ⟨a, c, _, e1, hk⟩
    clear h ok hd HLi
    go_enter Try.func14, Try.ntmps14
    go_wp2_with (go_at_call 28; refine HLi'.out.mono ?_; rintro e w1 ⟨a, c, n, rfl, hk⟩)
    go_ret2
    exact ⟨none, 0, [], by rw [HD.out]; rfl, ⟨by simp, fun j h => by cases h⟩, (fun e => by rw [HD.out] at e; cases e), (fun _ => rfl), hk⟩
  | false =>
    obtain ⟨i0, hi, hz0, hz1, hz2⟩ := info_parts info_seg
    have HD := hide hd
    have HLi' : Hid (Calls Try.prog 28 #[.pointer (some ⟨p, 0, none⟩)] w fun e w' => ∃ a c, ∃ ks : List Int, e = .returned (.tuple #[.slice a ks.length c, .int .i64 0]) ∧ ks.Pairwise (· < ·) ∧ (∀ k, k ∈ ks ↔ s.there k ≠ none) ∧ w'.ownsRow w.heap.size 3 1 (.slice a ks.length c) ks.length (ks.map (Value.int .i64)) ∧ Keep (fun _ => False) w w') := HLi.out.mono fun e w' ⟨v, ks, e1, e2, e3, ho, hk⟩ => by
      obtain ⟨a, c, hv⟩ := ownsRow_shape ho
      subst hv
      rw [HD.out] at e1
      exact ⟨a, c, ks, e1, e2, (fun k => by rw [e3 k]; simp [HD.out]), ho, hk⟩
    clear h ok hd HLi
    go_enter Try.func14, Try.ntmps14
    go_wp2_with (go_at_call 28
                 refine HLi'.out.mono ?_
                 rintro e w1 ⟨av, cv, ks, rfl, hs, hm, ho, hk⟩
                 have hsg : ∀ x ∈ ks, 1 ≤ x ∧ x ≤ 1099511627776 := fun x hx => HOk.out.seg x (by
                   have := (hm x).1 hx
                   intro e
                   rw [held_iff] at e
                   exact this e.1)
                 have hkl : ks.length ≤ 1099511627776 := keys_bound (hs.imp fun h => by omega) fun x hx => by have := hsg x hx; omega
                 obtain ⟨m, em⟩ : ∃ m, m = ks.length := ⟨_, rfl⟩
                 have HO := hide ho
                 have HM := hide hm
                 have HPW := hide hs
                 have HEM := hide em
                 have HK := hide hk
                 have HSG := hide hsg
                 rw [← em] at hkl ⊢
                 clear hs hm ho hk em hsg)
    have HC0 : Hid (∀ i (hi : i < ks.length), ∃ g, av = some ⟨g, 0, none⟩ ∧ w.heap.size ≤ g ∧ w1.cell? ⟨g, i, none⟩ = some (.int .i64 ks[i])) := fun i hi => ownsRow_ints HO.out i hi
    have hsz1 := HK.out.size
    go_loopw [6, 7] (fun v iv wr => ∃ (q : Nat) (xs : List Value), q ≤ m ∧ iv = .int .i64 (q : Nat) ∧ wr.ownsRow w1.heap.size 77 2 v q xs ∧ Hid (SegCells wr w1.heap.size xs ((ks.take q).map fun k => (k, s.bytes k)) ∧ Keep (fun _ => False) w1 wr)) (fun _ iv _ => m - (intOf iv).toNat)
    case atStart => exact ⟨0, [], Nat.zero_le _, rfl, World.ownsRow_nil _ _ _ _, by simpa using SegCells.nil _ _, Keep.refl _ _⟩
    case round =>
      obtain ⟨q, xs, hqm, rfl, hrow, HL⟩ := hrel
      by_cases hq : q < m
      · have hqk : q < ks.length := by rw [← HEM.out]; exact hq
        obtain ⟨g, rfl, hg, hcell⟩ := HC0.out q hqk
        have hkm := List.getElem_mem hqk
        have hsg := HSG.out _ hkm
        have kwr : Keep (fun _ => False) w wr := HK.out.more HL.out.2
        have HR : Hid (Calls Try.prog 27 #[.pointer (some ⟨p, 0, none⟩), .int .i64 ks[q]] wr fun e w' => ∃ (ba : Option Addr) (bn bc : Nat), e = .returned (.tuple #[.slice ba bn bc, .int .i64 0]) ∧ Row w' (.slice ba bn bc) (s.bytes ks[q]) ∧ Keep (fun _ => False) wr w' ∧ ∀ g, (Value.slice ba bn bc).ownBlock = some g → wr.heap.size ≤ g) := by
          refine (read_any S wr p s ks[q] (H.out.stay kwr fun _ _ _ f => f) HOk.out (by omega) (by omega)).mono fun e w' ⟨v, e1, hr, hk, hn⟩ => ?_
          obtain ⟨l, hl⟩ := Option.ne_none_iff_exists'.1 ((HM.out _).1 hkm)
          rw [St.find, if_neg (by rw [HD.out]; decide), if_neg (by rw [hl]; simp)] at e1
          rw [if_neg (by rw [HD.out]; decide)] at hr
          obtain ⟨a, c, hv⟩ := ownsRow_shape hr.1
          subst hv
          exact ⟨a, _, c, e1, hr, hk, hn⟩
        have c0 : wr.cell? ⟨g, q, none⟩ = some (.int .i64 ks[q]) := HL.out.2.cell hcell fun f => f
        have HC1 : Hid (0 < q → ∃ y : Int, y < ks[q] ∧ w1.cell? ⟨g, q - 1, none⟩ = some (.int .i64 y)) := fun h0 => by
          obtain ⟨g', e, _, hc'⟩ := HC0.out (q - 1) (by omega)
          injection e with e
          injection e with e _
          subst e
          exact ⟨_, (List.pairwise_iff_getElem.1 HPW.out) (q - 1) q (by omega) hqk (by omega), hc'⟩
        have HTk : Hid ((ks.take (q + 1)).map (fun k => (k, s.bytes k)) = (ks.take q).map (fun k => (k, s.bytes k)) ++ [(ks[q], s.bytes ks[q])]) := by
          show _ = _
          rw [List.take_succ_eq_append_getElem hqk, List.map_append]; rfl
        have hq0 : (q : Int) < m := by omega
        have hw : wrap64 ((q : Int) + 1) = ((q + 1 : Nat) : Int) := wr' (by omega) (by omega) (by omega)
        have HQ := hide (show q + 1 ≤ m by omega)
        have HQ0 := hide hq
        have HCell := hide hcell
        generalize ks[q] = kq at *
        generalize s.bytes kq = bq at *
        clear hkm hsg kwr hqm hcell
        by_cases h0 : 0 < q
        · obtain ⟨y, hy, hcy⟩ := HC1.out h0
          have hq1 : (0 : Int) < q := by omega
          have hyn : ¬ y ≥ kq := by omega
          have hq2 : ((q - 1 : Nat) : Int) < m := by omega
          have hq3 : (0 : Int) ≤ ((q - 1 : Nat) : Int) := by omega
          have hw2 : IntKind.i64.wrap ((q : Int) - 1) = ((q - 1 : Nat) : Int) := by rw [Go.Proofs.Ytilpidioengnbaa.wr (by omega) (by omega)]; omega
          go_wp2_with (go_at_call 27
                       refine HR.out.mono ?_
                       rintro e w2 ⟨ba, bn, bc, rfl, hrw, hk2, hn2⟩
                       have c0' := hk2.cell c0 fun f => f
                       have c1' := hk2.cell (HL.out.2.cell hcy fun f => f) fun f => f
                       have HRw := hide hrw
                       have HK2 := hide hk2
                       have HN2 := hide hn2
                       clear hrw hk2 hn2)
          go_quiet (fail)
          obtain ⟨w3, hw3⟩ : ∃ w3, w3 = w2.drewN nq := ⟨_, rfl⟩
          have HK3 : Hid (Keep (fun _ => False) w2 w3) := by rw [hw3]; exact ⟨rfl, rfl, rfl, Nat.le_refl _, fun _ _ _ => rfl⟩
          have c0'' : w3.cell? ⟨g, q, none⟩ = some (.int .i64 kq) := HK3.out.cell c0' fun f => f
          have hrow3 := ownsRow_keep hrow (HK2.out.more HK3.out) fun _ _ f => f
          have hsz3 := (HL.out.2.more (HK2.out.more HK3.out)).size
          rw [← hw3]
          clear hw3
          go_wp2_with (first
            | (at_builtin; refine wpList_append_own_at _ rfl _ _ 45 rfl w1.heap.size 77 i0 (.agg #[.int .i64 0, .slice none 0 0]) 2 32 Try.underlying45 hi hz0 hz1 hz2 rfl (by decide) _ _ _ rfl (hrow3.alloc _) ⟨w3.heap.size, 0, none⟩ 1 1 [.int .i64 kq, .slice ba bn bc] rfl rfl ?c1 ?c2 ?c3 ?c4 ?c5 ?_)
            | go_in)
          case c1 =>
            intro j u hj
            match j, hj with
            | 0, hj => simp at hj; subst hj; simp [Addr.add]
            | 1, hj => simp at hj; subst hj; simp [Addr.add]
          case c2 => intro u hu; simp at hu; rcases hu with rfl | rfl <;> rfl
          case c3 => have := HQ.out; unfold maxLen; omega
          case c4 => have := HQ.out; omega
          case c5 => simp; omega
          · intro v' w4 hown' hgrow _ hloc
            have HL4 : Hid (SegCells w4 w1.heap.size (xs ++ [.int .i64 kq, .slice ba bn bc]) ((ks.take (q + 1)).map fun k => (k, s.bytes k)) ∧ Keep (fun _ => False) w1 w4) := by
              have k4 : Keep (fun i => u6.ownBlock = some i) w3 w4 := ((Keep.alloc _ _ _).more (Keep.grown hgrow fun k e => e))
              have k24 : Keep (fun i => u6.ownBlock = some i) wr w4 := ((HK2.out.more HK3.out).mono fun _ f => f.elim).more k4
              have hob : ∀ i, u6.ownBlock = some i → w1.heap.size ≤ i ∧ i < wr.heap.size := fun i e => hrow.lt i e
              refine ⟨?_, HL.out.2.trans k24 fun i e => .inr (hob i e).1⟩
              rw [HTk.out]
              have hsc := HL.out.1
              have hnm : ∀ v l, Row wr v l → ∀ g, v.ownBlock = some g → u6.ownBlock ≠ some g := fun v l hr g e1 e2 => by
                obtain ⟨cs, hc⟩ := row_blk hr e1
                rcases hrow.2 with ⟨h1, _⟩ | ⟨g', cap, cur, h1, _, h2, _⟩
                · rw [h1] at e2; cases e2
                · rw [h1] at e2
                  have e3 : g' = g := by injection e2
                  rw [e3, hc] at h2
                  injection h2 with h2
                  simp at h2
              have h5 : SegCells w4 w1.heap.size xs ((ks.take q).map fun k => (k, s.bytes k)) := ⟨hsc.1, fun j hj => by
                obtain ⟨a1, v, a2, a3, a4⟩ := hsc.2 j hj
                exact ⟨a1, v, a2, a3.keep k24 fun g hg e => hnm v _ a3 g hg e, a4⟩⟩
              refine h5.add kq ((HRw.out.keep HK3.out fun _ _ f => f).keep k4 fun g hg e => ?_) fun g hg => ?_
              · have h6 := HN2.out g hg
                have h7 := (hob g e).2
                omega
              · have h6 := HN2.out g hg
                have h7 := HL.out.2.size
                omega
            have hown4 : w4.ownsRow w1.heap.size 77 2 v' (q + 1) (xs ++ [.int .i64 kq, .slice ba bn bc]) := hown'
            clear hown' hgrow hloc hrow3 hrow
            go_wp2
            go_roundw
            case rel => exact ⟨q + 1, _, HQ.out, rfl, hown4, HL4⟩
            case measure => show m - (((q + 1 : Nat) : Int)).toNat < m - ((q : Int)).toNat; have := HQ.out; omega
        · have hq1 : ¬ (0 : Int) < q := by omega
          clear HC1
          go_wp2_with (go_at_call 27
                       refine HR.out.mono ?_
                       rintro e w2 ⟨ba, bn, bc, rfl, hrw, hk2, hn2⟩
                       have c0' := hk2.cell c0 fun f => f
                       have HRw := hide hrw
                       have HK2 := hide hk2
                       have HN2 := hide hn2
                       clear hrw hk2 hn2)
          go_quiet (fail)
          obtain ⟨w3, hw3⟩ : ∃ w3, w3 = w2.drewN nq := ⟨_, rfl⟩
          have HK3 : Hid (Keep (fun _ => False) w2 w3) := by rw [hw3]; exact ⟨rfl, rfl, rfl, Nat.le_refl _, fun _ _ _ => rfl⟩
          have c0'' : w3.cell? ⟨g, q, none⟩ = some (.int .i64 kq) := HK3.out.cell c0' fun f => f
          have hrow3 := ownsRow_keep hrow (HK2.out.more HK3.out) fun _ _ f => f
          have hsz3 := (HL.out.2.more (HK2.out.more HK3.out)).size
          rw [← hw3]
          clear hw3
          go_wp2_with (first
            | (at_builtin; refine wpList_append_own_at _ rfl _ _ 45 rfl w1.heap.size 77 i0 (.agg #[.int .i64 0, .slice none 0 0]) 2 32 Try.underlying45 hi hz0 hz1 hz2 rfl (by decide) _ _ _ rfl (hrow3.alloc _) ⟨w3.heap.size, 0, none⟩ 1 1 [.int .i64 kq, .slice ba bn bc] rfl rfl ?c1 ?c2 ?c3 ?c4 ?c5 ?_)
            | go_in)
          case c1 =>
            intro j u hj
            match j, hj with
            | 0, hj => simp at hj; subst hj; simp [Addr.add]
            | 1, hj => simp at hj; subst hj; simp [Addr.add]
          case c2 => intro u hu; simp at hu; rcases hu with rfl | rfl <;> rfl
          case c3 => have := HQ.out; unfold maxLen; omega
          case c4 => have := HQ.out; omega
          case c5 => simp; omega
          · intro v' w4 hown' hgrow _ hloc
            have HL4 : Hid (SegCells w4 w1.heap.size (xs ++ [.int .i64 kq, .slice ba bn bc]) ((ks.take (q + 1)).map fun k => (k, s.bytes k)) ∧ Keep (fun _ => False) w1 w4) := by
              have k4 : Keep (fun i => u6.ownBlock = some i) w3 w4 := ((Keep.alloc _ _ _).more (Keep.grown hgrow fun k e => e))
              have k24 : Keep (fun i => u6.ownBlock = some i) wr w4 := ((HK2.out.more HK3.out).mono fun _ f => f.elim).more k4
              have hob : ∀ i, u6.ownBlock = some i → w1.heap.size ≤ i ∧ i < wr.heap.size := fun i e => hrow.lt i e
              refine ⟨?_, HL.out.2.trans k24 fun i e => .inr (hob i e).1⟩
              rw [HTk.out]
              have hsc := HL.out.1
              have hnm : ∀ v l, Row wr v l → ∀ g, v.ownBlock = some g → u6.ownBlock ≠ some g := fun v l hr g e1 e2 => by
                obtain ⟨cs, hc⟩ := row_blk hr e1
                rcases hrow.2 with ⟨h1, _⟩ | ⟨g', cap, cur, h1, _, h2, _⟩
                · rw [h1] at e2; cases e2
                · rw [h1] at e2
                  have e3 : g' = g := by injection e2
                  rw [e3, hc] at h2
                  injection h2 with h2
                  simp at h2
              have h5 : SegCells w4 w1.heap.size xs ((ks.take q).map fun k => (k, s.bytes k)) := ⟨hsc.1, fun j hj => by
                obtain ⟨a1, v, a2, a3, a4⟩ := hsc.2 j hj
                exact ⟨a1, v, a2, a3.keep k24 fun g hg e => hnm v _ a3 g hg e, a4⟩⟩
              refine h5.add kq ((HRw.out.keep HK3.out fun _ _ f => f).keep k4 fun g hg e => ?_) fun g hg => ?_
              · have h6 := HN2.out g hg
                have h7 := (hob g e).2
                omega
              · have h6 := HN2.out g hg
                have h7 := HL.out.2.size
                omega
            have hown4 : w4.ownsRow w1.heap.size 77 2 v' (q + 1) (xs ++ [.int .i64 kq, .slice ba bn bc]) := hown'
            clear hown' hgrow hloc hrow3 hrow
            go_wp2
            go_roundw
            case rel => exact ⟨q + 1, _, HQ.out, rfl, hown4, HL4⟩
            case measure => show m - (((q + 1 : Nat) : Int)).toNat < m - ((q : Int)).toNat; have := HQ.out; omega
      · obtain rfl : q = m := by omega
        have hqq : ¬ (q : Int) < q := by omega
        obtain ⟨av', cv', hv⟩ := ownsRow_shape hrow
        subst hv
        have HE : Hid (SeenAs w s (.returned (.tuple #[.slice av' q cv', .bool true])) wr) := by
          have hsc := HL.out.1
          rw [HEM.out, List.take_length] at hsc
          have hll : (ks.map fun k => (k, s.bytes k)).length = q := by rw [List.length_map]; exact HEM.out.symm
          refine ⟨av', cv', ks.map fun k => (k, s.bytes k), by rw [hll, HD.out]; rfl, ?_, fun _ => lst_of HPW.out HM.out, (fun e => by rw [HD.out] at e; cases e), HK.out.more HL.out.2⟩
          exact (rdS_of hrow hsc (by rw [hll]; exact hkl)).low hsz1
        clear hq hrow HL
        go_wp2
        go_ret2
        exact HE.out

/-- what lost answers: the segments that are there behind a Crash -/
def LostAs (w : World) (s : St) (z : List Int) (e : Ending) (w' : World) : Prop :=
  ∃ (a : Option Addr) (c : Nat) (L : List (Int × List Nat)) (t : St), e = .returned (.tuple #[.slice a L.length c, .bool true]) ∧ RdS w.heap.size w' a L ∧ Crash s z t ∧ Lst t L ∧ Keep (fun _ => False) w w'

end Go.Proofs.Ytilpidioengnbaa
