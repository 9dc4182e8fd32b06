/- Package cron: Text. -/
import Derived.Test.YtbgioclbjbmicaaDoorXTextF
namespace Go.Proofs.YtbgioclbjbmicaaDoor
open Go.RowKit

theorem runText_any (a b : Nat) (ha : a < 60) (hb : b < 60) (w : World) :
    Calls Tryd.prog 42 #[.int .i64 a, .int .i64 b] w fun e w' => e = .returned (.string ⟨(X.runT a b).toArray⟩) ∧ w' = w := by
  by_cases h : a = b
  · subst h
    have hr : X.runT a a = Lib.decDigits a := if_pos rfl
    rw [hr]
    go_enter Tryd.func42, Tryd.ntmps42
    go_wp2_with (go_at_call 60; refine (Tryd.strconv_Itoa_small a (by omega) _).mono ?_; rintro e w' ⟨rfl, rfl⟩)
    go_ret
    exact ⟨rfl, rfl⟩
  · have hr : X.runT a b = Lib.decDigits a ++ 45 :: Lib.decDigits b := if_neg h
    rw [hr]
    have hne : ((a : Int) == b) = false := by simp; omega
    go_enter Tryd.func42, Tryd.ntmps42
    have s1 := dec_len a (by omega)
    have s2 := dec_len b (by omega)
    generalize hA : Lib.decDigits a = A at *
    generalize hB : Lib.decDigits b = B at *
    have HA := hide hA
    have HB := hide hB
    clear hA hB
    have t1 := Tryd.strconv_Itoa_small a (by omega)
    have t2 := Tryd.strconv_Itoa_small b (by omega)
    rw [HA.out] at t1
    rw [HB.out] at t2
    have T1 := hide t1
    have T2 := hide t2
    clear t1 t2
    go_wp2_with fail
    go_at_call 60
    refine (T1.out _).mono ?_
    rintro e w' ⟨rfl, rfl⟩
    go_wp2_with fail
    go_at_call 60
    refine (T2.out _).mono ?_
    rintro e w' ⟨rfl, rfl⟩
    go_wp2_with fail
    go_ret
    refine ⟨?_, rfl⟩
    show Ending.returned (Value.string (⟨A.toArray⟩ ++ ⟨#[45]⟩ ++ ⟨B.toArray⟩)) = _
    rw [cat3]

structure TxAt (w0 : World) (F : Nat → Bool) (lo hi : Nat) (w : World) : Prop where
  r : ∀ j, j < 60 → w.cell? ⟨w0.heap.size, j, none⟩ = some (.bool (F j))
  b0 : w.cell? ⟨w0.heap.size + 1, 0, none⟩ = some (.int .i64 lo)
  b1 : w.cell? ⟨w0.heap.size + 1, 1, none⟩ = some (.int .i64 hi)
  bel : Below w0.heap.size w0 w
theorem TxAt.keep {w0 w w' : World} {F : Nat → Bool} {lo hi : Nat} (h : TxAt w0 F lo hi w) {B : Nat} (hB : w0.heap.size + 2 ≤ B) (b : Below B w w') : TxAt w0 F lo hi w' :=
  ⟨fun j hj => by rw [b.cell (p := ⟨w0.heap.size, j, none⟩) (show w0.heap.size < B by omega)]; exact h.r j hj,
   by rw [b.cell (p := ⟨w0.heap.size + 1, 0, none⟩) (show w0.heap.size + 1 < B by omega)]; exact h.b0,
   by rw [b.cell (p := ⟨w0.heap.size + 1, 1, none⟩) (show w0.heap.size + 1 < B by omega)]; exact h.b1, h.bel.trans (b.mono (by omega))⟩
theorem TxAt.new (w : World) (F : Nat → Bool) (lo hi : Nat) : TxAt w F lo hi ((w.alloc (.cells (row60 F) 57)).alloc (.cells #[.int .i64 lo, .int .i64 hi] 54)) := by
  have h1 := heap_alloc2_new w (.cells (row60 F) 57) (.cells #[.int .i64 lo, .int .i64 hi] 54)
  have h2 := heap_alloc2_old w (.cells (row60 F) 57) (.cells #[.int .i64 lo, .int .i64 hi] 54)
  refine ⟨fun j hj => ?_, ?_, ?_, Below.put (Below.put (Below.refl _ _) _) _⟩
  · rw [cell_of_row _ _ _ _ _ _ h2]; exact row60_at F j hj
  · rw [cell_of_row _ _ _ _ _ _ h1]; rfl
  · rw [cell_of_row _ _ _ _ _ _ h1]; rfl
set_option maxRecDepth 100000 in
set_option maxHeartbeats 2000000 in
theorem text_any (F : Nat → Bool) (lo hi : Nat) (hl : lo ≤ hi) (hh : hi < 60) (w : World) :
    Calls Tryd.prog 23 #[.agg (row60 F), .agg #[.int .i64 lo, .int .i64 hi]] w fun e w' => e = .returned (.string ⟨(X.textW F lo hi).toArray⟩) ∧ Below w.heap.size w w' := by
  have hs60 := row60_size F
  have heq : ∀ w', (Op.equalIn 10000 57 (.agg (row60 F)) (.agg (row60 (allF lo hi)))).run Tryd.prog w' = .ok (X.isAll F lo hi) w' := fun w' => eql_set 9998 w' _ _
  have hm := guard_set
  go_enter Tryd.func23, Tryd.ntmps23
  go_wp2_with fail
  have hT0 := TxAt.new w F lo hi
  have hsz0 : w.heap.size + 2 ≤ ((w.alloc (.cells (row60 F) 57)).alloc (.cells #[.int .i64 lo, .int .i64 hi] 54)).heap.size := by simp
  generalize ((w.alloc (.cells (row60 F) 57)).alloc (.cells #[.int .i64 lo, .int .i64 hi] 54)) = W0 at *
  have hr : W0.rangeAt w.heap.size 0 (row60 F).toList := row60_range fun j hj => by rw [Nat.zero_add]; exact hT0.r j hj
  have hi0 : (Tryd.prog.info? 57).map (·.size) = some (row60 F).toList.length := by rw [Array.length_toList, row60_size]; exact size_set
  have hlen : (row60 F).toList.length = 60 := by rw [Array.length_toList, row60_size]
  have hu := Tryd.underlying57
  have c0 := hT0.b0
  have c1 := hT0.b1
  generalize hF : row60 F = FF at *
  have hFl : FF.toList.toArray = FF := by simp
  generalize FF.toList = cs at *
  have hcs : Value.agg cs.toArray = .agg FF := by rw [hFl]
  clear hF
  go_region_held3 (fun w' => w'.rangeAt w.heap.size 0 cs ∧ w'.cell? ⟨w.heap.size + 1, 0, none⟩ = some (.int .i64 lo) ∧ w'.cell? ⟨w.heap.size + 1, 1, none⟩ = some (.int .i64 hi)) (first | go_keep_ranges | (exact ⟨fun j v hv => by rw [hb0.cell (p := ⟨w.heap.size, 0 + j, none⟩) (by simp; omega)]; simpa using hr j v hv, by rw [hb0.cell (p := ⟨w.heap.size + 1, 0, none⟩) (by simp; omega)]; simpa using c0, by rw [hb0.cell (p := ⟨w.heap.size + 1, 1, none⟩) (by simp; omega)]; simpa using c1⟩)) ((go_at_call 41; refine (all_any _ _ hl hh _).mono ?_; rintro e w1 ⟨rfl, hb0⟩))
  have hbd : Below W0.heap.size W0 w1 := (Below.refl _ W0).drew.trans hb0
  have hT1 := hT0.keep hsz0 hbd
  have hsz1 : w.heap.size + 2 ≤ w1.heap.size := Nat.le_trans hsz0 hbd.size
  clear hT0 hbd hb0 hr c0 c1 hsz0
  cases hall : X.isAll F lo hi
  · have htx : X.textW F lo hi = Lib.join ((X.runs F hi 61 lo).map fun r => X.runT r.1 r.2) [44] := by unfold X.textW; rw [if_neg (by rw [hall]; simp)]
    have c0 := hT1.b0
    obtain ⟨i0, hiS, hz0, hz1, hz2⟩ := info_parts info_string
    have HT := hide hT1
    have HTX := hide htx
    clear hT1 htx heq hu hi0 hlen hs60 hm hFl
    go_wp2_with fail
    clear c0
    go_loopw [5, 6] (fun y x wx => ∃ (v fuel : Nat) (L : List (Nat × Nat)), x = .int .i64 v ∧ lo ≤ v ∧ v ≤ hi + 1 ∧ hi + 1 ≤ v + fuel ∧ Hid (L ++ X.runs F hi fuel v = X.runs F hi 61 lo) ∧ L.length ≤ v ∧ wx.ownsRow w1.heap.size 9 1 y L.length (strs (L.map runS)) ∧ Below w1.heap.size w1 wx) (fun _ x _ => hi + 1 - (intOf x).toNat)
    case atStart => exact ⟨lo, 61, [], rfl, by omega, by omega, by omega, rfl, by simp, World.ownsRow_nil _ _ _ _, Below.refl _ _⟩
    case round =>
      obtain ⟨v, fuel, L, rfl, v0, v1, v2, HL, hLv, hown, hbx⟩ := hrel
      obtain ⟨WO, rfl⟩ : ∃ WO, WO = wr := ⟨_, rfl⟩
      have hTx := HT.out.keep hsz1 hbx
      have c1 := hTx.b1
      by_cases hv : v ≤ hi
      · obtain ⟨fu, rfl⟩ : ∃ fu, fuel = fu + 1 := ⟨fuel - 1, by omega⟩
        have i0' : (0 : Int) ≤ (v : Int) := by omega
        have i1' : (v : Int) < 60 := by omega
        have cv := hTx.r v (by omega)
        have hstep : X.runs F hi (fu + 1) v = if F v = true then (v, X.runEnd F hi 60 v) :: X.runs F hi fu (X.runEnd F hi 60 v + 1) else X.runs F hi fu (v + 1) := by rw [X.runs, if_pos hv]
        cases hFv : F v
        · rw [hFv] at cv hstep
          have hL2 : L ++ X.runs F hi fu (v + 1) = X.runs F hi 61 lo := by rw [← HL.out, hstep]; simp
          have HL2 := hide hL2
          clear hL2 hstep
          go_wp2_with fail
          exact ⟨⟨v + 1, fu, L, by go_num, by omega, by omega, by omega, HL2, by omega, hown, hbx⟩, by simp [intOf]; omega⟩
        · rw [hFv] at cv hstep
          have hL2 : L ++ (v, X.runEnd F hi 60 v) :: X.runs F hi fu (X.runEnd F hi 60 v + 1) = X.runs F hi 61 lo := by rw [← HL.out, hstep]; simp
          have HL2 := hide hL2
          have hre := X.runEnd_le F hi 60 v hv
          clear hL2 hstep
          go_wp2_with fail
          go_loopw [6] (fun x wy => ∃ u k : Nat, x = .int .i64 u ∧ v ≤ u ∧ u ≤ hi ∧ hi ≤ u + k ∧ Hid (X.runEnd F hi k u = X.runEnd F hi 60 v) ∧ wy = WO) (fun x _ => hi - (intOf x).toNat)
          case atStart => exact ⟨v, 60, rfl, by omega, by omega, by omega, rfl, rfl⟩
          case round =>
            obtain ⟨u, k, rfl, u0, u1, u2, HK, hwo⟩ := hrel
            have hwp := hwo.symm
            subst hwp
            have cu := fun h => hTx.r (u + 1) h
            by_cases hu : u < hi
            · have j1 : (u : Int) < hi := by omega
              have j2 : (u : Int) + 1 < 60 := by omega
              have j3 : (0 : Int) ≤ (u : Int) + 1 := by omega
              have j4 : ((u : Int) + 1).toNat = u + 1 := by omega
              have cu1 := cu (by omega)
              clear cu
              cases hFu : F (u + 1)
              · rw [hFu] at cu1
                have hc : ¬ (u < hi ∧ F (u + 1) = true) := by rw [hFu]; simp
                obtain rfl : u = X.runEnd F hi 60 v := by rw [← HK.out, X.runEnd_stop hc]
                go_wp2_with fail
                go_at_call 42
                refine (runText_any v (X.runEnd F hi 60 v) (by omega) (by omega) _).mono ?_
                rintro e w9 ⟨rfl, hw9⟩
                have hw8 := hw9.symm
                subst hw8
                go_wp2_with (first
                  | (at_builtin; refine wpList_append_own _ rfl _ _ 63 rfl w1.heap.size 9 i0 (.string ByteArray.empty) 1 16 Tryd.underlying63 hiS hz0 hz1 hz2 rfl (by decide) _ _ _ rfl (hown.alloc _) ⟨WO.heap.size, 0, none⟩ 1 1 [.string (runS (v, X.runEnd F hi 60 v))] rfl rfl (fun j u hj => by
                       match j, hj with
                       | 0, hj => simp at hj; subst hj; simp [Addr.add]; rfl
                       | j + 1, hj => simp at hj) (fun x hx => by simp at hx; subst hx; rfl) (by unfold maxLen; omega) (by omega) (by have := hbx.size; simp; omega) ?_; intro v' w3 hown' hgrow3 hnil3
                     have hbw3 : Below w1.heap.size w1 w3 := Below.grown (hbx.alloc hbx.size _) hgrow3 (by have := hbx.size; simp; omega) (fun j hj => by have := (hown.lt _ hj).1; omega)
                     have HA3 : Aside (w3.ownsRow w1.heap.size 9 1 v' (L.length + 1) (strs (L.map runS) ++ [.string (runS (v, X.runEnd F hi 60 v))]) ∧ Below w1.heap.size w1 w3) := ⟨hown', hbw3⟩
                     clear hown' hgrow3 hnil3 hbw3))
                exact ⟨⟨X.runEnd F hi 60 v + 1, fu, L ++ [(v, X.runEnd F hi 60 v)], by go_num, by omega, by omega, by omega, (by show _ = _; rw [← HL2.out]; simp), by simp; omega, by simpa [strs] using HA3.out.1, HA3.out.2⟩, by simp [intOf]; omega⟩
              · rw [hFu] at cu1
                obtain ⟨k', rfl⟩ : ∃ k', k = k' + 1 := ⟨k - 1, by omega⟩
                have hk2 : X.runEnd F hi k' (u + 1) = X.runEnd F hi 60 v := by rw [← HK.out, X.runEnd, if_pos ⟨hu, hFu⟩]
                have HK2 := hide hk2
                clear hk2
                go_wp2_with fail
                exact ⟨⟨u + 1, k', by go_num, by omega, by omega, by omega, HK2, by first | exact rfl | exact trivial⟩, by simp [intOf]; omega⟩
            · have j1 : ¬ (u : Int) < hi := by omega
              have hc : ¬ (u < hi ∧ F (u + 1) = true) := fun h => hu h.1
              clear cu
              obtain rfl : u = X.runEnd F hi 60 v := by rw [← HK.out, X.runEnd_stop hc]
              go_wp2_with fail
              go_at_call 42
              refine (runText_any v (X.runEnd F hi 60 v) (by omega) (by omega) _).mono ?_
              rintro e w9 ⟨rfl, hw9⟩
              have hw8 := hw9.symm
              subst hw8
              go_wp2_with (first
                | (at_builtin; refine wpList_append_own _ rfl _ _ 63 rfl w1.heap.size 9 i0 (.string ByteArray.empty) 1 16 Tryd.underlying63 hiS hz0 hz1 hz2 rfl (by decide) _ _ _ rfl (hown.alloc _) ⟨WO.heap.size, 0, none⟩ 1 1 [.string (runS (v, X.runEnd F hi 60 v))] rfl rfl (fun j u hj => by
                     match j, hj with
                     | 0, hj => simp at hj; subst hj; simp [Addr.add]; rfl
                     | j + 1, hj => simp at hj) (fun x hx => by simp at hx; subst hx; rfl) (by unfold maxLen; omega) (by omega) (by have := hbx.size; simp; omega) ?_; intro v' w3 hown' hgrow3 hnil3
                   have hbw3 : Below w1.heap.size w1 w3 := Below.grown (hbx.alloc hbx.size _) hgrow3 (by have := hbx.size; simp; omega) (fun j hj => by have := (hown.lt _ hj).1; omega)
                   have HA3 : Aside (w3.ownsRow w1.heap.size 9 1 v' (L.length + 1) (strs (L.map runS) ++ [.string (runS (v, X.runEnd F hi 60 v))]) ∧ Below w1.heap.size w1 w3) := ⟨hown', hbw3⟩
                   clear hown' hgrow3 hnil3 hbw3))
              exact ⟨⟨X.runEnd F hi 60 v + 1, fu, L ++ [(v, X.runEnd F hi 60 v)], by go_num, by omega, by omega, by omega, (by show _ = _; rw [← HL2.out]; simp), by simp; omega, by simpa [strs] using HA3.out.1, HA3.out.2⟩, by simp [intOf]; omega⟩
      · have hfin : L = X.runs F hi 61 lo := by
          rw [← HL.out]
          cases fuel with
          | zero => simp [X.runs]
          | succ f => rw [X.runs, if_neg hv]; simp
        have hL60 : L.length ≤ 60 := by omega
        have hlen5 : ∀ x ∈ (L.map runS).map (·.data.toList), x.length ≤ 5 := by
          intro x hx
          simp only [List.map_map, List.mem_map] at hx
          obtain ⟨r, hr, rfl⟩ := hx
          rw [hfin] at hr
          have := X.runs_in F hi 61 lo r hr
          exact (runT_len r.1 r.2 (by omega) (by omega)).1
        have hjl := join_len 44 5 _ hlen5
        have hmap : (L.map runS).map (·.data.toList) = (X.runs F hi 61 lo).map fun r => X.runT r.1 r.2 := by
          rw [← hfin, List.map_map]; rfl
        have htext : X.textW F lo hi = Lib.join ((L.map runS).map (·.data.toList)) [44] := by rw [HTX.out, hmap]
        rw [List.length_map, List.length_map] at hjl
        have HTE := hide htext
        clear htext hmap hlen5 hfin
        rcases hown.2 with ⟨rfl, hn⟩ | ⟨g, cap, cur, rfl, hg1, hg2, hg3, hg4, _⟩
        · have hL0 : L = [] := List.eq_nil_of_length_eq_zero hn
          subst hL0
          go_wp2_with fail
          go_at_call 24
          refine (Tryd.strings_Join_none none 0 _ _).mono ?_
          rintro e w9 ⟨rfl, rfl⟩
          go_wp2_with fail
          go_ret
          exact ⟨by rw [HTE.out]; rfl, hTx.bel⟩
        · have hcells : ∀ (j : Nat) x, (L.map runS)[j]? = some x → WO.cell? ⟨g, 0 + j, none⟩ = some (.string x) := by
            intro j x hx
            have hj : j < L.length := by have := (List.getElem?_eq_some_iff.1 hx).1; simpa using this
            rw [Nat.zero_add, World.ownsRow.cellAt hown j (by omega)]
            unfold strs; rw [List.getElem?_map, hx]; rfl
          have hJ := Tryd.strings_Join g 0 cap (L.map runS) ⟨#[44]⟩ WO hcells (Array.getElem?_eq_some_iff.1 hg2).1 (by simp; omega) (by simp; omega) (by show (Lib.join _ [44]).length ≤ _; omega)
          rw [List.length_map] at hJ
          have HJ := hide hJ
          clear hJ hcells
          go_wp2_with fail
          go_at_call 24
          refine HJ.out.mono ?_
          rintro e w9 ⟨rfl, hb9⟩
          have HB9 := hide (hTx.bel.trans (hb9.mono hTx.bel.size))
          clear hb9
          go_wp2_with fail
          go_ret
          exact ⟨by rw [HTE.out, List.map_map]; rfl, HB9.out⟩
  · have htx : X.textW F lo hi = [42] := by unfold X.textW; rw [if_pos hall]
    go_wp2_with fail
    go_ret
    exact ⟨by rw [htx]; rfl, hT1.bel⟩
end Go.Proofs.YtbgioclbjbmicaaDoor
