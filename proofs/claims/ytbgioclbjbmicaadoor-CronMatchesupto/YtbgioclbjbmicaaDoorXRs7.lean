/- The document's Parse: the walk. -/
import Derived.Test.YtbgioclbjbmicaaDoorXRs6
namespace Go.Proofs.YtbgioclbjbmicaaDoor
open Go.RowKit

theorem drop_head (ws : List ByteArray) (i : Nat) (x : ByteArray) (hx : ws[i]? = some x) : ((ws.drop i).map (·.data.toList)).headD [] = x.data.toList ∧ (ws.drop i).map (·.data.toList) = x.data.toList :: (ws.drop (i + 1)).map (·.data.toList) := by
  have hlt : i < ws.length := (List.getElem?_eq_some_iff.1 hx).1
  have : ws.drop i = x :: ws.drop (i + 1) := by
    rw [List.drop_eq_getElem_cons hlt]
    congr 1
    rw [List.getElem?_eq_getElem hlt] at hx
    injection hx
  rw [this]; exact ⟨rfl, rfl⟩
theorem addWords_step' (f : Nat) (x : List UInt8) (r : List (List UInt8)) (S : X.Sets) : X.addWords f (x :: r) S = match X.addWord (60 * f) (X.loF f) (X.hiF f) x S with
    | none => none
    | some T => X.addWords (f + 1) r T := by
  rw [X.addWords]
  cases X.addWord (60 * f) (X.loF f) (X.hiF f) x S <;> rfl
/-- Five cells of a block, stored one by one. -/
def set5 (w : World) (p : Nat) (a b c d e : Value) : World := ((((w.setCell ⟨p, 0, none⟩ a).setCell ⟨p, 1, none⟩ b).setCell ⟨p, 2, none⟩ c).setCell ⟨p, 3, none⟩ d).setCell ⟨p, 4, none⟩ e
theorem off_ne (p : Nat) {i j : Nat} (h : i ≠ j) : (⟨p, i, none⟩ : Addr) ≠ ⟨p, j, none⟩ := by intro e; injection e with _ e; exact h e
theorem set5_cells {w : World} {p : Nat} {z : Value} (a b c d e : Value) (h : ∀ j, j < 5 → w.cell? ⟨p, j, none⟩ = some z) :
    (set5 w p a b c d e).cell? ⟨p, 0, none⟩ = some a ∧ (set5 w p a b c d e).cell? ⟨p, 1, none⟩ = some b ∧ (set5 w p a b c d e).cell? ⟨p, 2, none⟩ = some c ∧ (set5 w p a b c d e).cell? ⟨p, 3, none⟩ = some d ∧ (set5 w p a b c d e).cell? ⟨p, 4, none⟩ = some e := by
  have o : ∀ (W : World) (i j : Nat) (v : Value), i ≠ j → (W.setCell ⟨p, i, none⟩ v).cell? ⟨p, j, none⟩ = W.cell? ⟨p, j, none⟩ := fun W i j v hij => World.cell?_setCell_other _ _ _ _ (off_ne p (by omega))
  unfold set5
  refine ⟨?_, ?_, ?_, ?_, ?_⟩
  · rw [o _ 4 0 _ (by decide), o _ 3 0 _ (by decide), o _ 2 0 _ (by decide), o _ 1 0 _ (by decide)]; exact World.cell?_setCell_same _ _ _ (h 0 (by decide))
  · rw [o _ 4 1 _ (by decide), o _ 3 1 _ (by decide), o _ 2 1 _ (by decide)]; exact World.cell?_setCell_same _ _ _ ((o _ 0 1 _ (by decide)).trans (h 1 (by decide)))
  · rw [o _ 4 2 _ (by decide), o _ 3 2 _ (by decide)]; exact World.cell?_setCell_same _ _ _ ((o _ 1 2 _ (by decide)).trans ((o _ 0 2 _ (by decide)).trans (h 2 (by decide))))
  · rw [o _ 4 3 _ (by decide)]; exact World.cell?_setCell_same _ _ _ ((o _ 2 3 _ (by decide)).trans ((o _ 1 3 _ (by decide)).trans ((o _ 0 3 _ (by decide)).trans (h 3 (by decide)))))
  · exact World.cell?_setCell_same _ _ _ ((o _ 3 4 _ (by decide)).trans ((o _ 2 4 _ (by decide)).trans ((o _ 1 4 _ (by decide)).trans ((o _ 0 4 _ (by decide)).trans (h 4 (by decide))))))
theorem set5_below {B : Nat} {w0 w : World} {p : Nat} (a b c d e : Value) (h : Below B w0 w) (hp : B ≤ p) : Below B w0 (set5 w p a b c d e) :=
  ((((h.setCell hp _).setCell hp _).setCell hp _).setCell hp _).setCell hp _
theorem set5_other {w : World} {p k j : Nat} (a b c d e : Value) (h : k ≠ p) : (set5 w p a b c d e).cell? ⟨k, j, none⟩ = w.cell? ⟨k, j, none⟩ := by
  have o : ∀ (W : World) (i : Nat) (v : Value), (W.setCell ⟨p, i, none⟩ v).cell? ⟨k, j, none⟩ = W.cell? ⟨k, j, none⟩ := fun W i v => World.cell?_setCell_other _ _ _ _ (by intro e; injection e with e; first | exact h e | exact h e.symm)
  unfold set5; rw [o, o, o, o, o]
theorem drew5 {W : World} {p : Nat} {a b c d e : Option Value} (h : W.cell? ⟨p, 0, none⟩ = a ∧ W.cell? ⟨p, 1, none⟩ = b ∧ W.cell? ⟨p, 2, none⟩ = c ∧ W.cell? ⟨p, 3, none⟩ = d ∧ W.cell? ⟨p, 4, none⟩ = e) :
    W.drew.cell? ⟨p, 0, none⟩ = a ∧ W.drew.cell? ⟨p, 1, none⟩ = b ∧ W.drew.cell? ⟨p, 2, none⟩ = c ∧ W.drew.cell? ⟨p, 3, none⟩ = d ∧ W.drew.cell? ⟨p, 4, none⟩ = e := h
theorem PrI.rx {w : World} {ws : List ByteArray} {gw : Nat} {T : X.Sets} {G : Nat → Nat} {v : Value} {wr : World} (hP : PrI w ws gw 5 T G v wr) (a b c d e : Value) : RxAt G T (set5 wr w.heap.size a b c d e).drew := by
  intro f hf v hv
  have hn : G f ≠ w.heap.size := by
    intro e
    have h1 := hP.rd f hf 0 (by omega)
    rw [e, hP.res0 0 (by decide)] at h1
    cases h1
  have e1 : ∀ W : World, W.drew.cell? ⟨G f, v, none⟩ = W.cell? ⟨G f, v, none⟩ := fun _ => rfl
  rw [e1, set5_other _ _ _ _ _ hn]
  exact hP.rd f hf v hv
/-- What Parse gives back. -/
theorem parse_res {w : World} {p : Nat} {a b c d e k : Value} {act : Act} (h2 : act.tmps[2]? = some (.pointer (some ⟨p, 0, none⟩))) (h3 : act.tmps[3]? = some k)
    (c0 : w.cell? ⟨p, 0, none⟩ = some a) (c1 : w.cell? ⟨p, 1, none⟩ = some b) (c2 : w.cell? ⟨p, 2, none⟩ = some c) (c3 : w.cell? ⟨p, 3, none⟩ = some d) (c4 : w.cell? ⟨p, 4, none⟩ = some e) :
    (results Tryd.f22 act.tmps).run Tryd.prog w = .ok (.tuple #[.agg #[a, b, c, d, e], k]) w := by
  simp [results, Tryd.results22, go_sem, h2, h3, c0, c1, c2, c3, c4]
set_option maxHeartbeats 4000000 in
set_option maxRecDepth 100000 in
theorem refParse_any (s : ByteArray) (hs : s.size ≤ 1048576) (w : World) :
    Calls Tryd.prog 22 #[.string s] w fun e w' => RParseEnd (X.parse s.data.toList) e w' ∧ Below w.heap.size w w' := by
  have hlen : s.data.toList.length = s.size := by simp
  obtain ⟨i0, hi, hz0, hz1, hz2⟩ := info_parts info_bools
  generalize hR : X.parse s.data.toList = R
  have hN : (w.alloc (.cells #[.slice none 0 0, .slice none 0 0, .slice none 0 0, .slice none 0 0, .slice none 0 0] 26)).heap[w.heap.size]? = some (.cells #[.slice none 0 0, .slice none 0 0, .slice none 0 0, .slice none 0 0, .slice none 0 0] 26) := heap_alloc_new w _
  have hb0 : Below w.heap.size w (w.alloc (.cells #[.slice none 0 0, .slice none 0 0, .slice none 0 0, .slice none 0 0, .slice none 0 0] 26)) := Below.put (Below.refl _ _) _
  have HN := hide hN
  have HB0 := hide hb0
  have HR := hide hR
  clear hN hb0 hR
  go_enter Tryd.func22, Tryd.ntmps22
  go_wp2_with fail
  generalize w.alloc (.cells #[.slice none 0 0, .slice none 0 0, .slice none 0 0, .slice none 0 0, .slice none 0 0] 26) = W0 at *
  go_at_call 39
  refine (refWords_any s hs _).mono ?_
  rintro e w1 ⟨⟨v, ws, rfl, hws, hwz, hown⟩, hb1⟩
  have hres : w1.heap[w.heap.size]? = some (.cells #[.slice none 0 0, .slice none 0 0, .slice none 0 0, .slice none 0 0, .slice none 0 0] 26) := by rw [hb1.block _ (Array.getElem?_eq_some_iff.1 HN.out).1]; exact HN.out
  have hB1 : Below w.heap.size w w1 := HB0.out.trans (hb1.mono HB0.out.size)
  have hwords : (X.words s.data.toList).length = ws.length := by rw [← hws]; simp
  have hc0 : w1.cell? ⟨w.heap.size, 0, none⟩ = some (.slice none 0 0) := by rw [cell_of_row _ _ _ _ _ _ hres]; rfl
  have hc1 : w1.cell? ⟨w.heap.size, 1, none⟩ = some (.slice none 0 0) := by rw [cell_of_row _ _ _ _ _ _ hres]; rfl
  have hc2 : w1.cell? ⟨w.heap.size, 2, none⟩ = some (.slice none 0 0) := by rw [cell_of_row _ _ _ _ _ _ hres]; rfl
  have hc3 : w1.cell? ⟨w.heap.size, 3, none⟩ = some (.slice none 0 0) := by rw [cell_of_row _ _ _ _ _ _ hres]; rfl
  have hc4 : w1.cell? ⟨w.heap.size, 4, none⟩ = some (.slice none 0 0) := by rw [cell_of_row _ _ _ _ _ _ hres]; rfl
  have hfr : ∀ j, w1.frozen? ⟨w.heap.size, j, none⟩ = false := fun j => by unfold World.frozen?; rw [hres]; simp
  obtain ⟨a, c, rfl⟩ : ∃ a c, v = .slice a ws.length c := by
    rcases hown.2 with ⟨rfl, hn⟩ | ⟨g, cap, cur, h1, h2, h3⟩
    · exact ⟨none, 0, by rw [hn]⟩
    · exact ⟨_, _, h1⟩
  have HK := hide (set5_cells (w := w1) (p := w.heap.size) (.slice none 0 0) (.slice none 0 0) (.slice none 0 0) (.slice none 0 0) (.slice none 0 0) (fun j hj => by rw [cell_of_row _ _ _ _ _ _ hres]; rcases five j hj with rfl | rfl | rfl | rfl | rfl <;> rfl))
  clear hb1 HN HB0
  by_cases hbig : s.size ≤ 1024
  · have g0 : ¬ (1024 : Int) < s.size := by omega
    by_cases h5 : ws.length = 5
    · have i5 : ((ws.length : Int) != 5) = false := by simp; omega
      obtain ⟨gw, rfl, hcw⟩ : ∃ gw, a = some ⟨gw, 0, none⟩ ∧ ItsAt gw ws w1 := by
        rcases hown.2 with ⟨_, hn⟩ | ⟨g, cap, cur, h1, h2, h3⟩
        · omega
        · injection h1 with e1 e2 e3
          subst e1
          refine ⟨g, rfl, fun j x hx => ?_⟩
          have hj : j < ws.length := (List.getElem?_eq_some_iff.1 hx).1
          subst e3
          rw [World.ownsRow.cellAt hown j (by omega)]
          simp [strs, hx]
      have hpar : R = match X.addWords 0 (ws.map (·.data.toList)) (fun _ => false) with
        | none => .inl 41
        | some S => .inr S := by
        rw [← HR.out]; unfold X.parse
        rw [if_neg (by rw [hwords]; omega), hws]
        cases X.addWords 0 (X.words s.data.toList) (fun _ => false) <;> rfl
      have HP := hide hpar
      have hP0 : PrI w ws gw 0 (fun _ => false) (fun _ => 0) (.slice none 0 0) w1 := ⟨World.ownsRow_nil _ _ _ _, fun _ => rfl, hB1, fun f hf => absurd hf (by omega), hcw, (fun k hk => by cases hk), hres⟩
      have hne : ws ≠ [] := by intro e; rw [e] at h5; cases h5
      clear HK hpar hB1 hown hres hc0 hc1 hc2 hc3 hc4 hfr hws hwords HR hcw
      go_wp2_with fail
      go_loopw [5, 6] (fun v y wx => ∃ (i : Nat) (T : X.Sets) (G : Nat → Nat), y = .int .i64 i ∧ i ≤ 5 ∧ PrI w ws gw i T G v wx ∧ Hid (X.addWords i ((ws.drop i).map (·.data.toList)) T = X.addWords 0 (ws.map (·.data.toList)) (fun _ => false))) (fun _ y _ => 5 - (intOf y).toNat)
      case atStart => exact ⟨0, _, _, rfl, by omega, hP0, rfl⟩
      case round =>
        obtain ⟨i, T, G, rfl, hi5, hP, HF⟩ := hrel
        clear hP0
        by_cases hlt : i < 5
        · obtain ⟨x, hx⟩ : ∃ x, ws[i]? = some x := ⟨_, List.getElem?_eq_getElem (by omega)⟩
          obtain ⟨hd1, hd2⟩ := drop_head ws i x hx
          have hxz := hwz x (List.mem_of_getElem? hx)
          have cx := hP.its i x hx
          have i1 : (i : Int) < 5 := by omega
          have i2 : (i : Int) < ws.length := by omega
          have hstep := HF.out
          rw [hd2, addWords_step'] at hstep
          have HSt := hide hstep
          have HD1 := hide hd1
          clear hstep hd1 hd2
          go_wp2_with fail
          go_at_call 40
          refine (refSet_any x (by omega) i hlt T (fun v hv => by
            cases hT : T (60 * i + v)
            · rfl
            · have := hP.low _ hT; omega) _).mono ?_
          rintro e w4 ⟨hse, hb4⟩
          have hP4 := hP.keep hb4
          clear hP cx
          cases hit : X.addWord (60 * i) (X.loF i) (X.hiF i) x.data.toList T with
          | none =>
            rw [hit] at hse
            have he : e = .returned (.tuple #[.slice none 0 0, .bool false]) := hse
            subst he
            have hst := HSt.out
            rw [hit] at hst
            have hR' : R = .inl 41 := by rw [HP.out, ← hst]
            subst hR'
            have hc0 := hP4.res0 0 (by decide)
            have hc1 := hP4.res0 1 (by decide)
            have hc2 := hP4.res0 2 (by decide)
            have hc3 := hP4.res0 3 (by decide)
            have hc4 := hP4.res0 4 (by decide)
            have hfr := hP4.fr
            have HB := hide hP4.bel
            have HK := hide (set5_cells (w := w4) (p := w.heap.size) (.slice none 0 0) (.slice none 0 0) (.slice none 0 0) (.slice none 0 0) (.slice none 0 0) (fun j hj => hP4.res0 j hj))
            clear hP4 HSt HF HP
            go_wp2_with fail
            exact bodyPost_ret (w := set5 w4 w.heap.size (.slice none 0 0) (.slice none 0 0) (.slice none 0 0) (.slice none 0 0) (.slice none 0 0)) (parse_res rfl rfl HK.out.1 HK.out.2.1 HK.out.2.2.1 HK.out.2.2.2.1 HK.out.2.2.2.2) rfl ⟨rfl, set5_below _ _ _ _ _ HB.out (Nat.le_refl _)⟩
          | some U =>
            rw [hit] at hse
            obtain ⟨g, rfl, hgc, hg1, hg2⟩ := hse
            have hst := HSt.out
            rw [hit] at hst
            have HT := hide hst
            have HU : Hid (X.addWord (60 * i) (X.loF i) (X.hiF i) (((ws.drop i).map (·.data.toList)).headD []) T = some U) := by rw [HD1.out]; exact hit
            have HGC := hide hgc
            have hbs := hP4.bel.size
            have hres4 := (Array.getElem?_eq_some_iff.1 hP4.res).1
            clear hst HSt hit hgc
            generalize hhm : X.hiF i + 1 = hm at *
            have HHM := hide hhm
            clear hhm
            go_wp2_with (first
              | (at_builtin; refine wpList_append_own _ rfl _ _ 81 rfl (w.heap.size + 1) 24 i0 (.slice none 0 0) 1 24 Tryd.underlying81 hi hz0 hz1 hz2 rfl (by decide) _ _ _ rfl (hP4.own.alloc _) ⟨w4.heap.size, 0, none⟩ 1 1 [.slice (some ⟨g, 0, none⟩) hm hm] rfl rfl (fun j u hj => by
                   match j, hj with
                   | 0, hj => simp at hj; subst hj; simp [Addr.add]
                   | j + 1, hj => simp at hj) (fun x hx => by simp at hx; subst hx; rfl) (by unfold maxLen; omega) (by omega) (by simp; omega) ?_; intro v' w5 hown' hgrow5 hnil5
                 have HA5 : Aside (w5.ownsRow (w.heap.size + 1) 24 1 v' (i + 1) (((List.range i).map (rsl G)) ++ [.slice (some ⟨g, 0, none⟩) hm hm]) ∧ _) := ⟨hown', hgrow5⟩
                 clear hown' hgrow5 hnil5))
            obtain rfl := HHM.out
            exact ⟨⟨i + 1, U, _, by go_num, by omega, hP4.more hlt HU.out HGC.out hne _ HA5.out.1 HA5.out.2, HT⟩, by simp [intOf]; omega⟩
        · obtain rfl : i = 5 := by omega
          have hRs : R = .inr T := by
            rw [HP.out, ← HF.out, List.drop_eq_nil_of_le (by omega), List.map_nil, X.addWords]
          subst hRs
          obtain ⟨gr, cap, hv, hcells, hgr⟩ : ∃ gr cap, u5 = .slice (some ⟨gr, 0, none⟩) 5 cap ∧ (∀ j, j < 5 → wr.cell? ⟨gr, j, none⟩ = some (rsl G j)) ∧ w.heap.size + 1 ≤ gr := by
            rcases hP.own.2 with ⟨_, hn⟩ | ⟨g, cap, cur, h1, h2, h3⟩
            · cases hn
            · refine ⟨g, cap, h1, fun j hj => ?_, h2⟩
              have := hP.own.cells (g := g) (by rw [h1]; rfl) j (rsl G j) (by simp [hj])
              rw [show ((⟨g, 0, none⟩ : Addr).add j) = ⟨g, j, none⟩ by simp [Addr.add]; omega] at this
              exact this
          subst hv
          have d0 : wr.cell? ⟨gr, 0, none⟩ = some (.slice (some ⟨G 0, 0, none⟩) 60 60) := hcells 0 (by decide)
          have d1 : wr.cell? ⟨gr, 1, none⟩ = some (.slice (some ⟨G 1, 0, none⟩) 24 24) := hcells 1 (by decide)
          have d2 : wr.cell? ⟨gr, 2, none⟩ = some (.slice (some ⟨G 2, 0, none⟩) 32 32) := hcells 2 (by decide)
          have d3 : wr.cell? ⟨gr, 3, none⟩ = some (.slice (some ⟨G 3, 0, none⟩) 13 13) := hcells 3 (by decide)
          have d4 : wr.cell? ⟨gr, 4, none⟩ = some (.slice (some ⟨G 4, 0, none⟩) 7 7) := hcells 4 (by decide)
          have hc0 := hP.res0 0 (by decide)
          have hc1 := hP.res0 1 (by decide)
          have hc2 := hP.res0 2 (by decide)
          have hc3 := hP.res0 3 (by decide)
          have hc4 := hP.res0 4 (by decide)
          have hfr := hP.fr
          have HB := hide hP.bel
          have HK := hide (drew5 (set5_cells (w := wr) (p := w.heap.size) (.slice (some ⟨G 0, 0, none⟩) 60 60) (.slice (some ⟨G 1, 0, none⟩) 24 24) (.slice (some ⟨G 2, 0, none⟩) 32 32) (.slice (some ⟨G 3, 0, none⟩) 13 13) (.slice (some ⟨G 4, 0, none⟩) 7 7) (fun j hj => hP.res0 j hj)))
          have HX := hide (hP.rx (.slice (some ⟨G 0, 0, none⟩) 60 60) (.slice (some ⟨G 1, 0, none⟩) 24 24) (.slice (some ⟨G 2, 0, none⟩) 32 32) (.slice (some ⟨G 3, 0, none⟩) 13 13) (.slice (some ⟨G 4, 0, none⟩) 7 7))
          clear hP hcells HF HP
          go_wp2_with fail
          go_region
          go_wp2_with fail
          exact bodyPost_ret (w := (set5 wr w.heap.size (.slice (some ⟨G 0, 0, none⟩) 60 60) (.slice (some ⟨G 1, 0, none⟩) 24 24) (.slice (some ⟨G 2, 0, none⟩) 32 32) (.slice (some ⟨G 3, 0, none⟩) 13 13) (.slice (some ⟨G 4, 0, none⟩) 7 7)).drew) (parse_res rfl rfl HK.out.1 HK.out.2.1 HK.out.2.2.1 HK.out.2.2.2.1 HK.out.2.2.2.2) rfl ⟨⟨G, rfl, HX.out⟩, (set5_below _ _ _ _ _ HB.out (Nat.le_refl _)).drew⟩
    · have i5 : ((ws.length : Int) != 5) = true := by simp; omega
      have hR' : R = .inl 40 := by rw [← HR.out]; unfold X.parse; rw [if_pos (Or.inr (by rw [hwords]; exact h5))]
      subst hR'
      have HB := hide hB1
      clear hB1 hown hres hwords hws HR
      go_wp2_with fail
      exact bodyPost_ret (w := set5 w1 w.heap.size (.slice none 0 0) (.slice none 0 0) (.slice none 0 0) (.slice none 0 0) (.slice none 0 0)) (parse_res rfl rfl HK.out.1 HK.out.2.1 HK.out.2.2.1 HK.out.2.2.2.1 HK.out.2.2.2.2) rfl ⟨rfl, set5_below _ _ _ _ _ HB.out (Nat.le_refl _)⟩
  · have g0 : (1024 : Int) < s.size := by omega
    have hR' : R = .inl 40 := by rw [← HR.out]; unfold X.parse; rw [if_pos (Or.inl (by omega))]
    subst hR'
    have HB := hide hB1
    clear hB1 hown hres hwords hws HR
    go_wp2_with fail
    exact bodyPost_ret (w := set5 w1 w.heap.size (.slice none 0 0) (.slice none 0 0) (.slice none 0 0) (.slice none 0 0) (.slice none 0 0)) (parse_res rfl rfl HK.out.1 HK.out.2.1 HK.out.2.2.1 HK.out.2.2.2.1 HK.out.2.2.2.2) rfl ⟨rfl, set5_below _ _ _ _ _ HB.out (Nat.le_refl _)⟩
end Go.Proofs.YtbgioclbjbmicaaDoor
