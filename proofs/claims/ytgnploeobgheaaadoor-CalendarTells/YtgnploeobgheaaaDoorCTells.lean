/- CalendarTells. -/
import Derived.Test.YtgnploeobgheaaaDoorCAsk
import Derived.Deep.Slices
import Derived.Lib.SmallJoins
namespace Go.Proofs.YtgnploeobgheaaaDoor
open Go.ChangeShapes Go.WideShapes Go.ChangeAt Go.RowKit Go.Deep

/-- Questions in memory. -/
def Asks (w : World) (a : Option Addr) (n : Nat) : Prop :=
  n ≤ 1000000000000000 ∧ (n = 0 ∨ ∃ b o, a = some ⟨b, o, none⟩ ∧ b < w.heap.size ∧ ∀ j, j < n → ∃ c t y m d h i s k q p : Int, -9223372036854775808 ≤ c ∧ c ≤ 9223372036854775807 ∧
    w.cell? ⟨b, o + j * 11, none⟩ = some (.int .i64 c) ∧ w.cell? ⟨b, o + j * 11 + 1, none⟩ = some (.int .i64 t) ∧ w.cell? ⟨b, o + j * 11 + 2, none⟩ = some (.int .i64 y) ∧ w.cell? ⟨b, o + j * 11 + 3, none⟩ = some (.int .i64 m) ∧
    w.cell? ⟨b, o + j * 11 + 4, none⟩ = some (.int .i64 d) ∧ w.cell? ⟨b, o + j * 11 + 5, none⟩ = some (.int .i64 h) ∧ w.cell? ⟨b, o + j * 11 + 6, none⟩ = some (.int .i64 i) ∧ w.cell? ⟨b, o + j * 11 + 7, none⟩ = some (.int .i64 s) ∧
    w.cell? ⟨b, o + j * 11 + 8, none⟩ = some (.int .i64 k) ∧ w.cell? ⟨b, o + j * 11 + 9, none⟩ = some (.int .i64 q) ∧ w.cell? ⟨b, o + j * 11 + 10, none⟩ = some (.int .i64 p))

set_option maxHeartbeats 1000000 in
theorem tells_walk (a : Option Addr) (n cap : Nat) (w : World) (hA : Asks w a n) (hT : Tab w) :
    Calls Tryd.prog 4 #[.slice a n cap] w fun e w' => e = .returned (.bool true) ∧ Below w.heap.size w w' := by
  have hn := hA.1
  have HA := hide hA
  clear hA
  go_enter Tryd.func4, Tryd.ntmps4
  go_wp2_with fail
  go_at_call 11
  refine (known_any _ hT).mono ?_
  rintro e w1 ⟨rfl, hb1⟩
  have B1 := hide hb1
  clear hb1
  go_wp2_with fail
  go_loopw [3] (fun iv wx => ∃ r : Nat, r ≤ 2 * n ∧ iv = .int .i64 (r : Nat) ∧ Hid (Below w.heap.size w wx)) (fun iv _ => 2 * n - (intOf iv).toNat)
  case atStart => exact ⟨0, by omega, rfl, B1⟩
  case round =>
    obtain ⟨r, hr, rfl, hB⟩ := hrel
    by_cases hlt : r < 2 * n
    · have hT2 := hT.keep hB.out
      have hn0 : 0 < n := by omega
      rcases HA.out.2 with h0 | ⟨b, o, rfl, hbl, hj⟩
      · omega
      obtain ⟨e, he⟩ : ∃ e, e = r % n := ⟨_, rfl⟩
      have hel : e < n := by rw [he]; exact Nat.mod_lt _ hn0
      have hm : (r : Int) % (n : Int) = (e : Int) := by rw [he]; rfl
      obtain ⟨c, t, y, m, d, h, i, s, k, q, p, c0, c1, e0, e1, e2, e3, e4, e5, e6, e7, e8, e9, e10⟩ := hj e hel
      have hc : ∀ x, wr.cell? ⟨b, x, none⟩ = w.cell? ⟨b, x, none⟩ := fun x => hB.out.cell (p := ⟨b, x, none⟩) hbl
      clear he hj HA
      rw [← hc] at e0 e1 e2 e3 e4 e5 e6 e7 e8 e9 e10
      clear hc
      go_wp2_with fail
      go_at_call 12
      refine (answered_any c t y m d h i s k q p c0 c1 _ hT2).mono ?_
      rintro e' w2 ⟨rfl, hb2⟩
      have B2 := hide (Below.after hB.out hb2)
      clear hb2
      go_wp2_with fail
      exact ⟨⟨r + 1, by omega, by go_num, B2⟩, by simp [intOf]; omega⟩
    · go_wp2_with fail
      go_ret
      exact ⟨rfl, hB.out⟩

theorem weigh {H : Type} {ts : List TypeId} {ds : List (DataW H)} (h : (DataW.weightsEach Tryd.prog ts ds).all (· ≤ reachBytes) = true) {j : Nat} {t : TypeId} {d : DataW H} (ht : ts[j]? = some t) (hd : ds[j]? = some d) : ∀ k ∈ d.weights Tryd.prog t, k ≤ reachBytes := fun k hk => by
  have := List.all_eq_true.1 h _ (DataW.weights_mem_each ht hd k hk)
  simpa using this
theorem bytes_ask : Tryd.prog.bytesOf 32 = 88 := by kernel_rfl
theorem cells_ask : Tryd.prog.cellsOf 32 = 11 := by kernel_rfl
theorem cells_date : Tryd.prog.cellsOf 23 = 7 := by kernel_rfl
theorem cells_int : Tryd.prog.cellsOf 3 = 1 := by kernel_rfl

theorem one_int {H : Type} {enc : TypeId × Value → H} {W : World} {base : Nat} {sp : Nat → Bool} {held : Bool} {n : Nat} {v : Value} {x : Option (DataW H × List MemPlace)} {y : DataW H × List MemPlace} (h : DataW.trod enc Tryd.prog W base sp held n 3 [v] = x) (hx : x = some y) :
    ∃ z : Int, v = .int .i64 z ∧ -9223372036854775808 ≤ z ∧ z ≤ 9223372036854775807 := by
  rw [hx] at h
  obtain ⟨z, e, _, wf⟩ := DataW.trod_int Tryd.underlying3 h
  have b := bounds_i64 wf
  exact ⟨z, by simpa using e, by omega, by omega⟩

theorem open_asks {H : Type} {enc : TypeId × Value → H} {W : World} {a : Option Addr} {n c : Nat} {d : DataW H} {p : List MemPlace}
    (h : DataW.Trod enc Tryd.prog W 0 (fun _ => true) true 29 (.slice a n c) d p) (hw : ∀ k ∈ d.weights Tryd.prog 29, k ≤ reachBytes) : Asks W a n := by
  obtain ⟨fuel, hf⟩ := h
  rcases open_slice Tryd.underlying29 hf with ⟨hcs, _⟩ | ⟨y, len, cap, m, k, D, Pl, hcs, _, hl, hm, hmm, hx, hel⟩
  · simp [Value.cells] at hcs
    obtain ⟨rfl, rfl, rfl⟩ := hcs
    exact ⟨by decide, .inl rfl⟩
  · simp [Value.cells] at hcs
    obtain ⟨rfl, rfl, rfl⟩ := hcs
    simp only [if_true] at hmm
    subst hmm
    simp only [Prod.mk.injEq] at hx
    have hreach : m * 88 ≤ 140737488351232 := by
      have := hw (((((List.range n).map D).length + ((List.range (m - n)).map fun j => D (n + j)).length)) * 88) (by
        rw [hx.1]
        simp [DataW.weights, Tryd.underlying29, bytes_ask])
      simp only [List.length_map, List.length_range, reachBytes] at this
      omega
    refine ⟨by omega, ?_⟩
    by_cases h0 : n = 0
    · exact .inl h0
    · right
      rw [cells_ask] at hel
      obtain ⟨b, off, spot⟩ := y
      have key : ∀ i, i < m → ∃ v0 v1 v2 v3 v4 v5 v6 v7 v8 v9 v10 : Value, (∀ j x, [v0, v1, v2, v3, v4, v5, v6, v7, v8, v9, v10][j]? = some x → W.cell? ((⟨b, off, spot⟩ : Addr).add (i * 11 + j)) = some x) ∧
          ∀ v ∈ [v0, v1, v2, v3, v4, v5, v6, v7, v8, v9, v10], ∃ z : Int, v = .int .i64 z ∧ -9223372036854775808 ≤ z ∧ z ≤ 9223372036854775807 := by
        intro i hi
        obtain ⟨cs', h1, h2⟩ := hel i hi
        obtain ⟨_, hlen, hcell⟩ := World.cells?_some h1
        obtain ⟨xs, k1, hk, hxy, _, hxl, hff⟩ := DataW.trod_struct Tryd.underlying32 h2
        match xs, hxl, cs', hlen with
        | [y0, y1, y2, y3, y4], _, [v0, v1, v2, v3, v4, v5, v6, v7, v8, v9, v10], _ =>
          have g0 := hff 0 _ rfl
          have g1 := hff 1 _ rfl
          have g2 := hff 2 _ rfl
          have g3 := hff 3 _ rfl
          have g4 := hff 4 _ rfl
          simp [cells_int, cells_date] at g0 g1 g2 g3 g4
          obtain ⟨zs, k2, hk2, hxy2, _, hxl2, hf2⟩ := DataW.trod_struct Tryd.underlying23 g2
          match zs, hxl2 with
          | [z0, z1, z2, z3, z4, z5, z6], _ =>
            have q0 := hf2 0 _ rfl
            have q1 := hf2 1 _ rfl
            have q2 := hf2 2 _ rfl
            have q3 := hf2 3 _ rfl
            have q4 := hf2 4 _ rfl
            have q5 := hf2 5 _ rfl
            have q6 := hf2 6 _ rfl
            simp [cells_int] at q0 q1 q2 q3 q4 q5 q6
            refine ⟨v0, v1, v2, v3, v4, v5, v6, v7, v8, v9, v10, fun j x hx => ?_, ?_⟩
            · have hj : j < 11 := (List.getElem?_eq_some_iff.1 hx).1
              have := hcell j hj
              rw [add_add] at this
              rw [this]; exact hx
            · intro v hv
              simp at hv
              rcases hv with rfl | rfl | rfl | rfl | rfl | rfl | rfl | rfl | rfl | rfl | rfl
              · exact one_int g0 rfl
              · exact one_int g1 rfl
              · exact one_int q0 rfl
              · exact one_int q1 rfl
              · exact one_int q2 rfl
              · exact one_int q3 rfl
              · exact one_int q4 rfl
              · exact one_int q5 rfl
              · exact one_int q6 rfl
              · exact one_int g3 rfl
              · exact one_int g4 rfl
      have hspot : spot = none := by
        obtain ⟨v0, v1, v2, v3, v4, v5, v6, v7, v8, v9, v10, hc, _⟩ := key 0 (by omega)
        simpa [Addr.add] using World.cell?_spot (hc 0 v0 rfl)
      subst hspot
      have hadd : ∀ x, (⟨b, off, none⟩ : Addr).add x = ⟨b, off + x, none⟩ := fun x => by unfold Addr.add; split <;> simp_all
      refine ⟨b, off, rfl, ?_, fun j hj => ?_⟩
      · obtain ⟨v0, v1, v2, v3, v4, v5, v6, v7, v8, v9, v10, hc, _⟩ := key 0 (by omega)
        have := World.block_lt_of_cell? W _ (hc 0 v0 rfl)
        rw [hadd] at this
        exact this
      · obtain ⟨v0, v1, v2, v3, v4, v5, v6, v7, v8, v9, v10, hc, hv⟩ := key j (by omega)
        simp at hv
        obtain ⟨⟨c, rfl, c0, c1⟩, ⟨t, rfl, _, _⟩, ⟨y, rfl, _, _⟩, ⟨mo, rfl, _, _⟩, ⟨d, rfl, _, _⟩, ⟨h, rfl, _, _⟩, ⟨i, rfl, _, _⟩, ⟨s, rfl, _, _⟩, ⟨k, rfl, _, _⟩, ⟨q, rfl, _, _⟩, ⟨p, rfl, _, _⟩⟩ := hv
        have hc' : ∀ jj x, [Value.int .i64 c, .int .i64 t, .int .i64 y, .int .i64 mo, .int .i64 d, .int .i64 h, .int .i64 i, .int .i64 s, .int .i64 k, .int .i64 q, .int .i64 p][jj]? = some x → W.cell? ⟨b, off + j * 11 + jj, none⟩ = some x := by
          intro jj x hx
          have := hc jj x hx
          rw [hadd] at this
          rw [Nat.add_assoc]; exact this
        exact ⟨c, t, y, mo, d, h, i, s, k, q, p, c0, c1, hc' 0 _ rfl, hc' 1 _ rfl, hc' 2 _ rfl, hc' 3 _ rfl, hc' 4 _ rfl, hc' 5 _ rfl, hc' 6 _ rfl, hc' 7 _ rfl, hc' 8 _ rfl, hc' 9 _ rfl, hc' 10 _ rfl⟩

namespace Tells
set_option maxRecDepth 100000 in
theorem lifted (os : Os) (started : os.Started) (H : Type) (enc : TypeId × Value → H) :
    ReturnsInHanded {} Tryd.checked os 4 .any (fun w args => (Rows.calendarTellsSpec.pre enc Tryd.prog Tryd.f4 [] false w args ∧ laidMetH Tryd.prog laid1 w) ∧ sizedMet enc Tryd.prog Tryd.f4 (OpenSpec.ofChange Rows.calendarTellsSpec) false w args)
      (Rows.calendarTellsSpec.post enc Tryd.prog Tryd.f4 false true false false) := by
  refine returnsInHanded_of_change_and (C := Tryd.checked) (X := fun w _ => laidMetH Tryd.prog laid1 w) (fun _ _ _ hh h => h.of_heap hh) own started (by kernel_rfl) Tryd.func4
    (ChangeSpec.witness_shaped (enc := enc) (C := Tryd.checked) (os := os) (X := fun w _ => laidMetH Tryd.prog laid1 w) false (World.doorLaid Tryd.prog 400 os) #[.slice none 0 0] 8 rfl (World.shaped_of_RefB (by kernel_rfl) (by kernel_rfl)) (by kernel_rfl) (by kernel_rfl) (by kernel_rfl) (door_met os _)) ?_
  intro W base args ds gs before hval0 hW _ hsz0 hL _
  have hval : ∀ (j : Nat) t v, Tryd.f4.params[j]? = some t → args[j]? = some v → Value.okWide Tryd.prog W .any base t v := hval0
  have hW' := hW
  obtain ⟨p, q, hA0, hV, rfl, hfz, hnd⟩ := hW
  have hA : DataW.TrodAll enc Tryd.prog W 0 (fun _ => true) true Tryd.f4.params.toList args.toList ds p := hA0
  have hsz : (DataW.weightsEach Tryd.prog (Tryd.f4.params.toList ++ Rows.calendarTellsSpec.plain.varTypes Tryd.prog) (ds ++ gs)).all (· ≤ reachBytes) = true := hsz0
  rw [Tryd.params4] at hA hval hsz
  obtain ⟨v0, d0, rfl, rfl, h0⟩ := trodAll_one hA
  obtain ⟨rfl, rfl⟩ := trodVars_none hV
  have lt0 : ∀ x ∈ p, x.block < W.heap.size := by obtain ⟨m, hm⟩ := h0; exact DataW.trod_lt m _ _ _ hm
  obtain ⟨a0, n0, c0, rfl⟩ := okWide_slice Tryd.underlying29 (hval 0 29 v0 rfl rfl)
  have hk0 := open_asks h0 (weigh hsz (j := 0) rfl rfl)
  clear hA0 hval0
  refine (tells_walk a0 n0 c0 W hk0 (tab_of_laid hL)).mono fun e W' ⟨he, bel⟩ => ?_
  subst he
  exact ⟨_, rfl, _, _, _, [], _, [], hW', trodAll_mk1 (shut_bool Tryd.underlying4 _), trodAll_mk1 (Below.trod laidOut (by kernel_rfl) (of_decide_eq_true (by kernel_rfl)) h0 bel lt0), rfl, bel.frame _, fun h => by cases h⟩

theorem row : Rows.CalendarTellsSaid :=
  OpenClaim.holds_of_wide 4 Tryd.f4 rfl rfl rfl rfl rfl rfl rfl ⟨rfl, rfl, rfl, rfl, rfl⟩ rfl rfl rfl rfl rfl (by kernel_rfl) Tryd.func4 (by kernel_rfl)
    (of_decide_eq_true (by kernel_rfl)) (by unfold Func.isWrapper; first | (rw [if_pos (by decide +kernel)]; kernel_rfl) | (rw [if_neg (by decide +kernel)]; exact ⟨rfl, rfl⟩))
    (fun os started H enc _ => lifted os started H enc)
end Tells

theorem calendarTells_holds : Rows.CalendarTellsCardSaid :=
  Claim7.holds_tied_plain_at .later [] [.data] true (true, "cad9ec3becb05483b7260e15eecd4e18993932f9ad14cc2e998860af4b19dbcf") false
    Tells.row (fun _ h => by cases h) (by kernel_rfl) (fun _ h => by cases h) calendarTells_row_tie rfl ⟨rfl, rfl⟩ (by kernel_rfl) rfl
    (fun f fn hf hfn => by
      obtain rfl : f = 4 := Option.some.inj ((show Tryd.prog.funcNamed "escapement/escapementlaw03.CalendarTells" = some 4 by kernel_rfl).symm.trans hf) |>.symm
      obtain rfl : fn = Tryd.f4 := (Option.some.inj (Tryd.func4.symm.trans hfn)).symm
      exact ⟨by kernel_rfl, fun j t ht => by
        rw [Tryd.params4] at ht
        have hm : t ∈ [29] := by simpa using Array.mem_of_getElem? ht
        have hall : ([29].all fun u => !Tryd.prog.wantsStandIn u) = true := by kernel_rfl
        exact (show Tryd.prog.wantsStandIn t = false by simpa using List.all_eq_true.1 hall t hm)⟩)
    (by kernel_rfl)
#print axioms calendarTells_holds
end Go.Proofs.YtgnploeobgheaaaDoor
