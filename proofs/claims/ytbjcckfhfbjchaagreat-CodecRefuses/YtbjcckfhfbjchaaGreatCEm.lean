/- Codec: othersEmpty (written by cem_gen.py). -/
import Derived.Test.YtbjcckfhfbjchaaGreatCEl
namespace Go.Proofs.YtbjcckfhfbjchaaGreat
namespace Cd
open Go.RowKit Go.Deep

/-- which parts are empty -/
def emps (nm : ByteArray) (dl : Int) (x2 : Nat) (ky : ByteArray) (la wo tk : Int) (y2 : Nat) (ru lu ti : Int) : List Bool :=
  [nm.toList.isEmpty && dl == 0 && (x2 : Int) == 0, ky.toList.isEmpty, la == 0, wo == 0, tk == 0, (y2 : Int) == 0, ru == 0, lu == 0, ti == 0]
def oE (bs : List Bool) (ps : List Nat) : Bool := (List.range 9).all fun j => bs.getD j false || decide (j ∈ ps)
theorem oE_true {bs : List Bool} {ps : List Nat} (h : ∀ i, i < 9 → bs[i]? = some true ∨ i ∈ ps) : oE bs ps = true := by
  unfold oE
  rw [List.all_eq_true]
  intro j hj
  rcases h j (List.mem_range.1 hj) with h | h
  · rw [List.getD_eq_getElem?_getD, h]; rfl
  · simp [h]
theorem oE_false {bs : List Bool} {ps : List Nat} {i : Nat} (hi : i < 9) (h : bs[i]? = some false) (hp : ¬ i ∈ ps) : oE bs ps = false := by
  unfold oE
  rw [List.all_eq_false]
  exact ⟨i, List.mem_range.2 hi, by rw [List.getD_eq_getElem?_getD, h]; simp [hp]⟩
theorem sizeB9 : (Tryz.prog.info? 122).map (·.size) = some 9 := by kernel_rfl
set_option maxRecDepth 10000 in
set_option maxHeartbeats 4000000 in
theorem othersEmpty_any (ki : Int) (nm : ByteArray) (dl : Int) (x1 : Option Addr) (x2 x3 : Nat) (ky : ByteArray) (la : Int) (wo : Int) (tk : Int) (y1 : Option Addr) (y2 y3 : Nat) (ru : Int) (lu : Int) (ti : Int) (a : Option Addr) (ps : List Nat) (w : World) (h : PsM w a ps) (hn : ps.length ≤ 2) :
    Calls Tryz.prog 31 #[.agg #[.int .i64 ki, .string nm, .int .i64 dl, .slice x1 x2 x3, .string ky, .int .i64 la, .int .i64 wo, .int .i64 tk, .slice y1 y2 y3, .int .i64 ru, .int .u64 lu, .int .i64 ti], .slice a ps.length ps.length] w fun en w' => en = .returned (.bool (oE (emps nm dl x2 ky la wo tk y2 ru lu ti) ps)) ∧ Below w.heap.size w w' := by
  have hbw : Below w.heap.size w (w.alloc (.cells #[.int .i64 ki, .string nm, .int .i64 dl, .slice x1 x2 x3, .string ky, .int .i64 la, .int .i64 wo, .int .i64 tk, .slice y1 y2 y3, .int .i64 ru, .int .u64 lu, .int .i64 ti] 32)) := (Below.refl _ _).alloc (Nat.le_refl _) _
  have hx := heap_alloc_new w (.cells #[.int .i64 ki, .string nm, .int .i64 dl, .slice x1 x2 x3, .string ky, .int .i64 la, .int .i64 wo, .int .i64 tk, .slice y1 y2 y3, .int .i64 ru, .int .u64 lu, .int .i64 ti] 32)
  have HB := hide hbw
  have HP := hide (h.keep (Keep.alloc (fun _ => False) w (.cells #[.int .i64 ki, .string nm, .int .i64 dl, .slice x1 x2 x3, .string ky, .int .i64 la, .int .i64 wo, .int .i64 tk, .slice y1 y2 y3, .int .i64 ru, .int .u64 lu, .int .i64 ti] 32)) (fun _ f => f.elim))
  have HN := hide hn
  have d0 := cell_blk hx 0 (v := .int .i64 ki) rfl
  have d1 := cell_blk hx 1 (v := .string nm) rfl
  have d2 := cell_blk hx 2 (v := .int .i64 dl) rfl
  have d3 := cell_blk hx 3 (v := .slice x1 x2 x3) rfl
  have d4 := cell_blk hx 4 (v := .string ky) rfl
  have d5 := cell_blk hx 5 (v := .int .i64 la) rfl
  have d6 := cell_blk hx 6 (v := .int .i64 wo) rfl
  have d7 := cell_blk hx 7 (v := .int .i64 tk) rfl
  have d8 := cell_blk hx 8 (v := .slice y1 y2 y3) rfl
  have d9 := cell_blk hx 9 (v := .int .i64 ru) rfl
  have d10 := cell_blk hx 10 (v := .int .u64 lu) rfl
  have d11 := cell_blk hx 11 (v := .int .i64 ti) rfl
  obtain ⟨r, hr⟩ : ∃ r, oE (emps nm dl x2 ky la wo tk y2 ru lu ti) ps = r := ⟨_, rfl⟩
  rw [hr]
  unfold emps at hr
  have HRR := hide hr
  have HX := hide hx
  clear h hn hbw hx hr
  obtain ⟨b1, e1⟩ : ∃ b, ky.toList.isEmpty = b := ⟨_, rfl⟩
  obtain ⟨b2, e2⟩ : ∃ b, (la == 0) = b := ⟨_, rfl⟩
  obtain ⟨b3, e3⟩ : ∃ b, (wo == 0) = b := ⟨_, rfl⟩
  obtain ⟨b4, e4⟩ : ∃ b, (tk == 0) = b := ⟨_, rfl⟩
  obtain ⟨b5, e5⟩ : ∃ b, ((y2 : Int) == 0) = b := ⟨_, rfl⟩
  obtain ⟨b6, e6⟩ : ∃ b, (ru == 0) = b := ⟨_, rfl⟩
  obtain ⟨b7, e7⟩ : ∃ b, (lu == 0) = b := ⟨_, rfl⟩
  obtain ⟨b8, e8⟩ : ∃ b, (ti == 0) = b := ⟨_, rfl⟩
  obtain ⟨c0, f0⟩ : ∃ b, nm.toList.isEmpty = b := ⟨_, rfl⟩
  obtain ⟨c1, f1⟩ : ∃ b, (dl == 0) = b := ⟨_, rfl⟩
  obtain ⟨c2, f2⟩ : ∃ b, ((x2 : Int) == 0) = b := ⟨_, rfl⟩
  have HR2 : Hid (oE [c0 && c1 && c2, b1, b2, b3, b4, b5, b6, b7, b8] ps = r) := by
    rw [← e1, ← e2, ← e3, ← e4, ← e5, ← e6, ← e7, ← e8, ← f0, ← f1, ← f2]
    exact HRR
  clear HRR
  have HIB := hide sizeB9
  obtain ⟨n, hnn⟩ : ∃ n, ps.length = n := ⟨_, rfl⟩
  have HNN := hide hnn
  rw [hnn]
  clear hnn
  go_enter Tryz.func31, Tryz.ntmps31
  go_upto_region 1 with fail
  generalize w.alloc (.cells #[.int .i64 ki, .string nm, .int .i64 dl, .slice x1 x2 x3, .string ky, .int .i64 la, .int .i64 wo, .int .i64 tk, .slice y1 y2 y3, .int .i64 ru, .int .u64 lu, .int .i64 ti] 32) = w1 at *
  cases c0
  case false =>
    have HR3 : Hid (oE [false, b1, b2, b3, b4, b5, b6, b7, b8] ps = r) := by
      show _ = _
      rw [← HR2.out]
      rfl
    have HY := hide (heap_alloc_new w1 (.cells #[.bool false, .bool b1, .bool b2, .bool b3, .bool b4, .bool b5, .bool b6, .bool b7, .bool b8] 122))
    have HP2 := hide (HP.out.keep (Keep.alloc (fun _ => False) w1 (.cells #[.bool false, .bool b1, .bool b2, .bool b3, .bool b4, .bool b5, .bool b6, .bool b7, .bool b8] 122)) (fun _ f => f.elim))
    have HB2 := hide (HB.out.trans (((Below.refl w1.heap.size w1).alloc (Nat.le_refl _) (.cells #[.bool false, .bool b1, .bool b2, .bool b3, .bool b4, .bool b5, .bool b6, .bool b7, .bool b8] 122)).mono HB.out.size))
    clear HR2
    go_upto_region 3 with fail
    generalize w1.alloc (.cells #[.bool false, .bool b1, .bool b2, .bool b3, .bool b4, .bool b5, .bool b6, .bool b7, .bool b8] 122) = w2 at *
    generalize w1.heap.size = eb at *
    clear d0 d1 d2 d3 d4 d5 d6 d7 d8 d9 d10 d11 e1 e2 e3 e4 e5 e6 e7 e8
    go_loopw [50] (fun i wx => ∃ k : Nat, k ≤ 9 ∧ i = .int .i64 (k : Nat) ∧ wx = w2 ∧ ∀ i, i < k → ([false, b1, b2, b3, b4, b5, b6, b7, b8] : List Bool)[i]? = some true ∨ i ∈ ps) (fun i _ => 9 - (intOf i).toNat)
    case atStart => exact ⟨0, Nat.zero_le _, rfl, rfl, fun i hi => by omega⟩
    case round =>
      obtain ⟨k, hk, rfl, rfl, hno⟩ := hrel
      have HNO := hide hno
      clear hno
      by_cases hlt : k < 9
      · have hlt2 : ((k : Nat) : Int) < 9 := by omega
        have hge : (0 : Int) ≤ ((k : Nat) : Int) := by omega
        obtain ⟨b, hb⟩ : ∃ b, ([false, b1, b2, b3, b4, b5, b6, b7, b8] : List Bool)[k]? = some b := ⟨_, List.getElem?_eq_getElem (by simpa using hlt)⟩
        have ec := cell_blk HY.out k (v := .bool b) (by
          have : (#[.bool false, .bool b1, .bool b2, .bool b3, .bool b4, .bool b5, .bool b6, .bool b7, .bool b8] : Array Value) = (([false, b1, b2, b3, b4, b5, b6, b7, b8] : List Bool).map Value.bool).toArray := rfl
          rw [this]
          simp only [List.getElem?_toArray, List.getElem?_map, hb, Option.map_some])
        have HBK := hide hb
        clear hb
        cases b with
        | true =>
          go_wp2
          refine ⟨⟨k + 1, by omega, by go_num, by trivial, fun i hi => ?_⟩, by simp [intOf]; omega⟩
          by_cases hik : i < k
          · exact HNO.out i hik
          · have hik : i = k := by omega
            subst hik
            exact .inl HBK.out
        | false =>
          have hc := psC_any a ps k _ HP2.out HN.out
          rw [HNN.out] at hc
          have HC := hide hc
          clear hc
          by_cases hkp : k ∈ ps
          · have HCT : Hid (decide (k ∈ ps) = true) := decide_eq_true hkp
            have HKP := hide hkp
            clear hkp
            go_wp2_with (go_at_call 64; refine HC.out.mono ?_; rw [HCT.out]; rintro e w3 ⟨rfl, rfl⟩)
            refine ⟨⟨k + 1, by omega, by go_num, by trivial, fun i hi => ?_⟩, by simp [intOf]; omega⟩
            by_cases hik : i < k
            · exact HNO.out i hik
            · have hik : i = k := by omega
              subst hik
              exact .inr HKP.out
          · have HCT : Hid (decide (k ∈ ps) = false) := decide_eq_false hkp
            have HE := hide (oE_false hlt HBK.out hkp)
            clear hkp
            go_wp2_with (go_at_call 64; refine HC.out.mono ?_; rw [HCT.out]; rintro e w3 ⟨rfl, rfl⟩)
            refine bodyPost_ret (results_tmp rfl _ _ _) rfl ?_
            exact ⟨by rw [← HR3.out, HE.out]; rfl, HB2.out⟩
      · have hlt2 : ¬ ((k : Nat) : Int) < 9 := by omega
        have HE := hide (oE_true (bs := [false, b1, b2, b3, b4, b5, b6, b7, b8]) (ps := ps) fun i hi => HNO.out i (by omega))
        go_wp2
        refine bodyPost_ret (results_tmp rfl _ _ _) rfl ?_
        exact ⟨by rw [← HR3.out, HE.out]; rfl, HB2.out⟩
  case true =>
    cases c1
    case false =>
      have HR3 : Hid (oE [false, b1, b2, b3, b4, b5, b6, b7, b8] ps = r) := by
        show _ = _
        rw [← HR2.out]
        rfl
      have HY := hide (heap_alloc_new w1 (.cells #[.bool false, .bool b1, .bool b2, .bool b3, .bool b4, .bool b5, .bool b6, .bool b7, .bool b8] 122))
      have HP2 := hide (HP.out.keep (Keep.alloc (fun _ => False) w1 (.cells #[.bool false, .bool b1, .bool b2, .bool b3, .bool b4, .bool b5, .bool b6, .bool b7, .bool b8] 122)) (fun _ f => f.elim))
      have HB2 := hide (HB.out.trans (((Below.refl w1.heap.size w1).alloc (Nat.le_refl _) (.cells #[.bool false, .bool b1, .bool b2, .bool b3, .bool b4, .bool b5, .bool b6, .bool b7, .bool b8] 122)).mono HB.out.size))
      clear HR2
      go_upto_region 3 with fail
      generalize w1.alloc (.cells #[.bool false, .bool b1, .bool b2, .bool b3, .bool b4, .bool b5, .bool b6, .bool b7, .bool b8] 122) = w2 at *
      generalize w1.heap.size = eb at *
      clear d0 d1 d2 d3 d4 d5 d6 d7 d8 d9 d10 d11 e1 e2 e3 e4 e5 e6 e7 e8
      go_loopw [50] (fun i wx => ∃ k : Nat, k ≤ 9 ∧ i = .int .i64 (k : Nat) ∧ wx = w2 ∧ ∀ i, i < k → ([false, b1, b2, b3, b4, b5, b6, b7, b8] : List Bool)[i]? = some true ∨ i ∈ ps) (fun i _ => 9 - (intOf i).toNat)
      case atStart => exact ⟨0, Nat.zero_le _, rfl, rfl, fun i hi => by omega⟩
      case round =>
        obtain ⟨k, hk, rfl, rfl, hno⟩ := hrel
        have HNO := hide hno
        clear hno
        by_cases hlt : k < 9
        · have hlt2 : ((k : Nat) : Int) < 9 := by omega
          have hge : (0 : Int) ≤ ((k : Nat) : Int) := by omega
          obtain ⟨b, hb⟩ : ∃ b, ([false, b1, b2, b3, b4, b5, b6, b7, b8] : List Bool)[k]? = some b := ⟨_, List.getElem?_eq_getElem (by simpa using hlt)⟩
          have ec := cell_blk HY.out k (v := .bool b) (by
            have : (#[.bool false, .bool b1, .bool b2, .bool b3, .bool b4, .bool b5, .bool b6, .bool b7, .bool b8] : Array Value) = (([false, b1, b2, b3, b4, b5, b6, b7, b8] : List Bool).map Value.bool).toArray := rfl
            rw [this]
            simp only [List.getElem?_toArray, List.getElem?_map, hb, Option.map_some])
          have HBK := hide hb
          clear hb
          cases b with
          | true =>
            go_wp2
            refine ⟨⟨k + 1, by omega, by go_num, by trivial, fun i hi => ?_⟩, by simp [intOf]; omega⟩
            by_cases hik : i < k
            · exact HNO.out i hik
            · have hik : i = k := by omega
              subst hik
              exact .inl HBK.out
          | false =>
            have hc := psC_any a ps k _ HP2.out HN.out
            rw [HNN.out] at hc
            have HC := hide hc
            clear hc
            by_cases hkp : k ∈ ps
            · have HCT : Hid (decide (k ∈ ps) = true) := decide_eq_true hkp
              have HKP := hide hkp
              clear hkp
              go_wp2_with (go_at_call 64; refine HC.out.mono ?_; rw [HCT.out]; rintro e w3 ⟨rfl, rfl⟩)
              refine ⟨⟨k + 1, by omega, by go_num, by trivial, fun i hi => ?_⟩, by simp [intOf]; omega⟩
              by_cases hik : i < k
              · exact HNO.out i hik
              · have hik : i = k := by omega
                subst hik
                exact .inr HKP.out
            · have HCT : Hid (decide (k ∈ ps) = false) := decide_eq_false hkp
              have HE := hide (oE_false hlt HBK.out hkp)
              clear hkp
              go_wp2_with (go_at_call 64; refine HC.out.mono ?_; rw [HCT.out]; rintro e w3 ⟨rfl, rfl⟩)
              refine bodyPost_ret (results_tmp rfl _ _ _) rfl ?_
              exact ⟨by rw [← HR3.out, HE.out]; rfl, HB2.out⟩
        · have hlt2 : ¬ ((k : Nat) : Int) < 9 := by omega
          have HE := hide (oE_true (bs := [false, b1, b2, b3, b4, b5, b6, b7, b8]) (ps := ps) fun i hi => HNO.out i (by omega))
          go_wp2
          refine bodyPost_ret (results_tmp rfl _ _ _) rfl ?_
          exact ⟨by rw [← HR3.out, HE.out]; rfl, HB2.out⟩
    case true =>
      have HR3 : Hid (oE [c2, b1, b2, b3, b4, b5, b6, b7, b8] ps = r) := by
        show _ = _
        rw [← HR2.out]
        rfl
      have HY := hide (heap_alloc_new w1 (.cells #[.bool c2, .bool b1, .bool b2, .bool b3, .bool b4, .bool b5, .bool b6, .bool b7, .bool b8] 122))
      have HP2 := hide (HP.out.keep (Keep.alloc (fun _ => False) w1 (.cells #[.bool c2, .bool b1, .bool b2, .bool b3, .bool b4, .bool b5, .bool b6, .bool b7, .bool b8] 122)) (fun _ f => f.elim))
      have HB2 := hide (HB.out.trans (((Below.refl w1.heap.size w1).alloc (Nat.le_refl _) (.cells #[.bool c2, .bool b1, .bool b2, .bool b3, .bool b4, .bool b5, .bool b6, .bool b7, .bool b8] 122)).mono HB.out.size))
      clear HR2
      go_upto_region 3 with fail
      generalize w1.alloc (.cells #[.bool c2, .bool b1, .bool b2, .bool b3, .bool b4, .bool b5, .bool b6, .bool b7, .bool b8] 122) = w2 at *
      generalize w1.heap.size = eb at *
      clear d0 d1 d2 d3 d4 d5 d6 d7 d8 d9 d10 d11 e1 e2 e3 e4 e5 e6 e7 e8
      go_loopw [50] (fun i wx => ∃ k : Nat, k ≤ 9 ∧ i = .int .i64 (k : Nat) ∧ wx = w2 ∧ ∀ i, i < k → ([c2, b1, b2, b3, b4, b5, b6, b7, b8] : List Bool)[i]? = some true ∨ i ∈ ps) (fun i _ => 9 - (intOf i).toNat)
      case atStart => exact ⟨0, Nat.zero_le _, rfl, rfl, fun i hi => by omega⟩
      case round =>
        obtain ⟨k, hk, rfl, rfl, hno⟩ := hrel
        have HNO := hide hno
        clear hno
        by_cases hlt : k < 9
        · have hlt2 : ((k : Nat) : Int) < 9 := by omega
          have hge : (0 : Int) ≤ ((k : Nat) : Int) := by omega
          obtain ⟨b, hb⟩ : ∃ b, ([c2, b1, b2, b3, b4, b5, b6, b7, b8] : List Bool)[k]? = some b := ⟨_, List.getElem?_eq_getElem (by simpa using hlt)⟩
          have ec := cell_blk HY.out k (v := .bool b) (by
            have : (#[.bool c2, .bool b1, .bool b2, .bool b3, .bool b4, .bool b5, .bool b6, .bool b7, .bool b8] : Array Value) = (([c2, b1, b2, b3, b4, b5, b6, b7, b8] : List Bool).map Value.bool).toArray := rfl
            rw [this]
            simp only [List.getElem?_toArray, List.getElem?_map, hb, Option.map_some])
          have HBK := hide hb
          clear hb
          cases b with
          | true =>
            go_wp2
            refine ⟨⟨k + 1, by omega, by go_num, by trivial, fun i hi => ?_⟩, by simp [intOf]; omega⟩
            by_cases hik : i < k
            · exact HNO.out i hik
            · have hik : i = k := by omega
              subst hik
              exact .inl HBK.out
          | false =>
            have hc := psC_any a ps k _ HP2.out HN.out
            rw [HNN.out] at hc
            have HC := hide hc
            clear hc
            by_cases hkp : k ∈ ps
            · have HCT : Hid (decide (k ∈ ps) = true) := decide_eq_true hkp
              have HKP := hide hkp
              clear hkp
              go_wp2_with (go_at_call 64; refine HC.out.mono ?_; rw [HCT.out]; rintro e w3 ⟨rfl, rfl⟩)
              refine ⟨⟨k + 1, by omega, by go_num, by trivial, fun i hi => ?_⟩, by simp [intOf]; omega⟩
              by_cases hik : i < k
              · exact HNO.out i hik
              · have hik : i = k := by omega
                subst hik
                exact .inr HKP.out
            · have HCT : Hid (decide (k ∈ ps) = false) := decide_eq_false hkp
              have HE := hide (oE_false hlt HBK.out hkp)
              clear hkp
              go_wp2_with (go_at_call 64; refine HC.out.mono ?_; rw [HCT.out]; rintro e w3 ⟨rfl, rfl⟩)
              refine bodyPost_ret (results_tmp rfl _ _ _) rfl ?_
              exact ⟨by rw [← HR3.out, HE.out]; rfl, HB2.out⟩
        · have hlt2 : ¬ ((k : Nat) : Int) < 9 := by omega
          have HE := hide (oE_true (bs := [c2, b1, b2, b3, b4, b5, b6, b7, b8]) (ps := ps) fun i hi => HNO.out i (by omega))
          go_wp2
          refine bodyPost_ret (results_tmp rfl _ _ _) rfl ?_
          exact ⟨by rw [← HR3.out, HE.out]; rfl, HB2.out⟩
end Cd
end Go.Proofs.YtbjcckfhfbjchaaGreat
