/- Codec: the laws' marks. -/
import Derived.Test.YtbjcckfhfbjchaaGreatCGi
import Derived.Laws.MakeOwn
namespace Go.Proofs.YtbjcckfhfbjchaaGreat
namespace Cd
open Go.RowKit Go.Deep

def mkp (z : List Int) (i : Nat) : Nat → List Bool
  | 0 => List.replicate i false
  | k + 1 => (mkp z i k).set (pkk (z.getD k 0) (i : Int)).toNat true
def mkn (z : List Int) (i : Nat) : Nat := if i = 0 then 0 else min z.length 1000
def mkv (z : List Int) (i : Nat) : List Bool := mkp z i (mkn z i)
theorem mkp_len (z : List Int) (i : Nat) : ∀ k, (mkp z i k).length = i
  | 0 => by simp [mkp]
  | k + 1 => by simp [mkp, mkp_len z i k]
theorem mkv_len (z : List Int) (i : Nat) : (mkv z i).length = i := mkp_len z i _
theorem info_bool : (Tryz.prog.info? 4).map (fun i => (i.zero, i.size, i.bytes)) = some (some (.bool false), 1, 1) := by kernel_rfl
theorem made_bools (u : World) (m : Nat) (hm : m ≤ 64) : ∃ w', (Instr.makeSlice 82 (.int .i64 (m : Int)) (.int .i64 (m : Int))).run Tryz.prog u = .ok (.slice (some ⟨u.heap.size, 0, none⟩) m m) w' ∧ w'.ownsRow u.heap.size 4 1 (.slice (some ⟨u.heap.size, 0, none⟩) m m) m ((List.replicate m false).map Value.bool) ∧ Below u.heap.size u w' := by
  obtain ⟨i0, hi, hz0, hz1, hz2⟩ := info_parts info_bool
  obtain ⟨w', h1, h2, h3⟩ := run_make_full (P := Tryz.prog) u u.heap.size 82 4 i0 (.bool false) 1 Tryz.underlying82 hi hz0 hz1 .i64 .i64 m (by rw [hz2]; omega) (by unfold maxLen; omega) (Nat.le_refl _)
  refine ⟨w', h1, ?_, (Below.refl _ _).grown h3 (Nat.le_refl _) (fun k e => by cases e)⟩
  have e : (madeCells (Value.bool false).cells (m * 1)).toList = (List.replicate m false).map Value.bool := by
    rw [Nat.mul_one, List.map_replicate]
    exact toList_madeCells_one _ _
  rw [← e]
  exact h2
set_option maxRecDepth 10000 in
theorem marks12_any (s : Option Addr × Nat × Nat) (z : List Int) (B i : Nat) (hi : i ≤ 64) (w : World) (hz : Gr.RdZ B w s z) (hb : ∀ x ∈ z, In64 x) :
    Calls Tryz.prog 39 #[.slice s.1 s.2.1 s.2.2, .int .i64 (i : Int)] w fun e w' => e = .returned (.slice (some ⟨w.heap.size, 0, none⟩) i i) ∧ w'.ownsRow w.heap.size 4 1 (.slice (some ⟨w.heap.size, 0, none⟩) i i) i ((mkv z i).map Value.bool) ∧ Below w.heap.size w w' := by
  obtain ⟨a, n, c⟩ := s
  have HN : Hid (n = z.length) := hz.1
  have hn2 : n ≤ 17592186044416 := hz.2.1
  have HZ := hide hz
  have HI := hide hb
  obtain ⟨w1, hm, ho, hb1⟩ := made_bools w i hi
  have HO := hide ho
  have HB := hide hb1
  have HM : Hid (mkv z i = mkp z i (mkn z i)) := rfl
  have HK : Hid (mkn z i = if i = 0 then 0 else min z.length 1000) := rfl
  generalize mkv z i = R at *
  generalize mkn z i = m at *
  clear hz hb ho hb1
  go_enter Tryz.func39, Tryz.ntmps39
  go_wp2_with fail
  clear hm
  go_loopw [6] (fun iv wr => ∃ k : Nat, iv = .int .i64 (k : Nat) ∧ k ≤ n ∧ k ≤ 1000 ∧ Hid ((i = 0 → k = 0) ∧ wr.ownsRow w.heap.size 4 1 (.slice (some ⟨w.heap.size, 0, none⟩) i i) i ((mkp z i k).map Value.bool) ∧ Below w.heap.size w wr)) (fun iv _ => n - (intOf iv).toNat)
  case atStart => exact ⟨0, rfl, Nat.zero_le _, Nat.zero_le _, fun _ => rfl, HO.out, HB.out⟩
  case round => as_aux_lemma =>
    clear HO HB
    obtain ⟨k, rfl, hk, hk2, HD⟩ := hrel
    by_cases c1 : k < n
    · have c1' : (k : Int) < (n : Int) := by omega
      by_cases c2 : k < 1000
      · have c2' : (k : Int) < 1000 := by omega
        by_cases c3 : 0 < i
        · have c3' : (0 : Int) < (i : Int) := by omega
          obtain ⟨g, off, x, ha, hg, hx, hc⟩ := (HZ.out.new (Keep.ofBelow (S := fun _ => False) HD.out.2.2 (Nat.le_refl _))).at c1
          have ha : a = some ⟨g, off, none⟩ := ha
          subst ha
          have hx64 := HI.out x (List.mem_of_getElem? hx)
          obtain ⟨p1, p2⟩ := pkk_lt (c := x) (n := (i : Int)) c3'
          have PK := hide (fun W => pick12_any x (i : Int) c3' hx64.1 hx64.2 (by omega) W)
          obtain ⟨j, hj⟩ := Int.eq_ofNat_of_zero_le p1
          rw [hj] at PK
          have hji : j < i := by omega
          have hji' : (j : Int) < (i : Int) := by omega
          have HS : Hid ((mkp z i (k + 1)).map Value.bool = ((mkp z i k).map Value.bool).set j (.bool true)) := by
            have e : z.getD k 0 = x := by rw [List.getD_eq_getElem?_getD, hx]; rfl
            show ((mkp z i k).set (pkk (z.getD k 0) (i : Int)).toNat true).map Value.bool = _
            rw [e, hj, List.map_set, Int.toNat_natCast]
          obtain ⟨y, hy⟩ : ∃ y, ((mkp z i k).map Value.bool)[j]? = some y := ⟨_, List.getElem?_eq_getElem (by rw [List.length_map, mkp_len]; exact hji)⟩
          have cc := HD.out.2.1.cellAt j (by omega)
          rw [hy] at cc
          have fz := HD.out.2.1.frozenAt j
          have N1 : Hid ((wr.setCell ⟨w.heap.size, j, none⟩ (.bool true)).ownsRow w.heap.size 4 1 (.slice (some ⟨w.heap.size, 0, none⟩) i i) i ((mkp z i (k + 1)).map Value.bool) ∧ Below w.heap.size w (wr.setCell ⟨w.heap.size, j, none⟩ (.bool true))) := by
            refine ⟨?_, HD.out.2.2.trans (((keep_cell wr w.heap.size j (.bool true)).below HD.out.2.2.size fun i e => by have e : i = _ := e; omega))⟩
            rw [HS.out]
            exact (HD.out.2.1.stored j (.bool true)).1
          clear hx hx64 p1 p2 hj hy HS
          go_wp2_with (go_at_call 19; refine (PK.out _).mono ?_; rintro e w' ⟨rfl, rfl⟩)
          go_roundw
          · exact ⟨k + 1, rfl, by omega, by omega, (fun h => by omega), N1.out⟩
          · show n - ((k : Int) + 1).toNat < n - (k : Int).toNat
            omega
        · have c3' : ¬ (0 : Int) < (i : Int) := by omega
          have E : Hid (mkp z i k = R) := by
            have hi0 : i = 0 := by omega
            rw [HM.out, HK.out, if_pos hi0, HD.out.1 hi0]
            exact rfl
          go_wp2_with fail
          go_ret
          exact ⟨rfl, E.out ▸ HD.out.2.1, HD.out.2.2⟩
      · have c2' : ¬ (k : Int) < 1000 := by omega
        have E : Hid (mkp z i k = R) := by
          have hk0 : k = 1000 := by omega
          have hi0 : ¬ i = 0 := fun h => by have := HD.out.1 h; omega
          rw [HM.out, HK.out, if_neg hi0, show min z.length 1000 = k by have := HN.out; omega]
          exact rfl
        go_wp2_with fail
        go_ret
        exact ⟨rfl, E.out ▸ HD.out.2.1, HD.out.2.2⟩
    · have c1' : ¬ (k : Int) < (n : Int) := by omega
      have E : Hid (mkp z i k = R) := by
        show _ = _
        by_cases hi0 : i = 0
        · rw [HM.out, HK.out, if_pos hi0, HD.out.1 hi0]
        · rw [HM.out, HK.out, if_neg hi0, show min z.length 1000 = k by have := HN.out; omega]
      go_wp2_with fail
      go_ret
      exact ⟨rfl, E.out ▸ HD.out.2.1, HD.out.2.2⟩
end Cd
end Go.Proofs.YtbjcckfhfbjchaaGreat
