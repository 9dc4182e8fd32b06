/- Package source: Text. -/
import Derived.Test.YtmadgickfdmibaaGreatDoorUTx4
import Derived.Test.YtmadgickfdmibaaGreatDoorGChk
namespace Go.Proofs.YtmadgickfdmibaaGreatDoor
namespace U
open Go.RowKit

theorem cN_each : ∀ (n i : Nat) (seen : List ByteArray) (xs : List Gr.No), (Gr.cN n i seen xs).2 = 0 → ∀ x ∈ xs, Gr.isNm x.q.nm = true ∧ Gr.fOk x.q = true
  | _, _, _, [], _, x, hx => by cases hx
  | n, i, seen, y :: xs, h, x, hx => by
    unfold Gr.cN at h
    split at h
    · simp at h
    · rename_i c1
      split at h
      · simp at h
      · rename_i c2
        split at h
        · simp at h
        · rcases List.mem_cons.1 hx with rfl | hx
          · simp only [Bool.or_eq_true, not_or, Bool.not_eq_true', Bool.not_eq_false] at c1 c2
            exact ⟨by simpa using c1.1, by simpa using c2⟩
          · exact cN_each n (i + 1) _ xs h x hx
theorem edges_each {xs : List Gr.No} {x : Gr.No} (hx : x ∈ xs) : x.nl.length + x.al.length ≤ Gr.edges xs := by
  unfold Gr.edges
  induction xs with
  | nil => cases hx
  | cons y xs ih =>
    simp only [List.map_cons, List.sum_cons]
    rcases List.mem_cons.1 hx with rfl | hx
    · omega
    · have := ih hx
      omega
theorem wok_of {nm : List UInt8} {dl : Int} {xs : List Gr.No} (h : (Gr.chk (ba nm) dl xs).2 = 0) : WOk nm dl xs := by
  obtain ⟨h1, h2, h3, h4, h5⟩ := Gr.chk_ok h
  have hn := cN_each _ _ _ _ h2
  unfold Gr.cW at h1
  split at h1
  · simp at h1
  · rename_i c1
    split at h1
    · simp at h1
    · rename_i c2
      split at h1
      · simp at h1
      · rename_i c3
        simp only [Bool.not_eq_true', Bool.not_eq_false, Bool.or_eq_true, not_or, decide_eq_true_eq] at c1 c2 c3
        have hsz : ∀ s, Gr.isNm s = true → s.size ≤ 40 := fun s hs => by
          unfold Gr.isNm at hs
          simp [Gr.wI] at hs
          omega
        refine ⟨by have := hsz _ c1; rwa [ba_size] at this, ?_, h4.1, fun x hx => ?_⟩
        · simp [Gr.wI] at c2
          exact ⟨by omega, by omega⟩
        · obtain ⟨g1, g2⟩ := hn x hx
          have g3 := edges_each hx
          have g4 := h4.2 x hx
          unfold Gr.fOk at g2
          simp [Gr.wI] at g2
          refine ⟨hsz _ g1, ⟨?_, ?_⟩, ⟨?_, ?_⟩, ⟨?_, ?_⟩, ⟨?_, ?_⟩, ⟨?_, ?_⟩, ⟨?_, ?_⟩, ⟨?_, ?_⟩, ?_, ?_, fun e he => g4 e (List.mem_append_left _ he), fun e he => g4 e (List.mem_append_right _ he)⟩ <;> omega
/-- what Text writes -/
noncomputable def txt (nm : List UInt8) (dl : Int) (xs : List Gr.No) : List UInt8 := if (Gr.chk (ba nm) dl xs).2 = 0 then textOf nm dl xs else []
set_option maxHeartbeats 2000000 in
theorem text_any (nm : List UInt8) (dl : Int) (s : Option Addr × Nat × Nat) (xs : List Gr.No) (B : Nat) (w : World) (hP : Gr.RdP B w s xs) (hB : B ≤ w.heap.size) (hE : EnvI w) (hs : Gr.Sz (ba nm) xs) :
    Calls Tryz.prog 13 #[.agg #[.string (ba nm), .int .i64 dl, .slice s.1 s.2.1 s.2.2]] w fun e w' => e = .returned (.tuple #[.string (ba (txt nm dl xs)), .int .i64 ((Gr.chk (ba nm) dl xs).2 : Nat)]) ∧ Below w.heap.size w w' := by
  obtain ⟨sa, sn, sc⟩ := s
  simp only
  have bel0 : Below w.heap.size w (w.alloc (.cells #[.string (ba nm), .int .i64 dl, .slice sa sn sc] 25)) := (Below.refl _ w).alloc (Nat.le_refl _) _
  have hbx := heap_alloc_new w (.cells #[.string (ba nm), .int .i64 dl, .slice sa sn sc] 25)
  have hz0 : (w.alloc (.cells #[.string (ba nm), .int .i64 dl, .slice sa sn sc] 25)).heap.size = w.heap.size + 1 := by simp
  have CK := hide (fun w' hP hB => Gr.check_any (ba nm) dl (sa, sn, sc) xs B w' hP hB hs)
  have WR := hide (fun w' hP hB hE hok => write_any nm dl (sa, sn, sc) xs B w' hP hB hE hok)
  have HTX : Hid (txt nm dl xs = if (Gr.chk (ba nm) dl xs).2 = 0 then textOf nm dl xs else []) := rfl
  have HOK := hide (fun h => wok_of (nm := nm) (dl := dl) (xs := xs) h)
  have HP := hide hP
  have HE := hide hE
  have HBX := hide hbx
  have BEL := hide bel0
  have c0 := cell_blk hbx 0 (v := .string (ba nm)) rfl
  have c1 := cell_blk hbx 1 (v := .int .i64 dl) rfl
  have c2 := cell_blk hbx 2 (v := .slice sa sn sc) rfl
  clear hP hE hbx bel0 hs
  generalize Gr.chk (ba nm) dl xs = R at *
  obtain ⟨r1, r2⟩ := R
  simp only at HTX HOK CK ⊢
  go_enter Tryz.func13, Tryz.ntmps13
  go_upto_region 1 with fail
  generalize w.alloc (.cells #[.string (ba nm), .int .i64 dl, .slice sa sn sc] 25) = w1 at *
  go_wp2_with fail
  go_at_call 28
  refine (CK.out w1 (rdp_below HP.out BEL.out hB) (by omega)).mono ?_
  rintro e w2 ⟨rfl, k2⟩
  have HB2 : Hid (Below w.heap.size w w2) := BEL.out.trans (k2.below (by omega) fun _ h => h.elim)
  have HX2 : Hid (w2.heap[w.heap.size]? = some (.cells #[.string (ba nm), .int .i64 dl, .slice sa sn sc] 25 (0, 0))) := (k2.block _ (by omega) fun h => h).trans HBX.out
  clear k2 c0 c1 c2 CK BEL HBX
  have hsz2 := HB2.out.size
  by_cases h0 : r2 = 0
  · subst h0
    have hx := HX2.out
    have c0 := cell_blk hx 0 (v := .string (ba nm)) rfl
    have c1 := cell_blk hx 1 (v := .int .i64 dl) rfl
    have c2 := cell_blk hx 2 (v := .slice sa sn sc) rfl
    have C := hide (WR.out w2 (rdp_below HP.out HB2.out hB) (by omega) (HE.out.below HB2.out) (HOK.out rfl))
    clear hx WR HOK
    go_wp2_with fail
    go_at_call 29
    refine C.out.mono ?_
    rintro e w3 ⟨rfl, b3⟩
    have F := hide (HB2.out.trans (b3.mono hsz2))
    clear b3
    go_wp2_with fail
    go_ret2
    rw [show txt nm dl xs = textOf nm dl xs from HTX.out.trans (if_pos trivial)]
    exact ⟨rfl, F.out⟩
  · have h0' : ((r2 : Int) == 0) = false := by simp; omega
    go_wp2_with fail
    go_ret2
    rw [show txt nm dl xs = [] from HTX.out.trans (if_neg h0)]
    exact ⟨rfl, HB2.out⟩
end U
end Go.Proofs.YtmadgickfdmibaaGreatDoor
