/- The document's expressions: set. -/
import Derived.Test.YtbgioclbjbmicaaDoorXRs4
import Derived.Test.YtbgioclbjbmicaaDoorXCut
import Derived.Deep.OwnRows
import Derived.Laws.MakeOwn
namespace Go.Proofs.YtbgioclbjbmicaaDoor
open Go.RowKit

/-- Bools of the call's own, in the block g. -/
structure BoAt (w0 : World) (g m : Nat) (H : Nat → Bool) (w : World) : Prop where
  c : ∀ v, v < m → w.cell? ⟨g, v, none⟩ = some (.bool (H v))
  fr : ∀ j, w.frozen? ⟨g, j, none⟩ = false
  ge : w0.heap.size ≤ g
  lt : g < w.heap.size
  bel : Below w0.heap.size w0 w
theorem BoAt.keep {w0 w w' : World} {g m : Nat} {H : Nat → Bool} (h : BoAt w0 g m H w) (b : Below w.heap.size w w') : BoAt w0 g m H w' :=
  ⟨fun j hj => by rw [b.cell (p := ⟨g, j, none⟩) h.lt]; exact h.c j hj, fun j => by rw [b.frozen (p := ⟨g, j, none⟩) h.lt]; exact h.fr j, h.ge, Nat.lt_of_lt_of_le h.lt b.size, h.bel.trans (b.mono h.bel.size)⟩
theorem BoAt.congr {w0 w : World} {g m : Nat} {H H' : Nat → Bool} (h : BoAt w0 g m H w) (e : ∀ v, v < m → H v = H' v) : BoAt w0 g m H' w :=
  ⟨fun j hj => by rw [← e j hj]; exact h.c j hj, h.fr, h.ge, h.lt, h.bel⟩
theorem BoAt.new {w0 w : World} (hb : Below w0.heap.size w0 w) (m : Nat) : BoAt w0 w.heap.size m (fun _ => false) (w.alloc (.cells (madeCells #[.bool false] m) 4)) := by
  refine ⟨fun j hj => ?_, fun j => by simp, hb.size, by simp, Below.put hb _⟩
  rw [cell_of_row _ _ _ _ _ _ (heap_alloc_new w _)]
  simp [madeCells, hj, Nat.mod_one]
theorem BoAt.set {w0 w : World} {g m : Nat} {H : Nat → Bool} (h : BoAt w0 g m H w) {v : Nat} (hv : v < m) : BoAt w0 g m (fun i => H i || decide (i = v)) (w.setCell ⟨g, v, none⟩ (.bool true)) := by
  refine ⟨fun j hj => ?_, fun j => (World.frozen?_setCell _ _ _ _).trans (h.fr j), h.ge, by simpa [World.setCell] using h.lt, Below.setCell h.bel h.ge _⟩
  by_cases e : j = v
  · subst e
    rw [World.cell?_setCell_same _ _ _ (h.c j hj)]
    simp
  · rw [World.cell?_setCell_other _ _ _ _ (by intro e'; injection e' with _ e''; first | exact e e'' | exact e e''.symm), h.c j hj]
    simp [e]
theorem info_bool : (Tryd.prog.info? 4).map (fun i => (i.zero, i.size, i.bytes)) = some (some (.bool false), 1, 1) := by kernel_rfl
theorem make_bools (n : Nat) (hn : n ≤ 1000) (w : World) :
    (Instr.makeSlice 24 (.int .i64 (n : Int)) (.int .i64 (n : Int))).run Tryd.prog w = .ok (.slice (some ⟨w.heap.size, 0, none⟩) n n) (w.alloc (.cells (madeCells #[.bool false] n) 4)) :=
  run_make_row' 24 4 (.bool false) 1 Tryd.underlying24 info_bool rfl .i64 .i64 n (by omega) (by omega) w
namespace X
theorem step_eq {a u v k : Nat} (_hu : a ≤ u) (hv : a ≤ v) (hk : 1 ≤ k) (h1 : (u - a) % k = 0) (h2 : (v - a) % k = 0) : u < v + k ↔ u < v ∨ u = v := by
  constructor
  · intro h
    by_cases c : u < v
    · exact .inl c
    · right
      have d1 : k ∣ u - a := Nat.dvd_of_mod_eq_zero h1
      have d2 : k ∣ v - a := Nat.dvd_of_mod_eq_zero h2
      have d3 : k ∣ (u - a) - (v - a) := Nat.dvd_sub d1 d2
      rw [show (u - a) - (v - a) = u - v by omega] at d3
      rcases Nat.eq_zero_or_pos (u - v) with z | z
      · omega
      · have := Nat.le_of_dvd z d3; omega
  · intro h; omega
/-- What the values from a on by k, ahead of v, make of a set. -/
def partV (F : Nat → Bool) (a k v : Nat) : Nat → Bool := fun u => F u || (decide (a ≤ u) && decide (u < v) && decide ((u - a) % k = 0))
theorem partV_zero (F : Nat → Bool) (a k : Nat) (u : Nat) : F u = partV F a k a u := by
  unfold partV
  have : (decide (a ≤ u) && decide (u < a)) = false := by simp
  rw [this]; simp
theorem partV_step {F : Nat → Bool} {a k v : Nat} (hv : a ≤ v) (hk : 1 ≤ k) (h2 : (v - a) % k = 0) (u : Nat) : (partV F a k v u || decide (u = v)) = partV F a k (v + k) u := by
  unfold partV
  rw [Bool.or_assoc]
  congr 1
  rw [Bool.eq_iff_iff]
  simp only [Bool.or_eq_true, Bool.and_eq_true, decide_eq_true_eq]
  constructor
  · rintro (⟨⟨h3, h4⟩, h5⟩ | rfl)
    · exact ⟨⟨h3, by omega⟩, h5⟩
    · exact ⟨⟨hv, by omega⟩, h2⟩
  · rintro ⟨⟨h3, h4⟩, h5⟩
    rcases (step_eq h3 hv hk h5 h2).1 h4 with c | c
    · exact .inl ⟨⟨h3, c⟩, h5⟩
    · exact .inr c
theorem partV_end {S : Sets} {o a b k v : Nat} (hv : a ≤ v) (hk : 1 ≤ k) (h2 : (v - a) % k = 0) (hb : b < v) (hb2 : v ≤ b + k) (u : Nat) : partV (fun u => S (o + u)) a k v u = addV S o a b k (o + u) := by
  rw [addV_at]
  unfold partV
  congr 1
  rw [Bool.eq_iff_iff]
  simp only [Bool.and_eq_true, decide_eq_true_eq]
  constructor
  · rintro ⟨⟨h3, h4⟩, h5⟩
    refine ⟨⟨h3, ?_⟩, h5⟩
    by_cases c : u + k ≤ v
    · omega
    · rcases (step_eq hv h3 hk h2 h5).1 (by omega) with d | d <;> omega
  · rintro ⟨⟨h3, h4⟩, h5⟩
    exact ⟨⟨h3, by omega⟩, h5⟩
theorem next_mod {a v k : Nat} (hv : a ≤ v) (h2 : (v - a) % k = 0) : (v + k - a) % k = 0 := by
  rw [show v + k - a = v - a + k by omega, Nat.add_mod_right]; exact h2
theorem addItems_cons (o lo hi : Nat) (x : List UInt8) (r : List (List UInt8)) (S : Sets) : addItems o lo hi (x :: r) S = match itemM x lo hi with
    | none => none
    | some q => addItems o lo hi r (addV S o q.1 q.2.1 q.2.2) := by
  rw [addItems]
  cases itemM x lo hi <;> rfl
end X
/-- What set answers. -/
def SetEnd (f : Nat) (r : Option X.Sets) (w : World) (e : Ending) (w' : World) : Prop :=
  match r with
  | none => e = .returned (.tuple #[.slice none 0 0, .bool false])
  | some T => ∃ g, e = .returned (.tuple #[.slice (some ⟨g, 0, none⟩) (X.hiF f + 1) (X.hiF f + 1), .bool true]) ∧ (∀ v, v < X.hiF f + 1 → w'.cell? ⟨g, v, none⟩ = some (.bool (T (60 * f + v)))) ∧ w.heap.size ≤ g ∧ g < w'.heap.size
/-- The items in memory. -/
def ItsAt (gi : Nat) (ws : List ByteArray) (w : World) : Prop := ∀ j x, ws[j]? = some x → w.cell? ⟨gi, j, none⟩ = some (.string x)
theorem ItsAt.keep {gi : Nat} {ws : List ByteArray} {w w' : World} (h : ItsAt gi ws w) (b : Below w.heap.size w w') : ItsAt gi ws w' := fun j x hx => by
  have := h j x hx
  rw [b.cell (p := ⟨gi, j, none⟩) (World.block_lt_of_cell? _ _ this)]; exact this
theorem ItsAt.set {gi g v : Nat} {ws : List ByteArray} {w : World} (h : ItsAt gi ws w) (hg : gi ≠ g) (u : Value) : ItsAt gi ws (w.setCell ⟨g, v, none⟩ u) := fun j x hx => by
  rw [World.cell?_setCell_other _ _ _ _ (by intro e; injection e with e'; first | exact hg e' | exact hg e'.symm)]; exact h j x hx
set_option maxHeartbeats 4000000 in
set_option maxRecDepth 100000 in
theorem refSet_any (x : ByteArray) (hx : x.size ≤ 1024) (f : Nat) (hf : f < 5) (S : X.Sets) (hS : ∀ v, v ≤ X.hiF f → S (60 * f + v) = false) (w : World) :
    Calls Tryd.prog 40 #[.string x, .int .i64 f] w fun e w' => SetEnd f (X.addWord (60 * f) (X.loF f) (X.hiF f) x.data.toList S) w e w' ∧ Below w.heap.size w w' := by
  have hlh := X.loF_le f
  generalize hR : X.addWord (60 * f) (X.loF f) (X.hiF f) x.data.toList S = R
  have hR' : X.addItems (60 * f) (X.loF f) (X.hiF f) (X.splitOn 44 x.data.toList) S = R := hR
  have HI := hide (fun (y : ByteArray) (hy : y.size ≤ 1024) (w : World) => refItem_any y hy f hf w)
  have HG := hide (fun (w : World) => greatest_any f hf w)
  unfold SetEnd
  generalize hLo : X.loF f = lo at *
  generalize hHi : X.hiF f = hi at *
  obtain ⟨m, hm⟩ : ∃ m, m = hi + 1 := ⟨_, rfl⟩
  rw [← hm]
  have hadd : (hi : Int) + 1 = (m : Int) := by omega
  have b0 : (hi : Int) ≤ 59 := by omega
  have b1 : (0 : Int) ≤ hi := by omega
  have b2 : (0 : Int) ≤ m := by omega
  have b3 : (m : Int) ≤ 60 := by omega
  have b4 : m ≤ 60 := by omega
  have hmk := make_bools m (by omega)
  have HM := hide hm
  have HR := hide hR'
  have HS := hide hS
  clear hm hR hR' hLo hHi hS
  go_enter Tryd.func40, Tryd.ntmps40
  go_wp2_with fail
  go_at_call 57
  refine (HG.out _).mono ?_
  rintro e w1 ⟨rfl, hb1⟩
  have hN := BoAt.new hb1 m
  generalize hg : w1.heap.size = g at *
  go_wp2_with fail
  clear hmk
  generalize w1.alloc (.cells (madeCells #[.bool false] m) 4) = W2 at *
  go_at_call 58
  refine (refSplit_any x (by omega) 44 _).mono ?_
  rintro e w3 ⟨hse, hb3⟩
  obtain ⟨gi, cap, ws, rfl, hws, hwz, hcl, hg1, hg2⟩ := hse.rows (X.splitOn_ne _ _)
  have hN3 := hN.keep hb3
  have hgi : gi ≠ g := by have := hN.lt; omega
  have hIt : ItsAt gi ws w3 := hcl
  rw [← hws] at HR
  have hN4 := hN3.congr (H' := fun v => S (60 * f + v)) (fun v hv => (HS.out v (by have := HM.out; omega)).symm)
  have hnn : ws.length ≤ 1048577 := by
    have := congrArg List.length hws
    rw [List.length_map] at this
    have h2 := splitOn_len 44 x.data.toList
    have h3 : x.data.toList.length = x.size := by simp
    omega
  clear hse hb3 hb1 hcl hN hN3 hg1 hg2 hws HS hg
  go_wp2_with fail
  go_loopw [8] (fun y wx => ∃ (i : Nat) (T : X.Sets), y = .int .i64 i ∧ i ≤ ws.length ∧ Hid (X.addItems (60 * f) lo hi ((ws.drop i).map (·.data.toList)) T = R) ∧ BoAt w g m (fun v => T (60 * f + v)) wx ∧ ItsAt gi ws wx) (fun y _ => ws.length - (intOf y).toNat)
  case atStart => exact ⟨0, S, rfl, by omega, HR.out, hN4, hIt⟩
  case round =>
    obtain ⟨i, T, rfl, hi', HA, hB, hI⟩ := hrel
    clear hN4 hIt HR
    by_cases hlt : i < ws.length
    · obtain ⟨z, hz⟩ : ∃ z, ws[i]? = some z := ⟨_, List.getElem?_eq_getElem hlt⟩
      have hdr : ws.drop i = z :: ws.drop (i + 1) := by
        rw [List.drop_eq_getElem_cons hlt]
        congr 1
        rw [List.getElem?_eq_getElem hlt] at hz
        injection hz
      have hzz := hwz z (List.mem_of_getElem? hz)
      have cz := hI i z hz
      have i1 : (i : Int) < ws.length := by omega
      have hstep := HA.out
      rw [hdr, List.map_cons, X.addItems_cons] at hstep
      have HSt := hide hstep
      clear hstep hdr
      go_wp2_with fail
      go_at_call 59
      refine (HI.out z (by omega) _).mono ?_
      rintro e w4 ⟨⟨a, b, k, ok, rfl, his⟩, hb4⟩
      have hB4 := hB.keep hb4
      have hI4 := hI.keep hb4
      clear hB hI cz
      cases hit : X.itemM z.data.toList lo hi with
      | none =>
        unfold RItemIs at his
        rw [hit] at his
        have hok : ok = false := his
        subst hok
        have hst := HSt.out
        rw [hit] at hst
        have hst' : R = none := hst.symm
        subst hst'
        have HB4 := hide hB4.bel
        go_wp2_with fail
        go_ret2
        exact ⟨rfl, HB4.out⟩
      | some q =>
        unfold RItemIs at his
        rw [hit] at his
        obtain ⟨hok, ha, hb, hk⟩ := his
        have hq := X.itemM_bounds hit hlh.1
        have hst := HSt.out
        rw [hit] at hst
        obtain ⟨an, bn, kn⟩ := q
        simp only at ha hb hk hq hst
        subst hok ha hb hk
        have HT := hide hst
        clear hst HSt hit
        have q1 : (an : Int) ≤ bn := by omega
        have q2 : (bn : Int) ≤ 59 := by omega
        have q3 : (1 : Int) ≤ kn := by omega
        have q4 : (kn : Int) ≤ 59 := by omega
        have hBs := hB4.congr (H' := X.partV (fun v => T (60 * f + v)) an kn an) (fun v _ => X.partV_zero (fun v => T (60 * f + v)) an kn v)
        clear hB4
        go_wp2_with fail
        go_loopw [13] (fun y wx => ∃ v : Nat, y = .int .i64 v ∧ an ≤ v ∧ v ≤ bn + kn ∧ Hid ((v - an) % kn = 0) ∧ BoAt w g m (X.partV (fun v => T (60 * f + v)) an kn v) wx ∧ ItsAt gi ws wx) (fun y _ => bn + 1 - (intOf y).toNat)
        case atStart => exact ⟨an, rfl, by omega, by omega, (by show _ = _; simp), hBs, hI4⟩
        case round =>
          obtain ⟨v, rfl, v0, v1, HV, hBv, hIv⟩ := hrel
          clear hBs hI4
          by_cases hvb : v ≤ bn
          · have cv := hBv.c v (by have := HM.out; omega)
            have fv := hBv.fr v
            have u0 : (v : Int) ≤ bn := by omega
            have u1 : (0 : Int) ≤ v := by omega
            have u2 : (v : Int) < m := by have := HM.out; omega
            have HB5 := hide ((hBv.set (v := v) (by have := HM.out; omega)).congr (H' := X.partV (fun v => T (60 * f + v)) an kn (v + kn)) fun u _ => X.partV_step v0 (by omega) HV.out u)
            have HI5 := hide (hIv.set (v := v) hgi (.bool true))
            have HV5 := hide (X.next_mod v0 HV.out)
            clear hBv hIv
            go_wp2_with fail
            exact ⟨⟨v + kn, by go_num, by omega, by omega, HV5, HB5.out, HI5.out⟩, by simp [intOf]; omega⟩
          · have u0 : ¬ (v : Int) ≤ bn := by omega
            have HB5 := hide (hBv.congr (H' := fun u => X.addV T (60 * f) an bn kn (60 * f + u)) fun u _ => X.partV_end v0 (by omega) HV.out (by omega) v1 u)
            have HI5 := hide hIv
            clear hBv hIv
            go_wp2_with fail
            exact ⟨⟨i + 1, _, by go_num, by omega, HT, HB5.out, HI5.out⟩, by simp [intOf]; omega⟩
    · have i1 : ¬ (i : Int) < ws.length := by omega
      have hst := HA.out
      rw [List.drop_eq_nil_of_le (by omega), List.map_nil, X.addItems] at hst
      subst hst
      have HB := hide hB
      clear hB hI
      go_wp2_with fail
      go_ret2
      exact ⟨⟨g, rfl, HB.out.c, HB.out.ge, HB.out.lt⟩, HB.out.bel⟩
end Go.Proofs.YtbgioclbjbmicaaDoor
