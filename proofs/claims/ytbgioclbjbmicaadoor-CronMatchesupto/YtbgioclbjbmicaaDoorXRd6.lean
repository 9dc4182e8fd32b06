/- The document's days: Matches. -/
import Derived.Test.YtbgioclbjbmicaaDoorXRd5
import Derived.BigQuiet
namespace Go.Proofs.YtbgioclbjbmicaaDoor
open Go.RowKit

/-- The worlds behind W: all older memory as it was. -/
def Behind (W : World) : Type := { x : World // Below W.heap.size W x }
theorem behindNE (W : World) : Nonempty (Behind W) := ⟨⟨W, Below.refl _ _⟩⟩
theorem quiet_behind {id : Nat} {Q : Exit → Act → World → Prop} {a : Act} {W : World} {l : List Oper} (hm : Tryd.prog.follows .mixedOrders = true) (hB : Region.lexB .any l.toArray = true)
    (h : wpQuiet Tryd.prog l.toArray (fun w' => ∃ u : Behind W, w' = u.1) (fun a' => ∀ w', (∃ u : Behind W, w' = u.1) → Q .normal a' w') l a) : (Code.region id l.toArray true).wp Tryd.prog Q a W :=
  wp_region_quiet (C := fun w' => ∃ u : Behind W, w' = u.1) hm hB ⟨⟨_, (⟨rfl, rfl, rfl, Nat.le_refl _, fun _ _ => rfl⟩ : Below W.heap.size W W.drew)⟩, rfl⟩ (by simpa using h)
theorem calls_behind {f : FuncId} {args : Array Value} {W : World} (u : Behind W) {v : Value}
    (h : Calls Tryd.prog f args u.1 fun e w' => e = .returned v ∧ Below u.1.heap.size u.1 w') : Calls Tryd.prog f args u.1 fun e w'' => e = .returned v ∧ ∃ u' : Behind W, w'' = u'.1 :=
  h.mono fun _ _ ⟨he, hb⟩ => ⟨he, ⟨_, u.2.trans (hb.mono u.2.size)⟩, rfl⟩
theorem Behind.cell {W : World} (u : Behind W) {p : Addr} {v : Value} (h : W.cell? p = some v) : u.1.cell? p = some v := (u.2.cell (World.block_lt_of_cell? _ _ h)).trans h
theorem tmod60 (t : Int) : t.tmod 60 = 0 ↔ t % 60 = 0 := by
  rcases Int.le_total 0 t with h | h
  · rw [Int.tmod_eq_emod_of_nonneg h]
  · constructor
    · intro k
      have := Int.dvd_of_tmod_eq_zero k
      exact Int.emod_eq_zero_of_dvd this
    · intro k
      exact Int.tmod_eq_zero_of_dvd (Int.dvd_of_emod_eq_zero k)
set_option maxHeartbeats 4000000 in
set_option maxRecDepth 100000 in
theorem refMatches_in (G : Nat → Nat) (S : X.Sets) (hG : X.Good S) (t : Int) (h0 : 0 ≤ t) (h1 : t ≤ 4611686018427387904) (h2 : t % 60 = 0) (w : World) (hX : RxAt G S w) :
    Calls Tryd.prog 13 #[rex G, .int .i64 t] w fun e w' => e = .returned (.bool (X.matB S t)) ∧ Below w.heap.size w w' := by
  obtain ⟨mi, hmi⟩ : ∃ mi : Nat, t / 60 % 60 = (mi : Int) := ⟨(t / 60 % 60).toNat, by omega⟩
  obtain ⟨hr, hhr⟩ : ∃ hr : Nat, t / 3600 % 24 = (hr : Int) := ⟨(t / 3600 % 24).toNat, by omega⟩
  obtain ⟨dn, hdn⟩ : ∃ dn : Int, t / 86400 = dn := ⟨_, rfl⟩
  have d0 : 0 ≤ dn := by omega
  have d1 : dn ≤ 53375995583650 := by omega
  have hmat : X.matB S t = (X.onR S (X.rec' dn) && S (60 + hr) && S mi) := by
    have e1 : (K.hh t).toNat = hr := by unfold K.hh; omega
    have e2 : (K.mm t).toNat = mi := by unfold K.mm; omega
    unfold X.matB
    rw [X.fit_rec, e1, e2, hdn]
    simp [h0, h1, h2]
  rw [hmat]
  clear hmat
  have hm : t.tmod 60 = 0 := (tmod60 t).2 h2
  have bd := X.rec_bd dn d0
  have HDa := hide (fun (w : World) => date_any dn d0 d1 w)
  generalize hrr : X.rec' dn = r at *
  clear hrr
  obtain ⟨ry, rm, rd, rk⟩ := r
  simp only at bd
  obtain ⟨mm, rfl⟩ : ∃ mm : Nat, rm = mm := ⟨rm.toNat, by omega⟩
  obtain ⟨dd, rfl⟩ : ∃ dd : Nat, rd = dd := ⟨rd.toNat, by omega⟩
  obtain ⟨kk, rfl⟩ : ∃ kk : Nat, rk = kk := ⟨rk.toNat, by omega⟩
  have HOn := hide (fun (w : World) (hX : RxAt G S w) => on_any G S ry mm dd kk (by omega) (by omega) (by omega) w hX)
  have HEi := hide (fun (w : World) (hX : RxAt G S w) => either_any G S hG w hX)
  generalize X.onR S ⟨ry, mm, dd, kk⟩ = O at *
  generalize X.enough S = En at *
  have cm := hX 0 (by decide) mi (by show mi < 60; omega)
  have ch := hX 1 (by decide) hr (by show hr < 24; omega)
  rw [show 60 * 0 + mi = mi by omega] at cm
  rw [show 60 * 1 + hr = 60 + hr by omega] at ch
  have i0 : (mi : Int) < 60 := by omega
  have i1 : (hr : Int) < 24 := by omega
  have j0 : (0 : Int) ≤ mi := by omega
  have j1 : (0 : Int) ≤ hr := by omega
  generalize S mi = sm at *
  generalize S (60 + hr) = sh at *
  unfold rdt at HDa
  simp only at HDa
  have hBx := Bx.new w G
  have hb1 : Below w.heap.size w (w.alloc (.cells #[.slice (some ⟨G 0, 0, none⟩) 60 60, .slice (some ⟨G 1, 0, none⟩) 24 24, .slice (some ⟨G 2, 0, none⟩) 32 32, .slice (some ⟨G 3, 0, none⟩) 13 13, .slice (some ⟨G 4, 0, none⟩) 7 7] 26)) := Below.put (Below.refl _ _) _
  clear bd
  unfold rex
  go_enter Tryd.func13, Tryd.ntmps13
  go_wp2_with fail
  generalize w.alloc (.cells #[.slice (some ⟨G 0, 0, none⟩) 60 60, .slice (some ⟨G 1, 0, none⟩) 24 24, .slice (some ⟨G 2, 0, none⟩) 32 32, .slice (some ⟨G 3, 0, none⟩) 13 13, .slice (some ⟨G 4, 0, none⟩) 7 7] 26) = W at *
  have hX1 := hX.keep hb1
  have cm1 : W.cell? ⟨G 0, mi, none⟩ = some (.bool sm) := by rw [hb1.cell (p := ⟨G 0, mi, none⟩) (World.block_lt_of_cell? _ _ cm)]; exact cm
  have ch1 : W.cell? ⟨G 1, hr, none⟩ = some (.bool sh) := by rw [hb1.cell (p := ⟨G 1, hr, none⟩) (World.block_lt_of_cell? _ _ ch)]; exact ch
  have u0 := fun u : Behind W => u.cell hBx.c0
  have u1 := fun u : Behind W => u.cell hBx.c1
  have u2 := fun u : Behind W => u.cell hBx.c2
  have u3 := fun u : Behind W => u.cell hBx.c3
  have u4 := fun u : Behind W => u.cell hBx.c4
  have u5 := fun u : Behind W => u.cell cm1
  have u6 := fun u : Behind W => u.cell ch1
  have HX := hide (fun u : Behind W => hX1.keep u.2)
  have HB := hide hb1
  clear hX1 hX hBx hb1 cm ch cm1 ch1 hm h2
  cases sm
  · haveI := behindNE W
    refine quiet_behind (by kernel_rfl) (by kernel_rfl) ?_
    repeat (go_big_quiet_step (fail))
    refine wpQuiet_nil ?_
    intro _ hw'
    obtain ⟨u, hw''⟩ := hw'
    subst hw''
    have HBu := hide (HB.out.trans (u.2.mono HB.out.size))
    clear u0 u1 u2 u3 u4 u5 u6
    go_wp2_with fail
    go_ret
    exact ⟨by simp, HBu.out⟩
  · cases sh
    · haveI := behindNE W
      refine quiet_behind (by kernel_rfl) (by kernel_rfl) ?_
      repeat (go_big_quiet_step (fail))
      refine wpQuiet_nil ?_
      intro _ hw'
      obtain ⟨u, hw''⟩ := hw'
      subst hw''
      have HBu := hide (HB.out.trans (u.2.mono HB.out.size))
      clear u0 u1 u2 u3 u4 u5 u6
      go_wp2_with fail
      go_ret
      exact ⟨by simp, HBu.out⟩
    · haveI := behindNE W
      refine quiet_behind (by kernel_rfl) (by kernel_rfl) ?_
      repeat (go_big_quiet_step ((first
        | (go_at_call 28; exact calls_behind _ (HOn.out _ (HX.out _)))
        | (go_at_call 29; exact calls_behind _ (HEi.out _ (HX.out _)))
        | (go_at_call 30; exact calls_behind _ (HDa.out _)))))
      refine wpQuiet_nil ?_
      intro _ hw'
      obtain ⟨u, hw''⟩ := hw'
      subst hw''
      have HBu := hide (HB.out.trans (u.2.mono HB.out.size))
      clear u0 u1 u2 u3 u4 u5 u6
      go_wp2_with fail
      go_ret
      exact ⟨by simp, HBu.out⟩
end Go.Proofs.YtbgioclbjbmicaaDoor
