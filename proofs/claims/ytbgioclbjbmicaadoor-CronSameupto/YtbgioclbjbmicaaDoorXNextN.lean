/- Package cron: Next. Written by next_gen.py. -/
import Derived.Test.YtbgioclbjbmicaaDoorXSpans
import Derived.Test.YtbgioclbjbmicaaDoorXNever
import Derived.Test.YtbgioclbjbmicaaDoorXIdx
import Derived.WalkMore
namespace Go.Proofs.YtbgioclbjbmicaaDoor
open Go.RowKit

set_option maxRecDepth 100000 in
set_option maxHeartbeats 4000000 in
theorem next_lo (g : Nat) (S : X.Sets) (t : Int) (t1 : t < -1) (w : World) (hE : Env w) (hX : ExprAt w g S) :
    Calls Tryd.prog 14 #[.pointer (some ⟨g, 0, none⟩), .int .i64 t] w fun e w' => ∃ (n : Int) (b : Bool), e = .returned (.tuple #[.int .i64 n, .bool b]) ∧ X.IsNext S t n b ∧ Below w.heap.size w w' := by
  go_enter Tryd.func14, Tryd.ntmps14
  go_wp2_with fail
  go_step3
  go_wp2_with fail
  go_at_call 31
  refine (never_any g S _ hE hX).mono ?_
  rintro e w1 ⟨b, rfl, hnv, hb1⟩
  cases b
  · go_wp2_with fail
    go_step3
    go_wp2_with fail
    have hE1 := hE.keep hb1
    have hX1 := hX.keep hb1
    have HB := hide hb1
    clear hE hX hb1 hnv
    have ix0 := index_span0
    have ix1 := index_span1
    have ix2 := index_span2
    have ix3 := index_span3
    go_loopw [1] (fun x wx => ∃ u : Int, x = .int .i64 u ∧ 0 ≤ u ∧ u ≤ 4611686018430066304 ∧ u % 60 = 0 ∧ Hid ((u ≤ 4611686018427387904 → t < u) ∧ ∀ v, t < v → v < u → ¬ X.Mat S v) ∧ Below w1.heap.size w1 wx) (fun x _ => (4611686018430066305 - intOf x).toNat)
    case atStart => exact ⟨_, rfl, by omega, by omega, by omega, ⟨by intro _; omega, fun v h1 h2 k => by have := k.1; have := k.2.1; have := k.2.2.1; omega⟩, Below.refl _ _⟩
    case round =>
      obtain ⟨u, rfl, u0, u1, u2, HU, hbx⟩ := hrel
      have hEx := hE1.keep hbx
      have hXx := hX1.keep hbx
      by_cases hu : u ≤ 4611686018427387904
      · have htu := HU.out.1 hu
        go_wp2_with fail
        go_at_call 27
        refine (spans_any g S u u0 hu _ hEx hXx).mono ?_
        rintro e w2 ⟨rfl, hb2⟩
        have HB2 := hide (hbx.trans (hb2.mono hbx.size))
        have HN := hide (X.mb_le u u0)
        have hmod : X.mb u % 86400 = 0 := by unfold X.mb; omega
        have hdim := K.dim_pos (K.Y u) (K.M u)
        have HD : Hid (∀ v, X.mb u ≤ v → v < X.mb u + K.dim (K.Y u) (K.M u) * 86400 → X.fitM S u = false → ¬ X.Mat S v) := fun v h1 h2 hf => X.no_month u0 hf h1 h2
        clear hbx hb2 hEx hXx
        generalize hb0 : X.mb u = b0 at *
        generalize hbe : b0 + K.dim (K.Y u) (K.M u) * 86400 = b1 at *
        have hgap : u < b1 ∧ b1 ≤ u + 2678400 ∧ 0 ≤ b0 ∧ b0 ≤ u := by have := HN.out; omega
        generalize h2e : u / 86400 * 86400 = b2 at *
        generalize h3e : u / 3600 * 3600 = b3 at *
        generalize h4e : u / 60 * 60 = b4 at *
        have H4 := hide h4e
        go_wp2_with fail
        go_loopw [1, 22] (fun x i' wx => ∃ k : Int, 0 ≤ k ∧ k ≤ 4 ∧ x = .int .i64 u ∧ i' = .int .i64 k ∧ Hid ((0 < k → X.fitM S u = true) ∧ (1 < k → X.fitD S u = true) ∧ (2 < k → X.fitH S u = true) ∧ (3 < k → X.fitI S u = true)) ∧ Below w1.heap.size w1 wx) (fun _ i' _ => 5 - (intOf i').toNat)
        case atStart => exact ⟨0, by omega, by omega, rfl, rfl, ⟨fun h => absurd h (by omega), fun h => absurd h (by omega), fun h => absurd h (by omega), fun h => absurd h (by omega)⟩, HB2.out⟩
        case round =>
          obtain ⟨k, hk0, hk, rfl, rfl, HF, hby⟩ := hrel
          have hk4 : k = 0 ∨ k = 1 ∨ k = 2 ∨ k = 3 ∨ k = 4 := by omega
          rcases hk4 with rfl | rfl | rfl | rfl | rfl
          · cases hf : X.fitM S u
            · go_wp2_with fail
              exact ⟨⟨_, rfl, by omega, by omega, by omega, ⟨by intro _; omega, fun v h1 h2 => if h : v < u then HU.out.2 v h1 h else HD.out v (by have := HN.out; omega) h2 hf⟩, hby.trans ((Below.put (Below.refl _ _) _).mono hby.size)⟩, by simp [intOf]; omega⟩
            · go_wp2_with fail
              exact ⟨⟨1, by omega, by omega, rfl, rfl, ⟨fun _ => by first | exact hf | exact trivial, fun h => absurd h (by omega), fun h => absurd h (by omega), fun h => absurd h (by omega)⟩, hby.trans ((Below.put (Below.refl _ _) _).mono hby.size)⟩, by simp [intOf]⟩
          · cases hf : X.fitD S u
            · go_wp2_with fail
              exact ⟨⟨_, rfl, by omega, by omega, by omega, ⟨by intro _; omega, fun v h1 h2 => if h : v < u then HU.out.2 v h1 h else X.no_day hf (by omega) (by omega)⟩, hby.trans ((Below.put (Below.refl _ _) _).mono hby.size)⟩, by simp [intOf]; omega⟩
            · go_wp2_with fail
              exact ⟨⟨2, by omega, by omega, rfl, rfl, ⟨fun _ => HF.out.1 (by omega), fun _ => by first | exact hf | exact trivial, fun h => absurd h (by omega), fun h => absurd h (by omega)⟩, hby.trans ((Below.put (Below.refl _ _) _).mono hby.size)⟩, by simp [intOf]⟩
          · cases hf : X.fitH S u
            · go_wp2_with fail
              exact ⟨⟨_, rfl, by omega, by omega, by omega, ⟨by intro _; omega, fun v h1 h2 => if h : v < u then HU.out.2 v h1 h else X.no_hour hf (by omega) (by omega)⟩, hby.trans ((Below.put (Below.refl _ _) _).mono hby.size)⟩, by simp [intOf]; omega⟩
            · go_wp2_with fail
              exact ⟨⟨3, by omega, by omega, rfl, rfl, ⟨fun _ => HF.out.1 (by omega), fun _ => HF.out.2.1 (by omega), fun _ => by first | exact hf | exact trivial, fun h => absurd h (by omega)⟩, hby.trans ((Below.put (Below.refl _ _) _).mono hby.size)⟩, by simp [intOf]⟩
          · cases hf : X.fitI S u
            · go_wp2_with fail
              exact ⟨⟨_, rfl, by omega, by omega, by omega, ⟨by intro _; omega, fun v h1 h2 => if h : v < u then HU.out.2 v h1 h else X.no_minute hf (by omega) (by omega)⟩, hby.trans ((Below.put (Below.refl _ _) _).mono hby.size)⟩, by simp [intOf]; omega⟩
            · go_wp2_with fail
              exact ⟨⟨4, by omega, by omega, rfl, rfl, ⟨fun _ => HF.out.1 (by omega), fun _ => HF.out.2.1 (by omega), fun _ => HF.out.2.2.1 (by omega), fun _ => by first | exact hf | exact trivial⟩, hby.trans ((Below.put (Below.refl _ _) _).mono hby.size)⟩, by simp [intOf]⟩
          · go_wp2_with fail
            try rw [Exit.noGoto_ret]
            go_ret2
            refine ⟨u, true, rfl, .inl ⟨rfl, htu, ⟨u0, hu, u2, ?_⟩, HU.out.2⟩, HB.out.trans (hby.mono HB.out.size)⟩
            unfold X.fit
            rw [HF.out.1 (by omega), HF.out.2.1 (by omega), HF.out.2.2.1 (by omega), HF.out.2.2.2 (by omega)]; rfl
      · go_wp2_with fail
        try rw [Exit.noGoto_ret]
        go_ret2
        exact ⟨0, false, rfl, .inr ⟨rfl, rfl, fun v h k => if h' : v < u then HU.out.2 v h h' k else by have := k.2.1; omega⟩, HB.out.trans (hbx.mono HB.out.size)⟩
  · go_wp2_with fail
    try rw [Exit.noGoto_ret]
    go_ret2
    exact ⟨0, false, rfl, .inr ⟨rfl, rfl, fun u _ => X.never_no (by first | exact hnv rfl | exact hnv trivial) u⟩, hb1⟩
set_option maxRecDepth 100000 in
set_option maxHeartbeats 4000000 in
theorem next_mid (g : Nat) (S : X.Sets) (t : Int) (t0 : -1 ≤ t) (t1 : t ≤ 4611686018427387904) (w : World) (hE : Env w) (hX : ExprAt w g S) :
    Calls Tryd.prog 14 #[.pointer (some ⟨g, 0, none⟩), .int .i64 t] w fun e w' => ∃ (n : Int) (b : Bool), e = .returned (.tuple #[.int .i64 n, .bool b]) ∧ X.IsNext S t n b ∧ Below w.heap.size w w' := by
  go_enter Tryd.func14, Tryd.ntmps14
  go_wp2_with fail
  go_step3
  go_wp2_with fail
  go_at_call 31
  refine (never_any g S _ hE hX).mono ?_
  rintro e w1 ⟨b, rfl, hnv, hb1⟩
  cases b
  · go_wp2_with fail
    go_step3
    go_wp2_with fail
    have hE1 := hE.keep hb1
    have hX1 := hX.keep hb1
    have HB := hide hb1
    clear hE hX hb1 hnv
    have ix0 := index_span0
    have ix1 := index_span1
    have ix2 := index_span2
    have ix3 := index_span3
    go_loopw [1] (fun x wx => ∃ u : Int, x = .int .i64 u ∧ 0 ≤ u ∧ u ≤ 4611686018430066304 ∧ u % 60 = 0 ∧ Hid ((u ≤ 4611686018427387904 → t < u) ∧ ∀ v, t < v → v < u → ¬ X.Mat S v) ∧ Below w1.heap.size w1 wx) (fun x _ => (4611686018430066305 - intOf x).toNat)
    case atStart => exact ⟨_, rfl, by omega, by omega, by omega, ⟨by intro _; omega, fun v h1 h2 k => by have := k.1; have := k.2.1; have := k.2.2.1; omega⟩, Below.refl _ _⟩
    case round =>
      obtain ⟨u, rfl, u0, u1, u2, HU, hbx⟩ := hrel
      have hEx := hE1.keep hbx
      have hXx := hX1.keep hbx
      by_cases hu : u ≤ 4611686018427387904
      · have htu := HU.out.1 hu
        go_wp2_with fail
        go_at_call 27
        refine (spans_any g S u u0 hu _ hEx hXx).mono ?_
        rintro e w2 ⟨rfl, hb2⟩
        have HB2 := hide (hbx.trans (hb2.mono hbx.size))
        have HN := hide (X.mb_le u u0)
        have hmod : X.mb u % 86400 = 0 := by unfold X.mb; omega
        have hdim := K.dim_pos (K.Y u) (K.M u)
        have HD : Hid (∀ v, X.mb u ≤ v → v < X.mb u + K.dim (K.Y u) (K.M u) * 86400 → X.fitM S u = false → ¬ X.Mat S v) := fun v h1 h2 hf => X.no_month u0 hf h1 h2
        clear hbx hb2 hEx hXx
        generalize hb0 : X.mb u = b0 at *
        generalize hbe : b0 + K.dim (K.Y u) (K.M u) * 86400 = b1 at *
        have hgap : u < b1 ∧ b1 ≤ u + 2678400 ∧ 0 ≤ b0 ∧ b0 ≤ u := by have := HN.out; omega
        generalize h2e : u / 86400 * 86400 = b2 at *
        generalize h3e : u / 3600 * 3600 = b3 at *
        generalize h4e : u / 60 * 60 = b4 at *
        have H4 := hide h4e
        go_wp2_with fail
        go_loopw [1, 22] (fun x i' wx => ∃ k : Int, 0 ≤ k ∧ k ≤ 4 ∧ x = .int .i64 u ∧ i' = .int .i64 k ∧ Hid ((0 < k → X.fitM S u = true) ∧ (1 < k → X.fitD S u = true) ∧ (2 < k → X.fitH S u = true) ∧ (3 < k → X.fitI S u = true)) ∧ Below w1.heap.size w1 wx) (fun _ i' _ => 5 - (intOf i').toNat)
        case atStart => exact ⟨0, by omega, by omega, rfl, rfl, ⟨fun h => absurd h (by omega), fun h => absurd h (by omega), fun h => absurd h (by omega), fun h => absurd h (by omega)⟩, HB2.out⟩
        case round =>
          obtain ⟨k, hk0, hk, rfl, rfl, HF, hby⟩ := hrel
          have hk4 : k = 0 ∨ k = 1 ∨ k = 2 ∨ k = 3 ∨ k = 4 := by omega
          rcases hk4 with rfl | rfl | rfl | rfl | rfl
          · cases hf : X.fitM S u
            · go_wp2_with fail
              exact ⟨⟨_, rfl, by omega, by omega, by omega, ⟨by intro _; omega, fun v h1 h2 => if h : v < u then HU.out.2 v h1 h else HD.out v (by have := HN.out; omega) h2 hf⟩, hby.trans ((Below.put (Below.refl _ _) _).mono hby.size)⟩, by simp [intOf]; omega⟩
            · go_wp2_with fail
              exact ⟨⟨1, by omega, by omega, rfl, rfl, ⟨fun _ => by first | exact hf | exact trivial, fun h => absurd h (by omega), fun h => absurd h (by omega), fun h => absurd h (by omega)⟩, hby.trans ((Below.put (Below.refl _ _) _).mono hby.size)⟩, by simp [intOf]⟩
          · cases hf : X.fitD S u
            · go_wp2_with fail
              exact ⟨⟨_, rfl, by omega, by omega, by omega, ⟨by intro _; omega, fun v h1 h2 => if h : v < u then HU.out.2 v h1 h else X.no_day hf (by omega) (by omega)⟩, hby.trans ((Below.put (Below.refl _ _) _).mono hby.size)⟩, by simp [intOf]; omega⟩
            · go_wp2_with fail
              exact ⟨⟨2, by omega, by omega, rfl, rfl, ⟨fun _ => HF.out.1 (by omega), fun _ => by first | exact hf | exact trivial, fun h => absurd h (by omega), fun h => absurd h (by omega)⟩, hby.trans ((Below.put (Below.refl _ _) _).mono hby.size)⟩, by simp [intOf]⟩
          · cases hf : X.fitH S u
            · go_wp2_with fail
              exact ⟨⟨_, rfl, by omega, by omega, by omega, ⟨by intro _; omega, fun v h1 h2 => if h : v < u then HU.out.2 v h1 h else X.no_hour hf (by omega) (by omega)⟩, hby.trans ((Below.put (Below.refl _ _) _).mono hby.size)⟩, by simp [intOf]; omega⟩
            · go_wp2_with fail
              exact ⟨⟨3, by omega, by omega, rfl, rfl, ⟨fun _ => HF.out.1 (by omega), fun _ => HF.out.2.1 (by omega), fun _ => by first | exact hf | exact trivial, fun h => absurd h (by omega)⟩, hby.trans ((Below.put (Below.refl _ _) _).mono hby.size)⟩, by simp [intOf]⟩
          · cases hf : X.fitI S u
            · go_wp2_with fail
              exact ⟨⟨_, rfl, by omega, by omega, by omega, ⟨by intro _; omega, fun v h1 h2 => if h : v < u then HU.out.2 v h1 h else X.no_minute hf (by omega) (by omega)⟩, hby.trans ((Below.put (Below.refl _ _) _).mono hby.size)⟩, by simp [intOf]; omega⟩
            · go_wp2_with fail
              exact ⟨⟨4, by omega, by omega, rfl, rfl, ⟨fun _ => HF.out.1 (by omega), fun _ => HF.out.2.1 (by omega), fun _ => HF.out.2.2.1 (by omega), fun _ => by first | exact hf | exact trivial⟩, hby.trans ((Below.put (Below.refl _ _) _).mono hby.size)⟩, by simp [intOf]⟩
          · go_wp2_with fail
            try rw [Exit.noGoto_ret]
            go_ret2
            refine ⟨u, true, rfl, .inl ⟨rfl, htu, ⟨u0, hu, u2, ?_⟩, HU.out.2⟩, HB.out.trans (hby.mono HB.out.size)⟩
            unfold X.fit
            rw [HF.out.1 (by omega), HF.out.2.1 (by omega), HF.out.2.2.1 (by omega), HF.out.2.2.2 (by omega)]; rfl
      · go_wp2_with fail
        try rw [Exit.noGoto_ret]
        go_ret2
        exact ⟨0, false, rfl, .inr ⟨rfl, rfl, fun v h k => if h' : v < u then HU.out.2 v h h' k else by have := k.2.1; omega⟩, HB.out.trans (hbx.mono HB.out.size)⟩
  · go_wp2_with fail
    try rw [Exit.noGoto_ret]
    go_ret2
    exact ⟨0, false, rfl, .inr ⟨rfl, rfl, fun u _ => X.never_no (by first | exact hnv rfl | exact hnv trivial) u⟩, hb1⟩
set_option maxRecDepth 100000 in
set_option maxHeartbeats 4000000 in
theorem next_hi (g : Nat) (S : X.Sets) (t : Int) (t1 : 4611686018427387904 < t) (w : World) (hE : Env w) (hX : ExprAt w g S) :
    Calls Tryd.prog 14 #[.pointer (some ⟨g, 0, none⟩), .int .i64 t] w fun e w' => ∃ (n : Int) (b : Bool), e = .returned (.tuple #[.int .i64 n, .bool b]) ∧ X.IsNext S t n b ∧ Below w.heap.size w w' := by
  go_enter Tryd.func14, Tryd.ntmps14
  go_wp2_with fail
  go_step3
  go_wp2_with fail
  go_at_call 31
  refine (never_any g S _ hE hX).mono ?_
  rintro e w1 ⟨b, rfl, hnv, hb1⟩
  cases b
  · go_wp2_with fail
    go_step3
    go_wp2_with fail
    have hE1 := hE.keep hb1
    have hX1 := hX.keep hb1
    have HB := hide hb1
    clear hE hX hb1 hnv
    have ix0 := index_span0
    have ix1 := index_span1
    have ix2 := index_span2
    have ix3 := index_span3
    go_loopw [1] (fun x wx => ∃ u : Int, x = .int .i64 u ∧ 0 ≤ u ∧ u ≤ 4611686018430066304 ∧ u % 60 = 0 ∧ Hid ((u ≤ 4611686018427387904 → t < u) ∧ ∀ v, t < v → v < u → ¬ X.Mat S v) ∧ Below w1.heap.size w1 wx) (fun x _ => (4611686018430066305 - intOf x).toNat)
    case atStart => exact ⟨_, rfl, by omega, by omega, by omega, ⟨by intro _; omega, fun v h1 h2 k => by have := k.1; have := k.2.1; have := k.2.2.1; omega⟩, Below.refl _ _⟩
    case round =>
      obtain ⟨u, rfl, u0, u1, u2, HU, hbx⟩ := hrel
      have hEx := hE1.keep hbx
      have hXx := hX1.keep hbx
      by_cases hu : u ≤ 4611686018427387904
      · have htu := HU.out.1 hu
        omega
      · go_wp2_with fail
        try rw [Exit.noGoto_ret]
        go_ret2
        exact ⟨0, false, rfl, .inr ⟨rfl, rfl, fun v h k => if h' : v < u then HU.out.2 v h h' k else by have := k.2.1; omega⟩, HB.out.trans (hbx.mono HB.out.size)⟩
  · go_wp2_with fail
    try rw [Exit.noGoto_ret]
    go_ret2
    exact ⟨0, false, rfl, .inr ⟨rfl, rfl, fun u _ => X.never_no (by first | exact hnv rfl | exact hnv trivial) u⟩, hb1⟩
theorem next_any (g : Nat) (S : X.Sets) (t : Int) (w : World) (hE : Env w) (hX : ExprAt w g S) :
    Calls Tryd.prog 14 #[.pointer (some ⟨g, 0, none⟩), .int .i64 t] w fun e w' => ∃ (n : Int) (b : Bool), e = .returned (.tuple #[.int .i64 n, .bool b]) ∧ X.IsNext S t n b ∧ Below w.heap.size w w' :=
  if h : t < -1 then next_lo g S t h w hE hX else if h' : t ≤ 4611686018427387904 then next_mid g S t (by omega) h' w hE hX else next_hi g S t (by omega) w hE hX
end Go.Proofs.YtbgioclbjbmicaaDoor
