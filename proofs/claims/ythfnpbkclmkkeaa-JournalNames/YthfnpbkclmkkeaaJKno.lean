/- The laws' known. -/
import Derived.Test.YthfnpbkclmkkeaaJKnM
namespace Go.Proofs.Ythfnpbkclmkkeaa
open Go.RowKit Go.Lib

theorem lit2 {w W : World} {x y : Nat} (hx : x < 256) (hy : y < 256) (hW : W = w.alloc (.cells #[.int .u8 (x : Nat), .int .u8 (y : Nat)] 5)) : Rd W (some ⟨w.heap.size, 0, none⟩) 2 [x, y] := by
  have hb : W.heap[w.heap.size]? = some (.cells #[.int .u8 (x : Nat), .int .u8 (y : Nat)] 5 (0, 0)) := by rw [hW]; exact heap_alloc_new w _
  refine ⟨rfl, by decide, (fun d hd => by simp at hd; omega), .inr ⟨w.heap.size, 0, rfl, fun i hi => ?_⟩⟩
  rw [Nat.zero_add]
  refine cell_blk hb i ?_
  match i, hi with
  | 0, _ => rfl
  | 1, _ => rfl
theorem lit1 {w W : World} {x : Nat} (hx : x < 256) (hW : W = w.alloc (.cells #[.int .u8 (x : Nat)] 5)) : Rd W (some ⟨w.heap.size, 0, none⟩) 1 [x] := by
  have hb : W.heap[w.heap.size]? = some (.cells #[.int .u8 (x : Nat)] 5 (0, 0)) := by rw [hW]; exact heap_alloc_new w _
  refine ⟨rfl, by decide, (fun d hd => by simp at hd; omega), .inr ⟨w.heap.size, 0, rfl, fun i hi => ?_⟩⟩
  rw [Nat.zero_add]
  refine cell_blk hb i ?_
  match i, hi with
  | 0, _ => rfl

/-- Open of a disk whose answer is known -/
theorem open_is {X : Nat → Prop} {w : World} {d : Nat} {s s' : St} {N : Nat} {j : J.Jr} {ks : List Int} (h : DAt X w d s) (g : Good N s) (hN : N ≤ 35184372088832) (hX : ∀ i, w.heap.size ≤ i → X i) (hk : ∀ ks', J.Keys s.sync.2 ks' → ks' = ks) (hs : s.sync.1 = 0) (hl : ks.length ≤ 8192) (ho : J.opened s ks = (0, some j, s')) :
    Calls Try.prog 8 #[.pointer (some ⟨d, 0, none⟩)] w fun e w' => ∃ P, e = .returned (.tuple #[.pointer (some ⟨P, 0, none⟩), .int .i64 0]) ∧ JD X w' P d j s' ∧ Keep X w w' :=
  (open_any X w d s N h g hN hX fun ks' h' => by rw [hk ks' h']; exact hl).mono fun e w' ⟨ks', hk', hkeep, hr⟩ => by
    have e' := hk ks' (hk' hs)
    subst e'
    rw [ho] at hr
    rcases hr with ⟨h1, _⟩ | ⟨P, j', h1, h2, h3⟩
    · cases h1
    · injection h1 with h1
      subst h1
      exact ⟨P, h2, h3, hkeep⟩

set_option maxRecDepth 100000 in
set_option maxHeartbeats 4000000 in
theorem known_any (w : World) : Calls Try.prog 7 #[] w fun e w' => e = .returned (.bool true) ∧ Keep (fun _ => False) w w' := by
  obtain ⟨X, hX⟩ : ∃ X : Nat → Prop, X = fun i => w.heap.size ≤ i := ⟨_, rfl⟩
  have HXn : Hid (∀ w', Keep X w w' → ∀ i, w'.heap.size ≤ i → X i) := fun w' k i hi => by rw [hX]; exact Nat.le_trans k.size hi
  have HFin : Hid (∀ w', Keep X w w' → Keep (fun _ => False) w w') := fun w' k => by
    rw [hX] at k
    exact ⟨k.os, k.tape, k.output, k.size, fun i hi _ => k.block i hi (by omega)⟩
  have HN : Hid (Calls Try.prog 22 #[.int .i64 1000] w fun e w' => ∃ p, e = .returned (.tuple #[.pointer (some ⟨p, 0, none⟩), .int .i64 0]) ∧ DAt X w' p (St.new 1000) ∧ Keep X w w') := (new_any 1000 w).mono fun e w' ⟨hk, h⟩ => by
    rcases h with ⟨h, _⟩ | ⟨_, _, p, h1, h2⟩
    · omega
    · exact ⟨p, h1, by rw [hX]; exact h2, hk.mono fun _ f => f.elim⟩
  -- an argument of new memory, laid apart
  have HA1 : Hid (∀ w1 P d, JD X w1 P d Kn.j0 Kn.s1 → Keep X w w1 → Calls Try.prog 18 #[.pointer (some ⟨P, 0, none⟩), .slice (some ⟨w1.heap.size, 0, none⟩) 2 2] (w1.alloc (.cells #[.int .u8 7, .int .u8 8] 5)) fun e w' => e = .returned (.int .i64 0) ∧ JD X w' P d Kn.j1 Kn.s2 ∧ Keep X w w') := fun w1 P d hJ k1 => by
    obtain ⟨W, hW⟩ : ∃ W, W = w1.alloc (.cells #[.int .u8 7, .int .u8 8] 5) := ⟨_, rfl⟩
    have kW : Keep (fun _ => False) w1 W := by rw [hW]; exact Keep.alloc _ _ _
    have hz : W.heap.size = w1.heap.size + 1 := by rw [hW, alloc_size]
    rw [← hW]
    refine (jappend_any _ W P d Kn.j0 Kn.s1 _ 2 2 [7, 8] 1 (hJ.part kW) Kn.g1 (by decide) (fun i hi => ⟨HXn.out w1 k1 i (by omega), .inr hi⟩) (lit2 (x := 7) (y := 8) (by decide) (by decide) hW) (fun e => by cases e) (fun g off e hi => by injection e with e; injection e with e _; have := hi.2; omega) (by decide) (by decide) (by decide) (by decide)).mono fun e w' ⟨ks, hks, h1, h2, h3⟩ => ?_
    have hke := Kn.k1 (hks ⟨by decide, by decide, fun h => h.1 rfl⟩ rfl)
    subst hke
    simp only [Kn.e3] at h1 h2
    exact ⟨h1, h2.mono fun i e => e.1, (k1.more (kW.mono fun _ f => f.elim)).more (h3.mono fun i e => e.1)⟩
  have HSn : Hid (∀ w1 P d, JD X w1 P d Kn.j1 Kn.s2 → Keep X w w1 → Calls Try.prog 23 #[.pointer (some ⟨P, 0, none⟩), .slice (some ⟨w1.heap.size, 0, none⟩) 1 1] (w1.alloc (.cells #[.int .u8 5] 5)) fun e w' => e = .returned (.int .i64 0) ∧ JD X w' P d Kn.j2 Kn.s3 ∧ Keep X w w') := fun w1 P d hJ k1 => by
    obtain ⟨W, hW⟩ : ∃ W, W = w1.alloc (.cells #[.int .u8 5] 5) := ⟨_, rfl⟩
    have kW : Keep (fun _ => False) w1 W := by rw [hW]; exact Keep.alloc _ _ _
    have hz : W.heap.size = w1.heap.size + 1 := by rw [hW, alloc_size]
    rw [← hW]
    refine (jsnap_any _ W P d Kn.j1 Kn.s2 _ 1 1 [5] 3 (hJ.part kW) Kn.g2 (by decide) (fun i hi => ⟨HXn.out w1 k1 i (by omega), .inr hi⟩) (lit1 (x := 5) (by decide) hW) (fun e => by cases e) (fun g off e hi => by injection e with e; injection e with e _; have := hi.2; omega)).mono fun e w' ⟨ks, hks, h1, h2, h3⟩ => ?_
    have hke := Kn.k2 (hks (by decide) rfl)
    subst hke
    simp only [Kn.e4] at h1 h2
    exact ⟨h1, h2.mono fun i e => e.1, (k1.more (kW.mono fun _ f => f.elim)).more (h3.mono fun i e => e.1)⟩
  have HA2 : Hid (∀ w1 P d, JD X w1 P d Kn.j2 Kn.s3 → Keep X w w1 → Calls Try.prog 18 #[.pointer (some ⟨P, 0, none⟩), .slice (some ⟨w1.heap.size, 0, none⟩) 1 1] (w1.alloc (.cells #[.int .u8 9] 5)) fun e w' => e = .returned (.int .i64 0) ∧ JD X w' P d Kn.j3 Kn.s4 ∧ Keep X w w') := fun w1 P d hJ k1 => by
    obtain ⟨W, hW⟩ : ∃ W, W = w1.alloc (.cells #[.int .u8 9] 5) := ⟨_, rfl⟩
    have kW : Keep (fun _ => False) w1 W := by rw [hW]; exact Keep.alloc _ _ _
    have hz : W.heap.size = w1.heap.size + 1 := by rw [hW, alloc_size]
    rw [← hW]
    refine (jappend_any _ W P d Kn.j2 Kn.s3 _ 1 1 [9] 7 (hJ.part kW) Kn.g3 (by decide) (fun i hi => ⟨HXn.out w1 k1 i (by omega), .inr hi⟩) (lit1 (x := 9) (by decide) hW) (fun e => by cases e) (fun g off e hi => by injection e with e; injection e with e _; have := hi.2; omega) (by decide) (by decide) (by decide) (by decide)).mono fun e w' ⟨ks, hks, h1, h2, h3⟩ => ?_
    simp only [Kn.e5] at h1 h2
    exact ⟨h1, h2.mono fun i e => e.1, (k1.more (kW.mono fun _ f => f.elim)).more (h3.mono fun i e => e.1)⟩
  clear hX
  go_enter Try.func7, Try.ntmps7
  go_upto_region 11 with (first
    | (go_at_call 22
       refine HN.out.mono ?_
       rintro e w1 ⟨d, rfl, hd, hk⟩
       have HK1 := hide hk
       have HO1 := hide (open_is (ks := []) hd (Good.new (c := 1000) (by decide)) (by decide) (HXn.out w1 hk) (fun ks' h' => Kn.k1 h') rfl (by decide) Kn.e2)
       clear hd hk)
    | (go_at_call 8
       refine HO2.out.mono ?_
       rintro e w6 ⟨Q, rfl, hJ6, hk6⟩
       have HJ6 := hide hJ6
       have HK6 := hide (HK5.out.more hk6)
       clear hJ6 hk6)
    | (go_at_call 8
       refine HO1.out.mono ?_
       rintro e w2 ⟨P, rfl, hJ2, hk2⟩
       have HK2 := hide (HK1.out.more hk2)
       have HAp1 := hide (HA1.out w2 P d hJ2 HK2.out)
       clear hJ2 hk2)
    | (go_at_call 18
       refine HAp2.out.mono ?_
       rintro e w5 ⟨rfl, hJ5, hk5⟩
       have HK5 := hide hk5
       have HO2 := hide (open_is (ks := [2]) hJ5.dat Kn.g4 (by decide) (HXn.out w5 hk5) (fun ks' h' => Kn.k5 h') rfl (by decide) Kn.e8)
       clear hJ5 hk5)
    | (go_at_call 18
       refine HAp1.out.mono ?_
       rintro e w3 ⟨rfl, hJ3, hk3⟩
       have HSn1 := hide (HSn.out w3 P d hJ3 hk3)
       clear hJ3 hk3)
    | (go_at_call 23
       refine HSn1.out.mono ?_
       rintro e w4 ⟨rfl, hJ4, hk4⟩
       have HAp2 := hide (HA2.out w4 P d hJ4 hk4)
       clear hJ4 hk4))
  have HRc : Hid (Calls Try.prog 24 #[.pointer (some ⟨Q, 0, none⟩)] w6 fun e w' => ∃ g cap ua uc, e = .returned (.slice (some ⟨g, 0, none⟩) 1 cap) ∧ w'.cell? ⟨g, 0, none⟩ = some (.slice ua 1 uc) ∧ Rd w' ua 1 [9] ∧ Keep (fun _ => False) w6 w') := by
    obtain ⟨R, S, hj, _⟩ := HJ6.out
    refine (records_any R w6 Q d Kn.j5 hj (by decide) (fun r hr => by simp [Kn.j5] at hr; subst hr; decide)).mono fun e w' ⟨v, xs, h1, h2, h3⟩ => ?_
    obtain ⟨u, hu1, hu2, _⟩ := h2.row 0 (by decide)
    rcases h2.own.2 with ⟨_, h0⟩ | ⟨g, cap, cur, hv, _⟩
    · exact absurd h0 (by decide)
    · subst hv
      have hc := h2.own.cells (g := g) rfl 0 u hu1
      rw [Addr.add_lit, Nat.zero_add] at hc
      obtain ⟨ua, uc, rfl, hrd, _⟩ := hu2.rd (by decide)
      exact ⟨g, cap, ua, uc, h1, hc, hrd, h3⟩
  have HRd : Hid (∀ w7, Keep (fun _ => False) w6 w7 → Calls Try.prog 25 #[.pointer (some ⟨d, 0, none⟩), .int .i64 2] w7 fun e w' => ∃ b off bc, e = .returned (.tuple #[.slice (some ⟨b, off, none⟩) 60 bc, .int .i64 0]) ∧ w'.cell? ⟨b, off, none⟩ = some (.int .u8 69) ∧ Keep (fun _ => False) w7 w') := fun w7 k7 => by
    refine (read_any X w7 d Kn.s5 2 (HJ6.out.new k7).dat (Kn.g5.ok (by decide)) (by decide) (by decide)).mono fun e w' ⟨v, h1, hr, hk, _⟩ => ?_
    have hf : Kn.s5.find 2 = 0 := rfl
    rw [hf] at h1
    rw [if_neg (by decide), Kn.b5] at hr
    obtain ⟨ba, bc, hv, hrd, _⟩ := hr.rd (by rw [Kn.len3]; decide)
    subst hv
    rw [Kn.len3] at h1 hrd
    obtain ⟨b, off, rfl, hc⟩ := hrd.2.2.2.resolve_left (by decide)
    have h0 := hc 0 (by decide)
    rw [Kn.first3, Nat.add_zero] at h0
    exact ⟨b, off, bc, h1, h0, hk⟩
  have HIm : Hid (∀ w7, Keep (fun _ => False) w6 w7 → Calls Try.prog 26 #[.pointer (some ⟨Q, 0, none⟩)] w7 fun e w' => ∃ a c, e = .returned (.slice a 1 c) ∧ Rd w' a 1 [5] ∧ Keep (fun _ => False) w7 w') := fun w7 k7 => by
    obtain ⟨R, S, hj, _⟩ := HJ6.out.new k7
    refine (image_any R w7 Q d Kn.j5 hj (by decide)).mono fun e w' ⟨v, h1, h2, h3, _⟩ => ?_
    obtain ⟨a, c, rfl, hrd, _⟩ := h2.rd (by decide)
    exact ⟨a, c, h1, hrd, h3⟩
  have HNx : Hid (∀ w7, Keep (fun _ => False) w6 w7 → Calls Try.prog 27 #[.pointer (some ⟨Q, 0, none⟩)] w7 fun e w' => e = .returned (.int .i64 3) ∧ w' = w7) := fun w7 k7 => by
    obtain ⟨R, S, hj, _⟩ := HJ6.out.new k7
    exact next_any R w7 Q d Kn.j5 hj
  go_wp2_with (first
    | (go_at_call 24
       refine HRc.out.mono ?_
       rintro e w7 ⟨g, cap, ua, uc, rfl, hc7, hr7, hk7⟩
       have HC7 := hide hc7
       have HR7 := hide hr7
       have HK7 := hide hk7
       clear hc7 hr7 hk7)
    | (go_at_call 25
       refine (HRd.out w7 HK7.out).mono ?_
       rintro e w8 ⟨b, off, bc, rfl, hc8, hk8⟩
       have HC8 := hide hc8
       have HK8 := hide hk8
       clear hc8 hk8)
    | (go_at_call 26
       refine (HIm.out w8 (HK7.out.more HK8.out)).mono ?_
       rintro e w9 ⟨ia, ic, rfl, hr9, hk9⟩
       have hcv := conv_rd hr9 ic
       rw [show str [5] = ⟨#[5]⟩ from rfl] at hcv
       have HK9 := hide hk9
       have hl9 := hk9.cell (HK8.out.cell HC7.out fun f => f) fun f => f
       have hcv2 := conv_rd ((HR7.out.stay (S := fun _ => False) HK8.out fun _ _ _ f => f).stay (S := fun _ => False) hk9 fun _ _ _ f => f) uc
       rw [show str [9] = ⟨#[9]⟩ from rfl] at hcv2
       have hb9 := hk9.cell HC8.out fun f => f
       clear hr9 hk9)
    | (go_at_call 27
       refine (HNx.out w9 ((HK7.out.more HK8.out).more HK9.out)).mono ?_
       rintro e w10 ⟨rfl, rfl⟩))
  go_ret
  exact ⟨rfl, (HFin.out w6 HK6.out).more ((HK7.out.more HK8.out).more HK9.out)⟩

end Go.Proofs.Ythfnpbkclmkkeaa
