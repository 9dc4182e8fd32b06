/- CronFields: the walk. -/
import Derived.Test.YtbflmgiheccgdaaDoorXLsu
import Derived.Test.YtbflmgiheccgdaaDoorXFldW
import Derived.Test.YtbflmgiheccgdaaDoorXParse
import Derived.Test.YtbflmgiheccgdaaDoorXMatch
namespace Go.Proofs.YtbflmgiheccgdaaDoor
open Go.RowKit
/-- Bools that listed made, in memory. -/
structure HB (w : World) (g m : Nat) (H : Nat → Bool) : Prop where
  c : ∀ v, v < m → w.cell? ⟨g, v, none⟩ = some (.bool (H v))
  lt : g < w.heap.size
theorem HB.keep {w w' : World} {g m : Nat} {H : Nat → Bool} (h : HB w g m H) (b : Below w.heap.size w w') : HB w' g m H :=
  ⟨fun j hj => by rw [b.cell (p := ⟨g, j, none⟩) h.lt]; exact h.c j hj, Nat.lt_of_lt_of_le h.lt b.size⟩
/-- Values side by side, in memory. -/
structure SA (w : World) (g : Nat) (V : List Value) : Prop where
  c : ∀ i v, V[i]? = some v → w.cell? ⟨g, i, none⟩ = some v
  lt : g < w.heap.size
theorem SA.keep {w w' : World} {g : Nat} {V : List Value} (h : SA w g V) (b : Below w.heap.size w w') : SA w' g V :=
  ⟨fun i v hv => by rw [b.cell (p := ⟨g, i, none⟩) h.lt]; exact h.c i v hv, Nat.lt_of_lt_of_le h.lt b.size⟩
theorem SA.new (w : World) (V : List Value) (t : TypeId) : SA (w.alloc (.cells V.toArray t)) w.heap.size V :=
  ⟨fun i v hv => by rw [cell_of_row _ _ _ _ _ _ (heap_alloc_new w _)]; simpa using hv, by simp⟩
theorem lword_size {f : Nat} {L : List (Nat × Nat)} (hf : f < 5) (h : X.LOk f L) : (⟨(X.lword f L).toArray⟩ : ByteArray).size ≤ 180 := by
  have := (X.lword_facts hf h).2.2
  simpa [ByteArray.size] using this
def five (l0 l1 l2 l3 l4 : List (Nat × Nat)) : Nat → List (Nat × Nat) | 0 => l0 | 1 => l1 | 2 => l2 | 3 => l3 | _ => l4
theorem five_join (l0 l1 l2 l3 l4 : List (Nat × Nat)) : Lib.join (X.ltexts (five l0 l1 l2 l3 l4)) [32] = X.lword 0 l0 ++ 32 :: (X.lword 1 l1 ++ 32 :: (X.lword 2 l2 ++ 32 :: (X.lword 3 l3 ++ 32 :: X.lword 4 l4))) := by
  unfold X.ltexts
  rw [join_two, join_two, join_two, join_two]
  simp [Lib.join, List.intercalate, List.intersperse, five]

theorem listed0 (a : Option Addr) (n c : Nat) (z : List Int) (w : World) (hR : RdI w a n z) : ∃ L, X.LOk 0 L ∧
    Calls Tryd.prog 5 #[.slice a n c, .int .i64 0, .int .i64 59] w fun e w' => (∃ gh, e = .returned (.tuple #[.string ⟨(X.lword 0 L).toArray⟩, .slice (some ⟨gh, 0, none⟩) 60 60]) ∧ HB w' gh 60 (X.lhas 0 L)) ∧ Below w.heap.size w w' :=
  ⟨_, llist_ok 0 z n, (listed_any 0 a n c z w hR).mono fun _ _ ⟨⟨gh, h1, h2, _, h4⟩, hb⟩ => ⟨⟨gh, h1, ⟨h2, h4⟩⟩, hb⟩⟩

theorem listed1 (a : Option Addr) (n c : Nat) (z : List Int) (w : World) (hR : RdI w a n z) : ∃ L, X.LOk 1 L ∧
    Calls Tryd.prog 5 #[.slice a n c, .int .i64 0, .int .i64 23] w fun e w' => (∃ gh, e = .returned (.tuple #[.string ⟨(X.lword 1 L).toArray⟩, .slice (some ⟨gh, 0, none⟩) 24 24]) ∧ HB w' gh 24 (X.lhas 1 L)) ∧ Below w.heap.size w w' :=
  ⟨_, llist_ok 1 z n, (listed_any 1 a n c z w hR).mono fun _ _ ⟨⟨gh, h1, h2, _, h4⟩, hb⟩ => ⟨⟨gh, h1, ⟨h2, h4⟩⟩, hb⟩⟩

theorem listed2 (a : Option Addr) (n c : Nat) (z : List Int) (w : World) (hR : RdI w a n z) : ∃ L, X.LOk 2 L ∧
    Calls Tryd.prog 5 #[.slice a n c, .int .i64 1, .int .i64 31] w fun e w' => (∃ gh, e = .returned (.tuple #[.string ⟨(X.lword 2 L).toArray⟩, .slice (some ⟨gh, 0, none⟩) 32 32]) ∧ HB w' gh 32 (X.lhas 2 L)) ∧ Below w.heap.size w w' :=
  ⟨_, llist_ok 2 z n, (listed_any 2 a n c z w hR).mono fun _ _ ⟨⟨gh, h1, h2, _, h4⟩, hb⟩ => ⟨⟨gh, h1, ⟨h2, h4⟩⟩, hb⟩⟩

theorem listed3 (a : Option Addr) (n c : Nat) (z : List Int) (w : World) (hR : RdI w a n z) : ∃ L, X.LOk 3 L ∧
    Calls Tryd.prog 5 #[.slice a n c, .int .i64 1, .int .i64 12] w fun e w' => (∃ gh, e = .returned (.tuple #[.string ⟨(X.lword 3 L).toArray⟩, .slice (some ⟨gh, 0, none⟩) 13 13]) ∧ HB w' gh 13 (X.lhas 3 L)) ∧ Below w.heap.size w w' :=
  ⟨_, llist_ok 3 z n, (listed_any 3 a n c z w hR).mono fun _ _ ⟨⟨gh, h1, h2, _, h4⟩, hb⟩ => ⟨⟨gh, h1, ⟨h2, h4⟩⟩, hb⟩⟩

theorem listed4 (a : Option Addr) (n c : Nat) (z : List Int) (w : World) (hR : RdI w a n z) : ∃ L, X.LOk 4 L ∧
    Calls Tryd.prog 5 #[.slice a n c, .int .i64 0, .int .i64 6] w fun e w' => (∃ gh, e = .returned (.tuple #[.string ⟨(X.lword 4 L).toArray⟩, .slice (some ⟨gh, 0, none⟩) 7 7]) ∧ HB w' gh 7 (X.lhas 4 L)) ∧ Below w.heap.size w w' :=
  ⟨_, llist_ok 4 z n, (listed_any 4 a n c z w hR).mono fun _ _ ⟨⟨gh, h1, h2, _, h4⟩, hb⟩ => ⟨⟨gh, h1, ⟨h2, h4⟩⟩, hb⟩⟩

set_option maxHeartbeats 40000000 in
set_option maxRecDepth 100000 in
theorem fields_walk (a0 a1 a2 a3 a4 : Option Addr) (n0 c0 n1 c1 n2 c2 n3 c3 n4 c4 : Nat) (z0 z1 z2 z3 z4 : List Int) (tm : Int) (w : World) (hE : Env w) (t1 : -9223372036854775808 ≤ tm) (t2 : tm ≤ 9223372036854775807)
    (R0 : RdI w a0 n0 z0) (R1 : RdI w a1 n1 z1) (R2 : RdI w a2 n2 z2) (R3 : RdI w a3 n3 z3) (R4 : RdI w a4 n4 z4) :
    Calls Tryd.prog 3 #[.agg #[.slice a0 n0 c0, .slice a1 n1 c1, .slice a2 n2 c2, .slice a3 n3 c3, .slice a4 n4 c4, .int .i64 tm]] w fun e w' => e = .returned (.bool true) ∧ Below w.heap.size w w' := by
  go_enter Tryd.func3, Tryd.ntmps3
  go_wp2_with fail
  have hS := SA.new w [.slice a0 n0 c0, .slice a1 n1 c1, .slice a2 n2 c2, .slice a3 n3 c3, .slice a4 n4 c4, .int .i64 tm] 24
  have hB := Below.put (Below.refl _ w) (.cells #[.slice a0 n0 c0, .slice a1 n1 c1, .slice a2 n2 c2, .slice a3 n3 c3, .slice a4 n4 c4, .int .i64 tm] 24)
  have hlt : w.heap.size ≤ (w.alloc (.cells #[.slice a0 n0 c0, .slice a1 n1 c1, .slice a2 n2 c2, .slice a3 n3 c3, .slice a4 n4 c4, .int .i64 tm] 24)).heap.size := hB.size
  generalize (w.alloc (.cells #[.slice a0 n0 c0, .slice a1 n1 c1, .slice a2 n2 c2, .slice a3 n3 c3, .slice a4 n4 c4, .int .i64 tm] 24)) = W0 at *
  go_at_call 4
  have hE0 := hE.keep hB
  refine (awake_any W0 hE0).mono ?_
  rintro e w0 ⟨rfl, hb0⟩

  have HB := hide (hB.trans (hb0.mono hB.size))
  have HS := hide (hS.keep hb0)
  have HR0 := hide R0
  have HR1 := hide R1
  have HR2 := hide R2
  have HR3 := hide R3
  have HR4 := hide R4
  have HE := hide hE
  clear hB hb0 hS hE0 hlt R0 R1 R2 R3 R4 hE

  obtain ⟨L0, hL0, hc0⟩ := listed0 a0 n0 c0 z0 w0 (HR0.out.keep HB.out)
  have HC0 := hide hc0
  have HL0 := hide hL0
  have sz0 := lword_size (by decide) hL0
  have cS : w0.cell? ⟨w.heap.size, 0, none⟩ = some (.slice a0 n0 c0) := HS.out.c 0 _ rfl
  clear hc0 hL0
  obtain ⟨S0, hS0⟩ : ∃ S0 : ByteArray, S0 = ⟨(X.lword 0 L0).toArray⟩ := ⟨_, rfl⟩
  rw [← hS0] at HC0 sz0
  have HT0 := hide hS0
  clear hS0
  go_wp2_with fail
  go_at_call 5
  refine HC0.out.mono ?_
  rintro e w1 ⟨⟨g0, rfl, hh0⟩, hb⟩
  have HS' := hide (HS.out.keep hb)
  have HB' := hide (HB.out.trans (hb.mono HB.out.size))

  have H0 := hide hh0
  clear hb cS HS HB hh0 HC0
  have HS := hide HS'.out
  have HB := hide HB'.out
  clear HS' HB'

  obtain ⟨L1, hL1, hc1⟩ := listed1 a1 n1 c1 z1 w1 (HR1.out.keep HB.out)
  have HC1 := hide hc1
  have HL1 := hide hL1
  have sz1 := lword_size (by decide) hL1
  have cS : w1.cell? ⟨w.heap.size, 1, none⟩ = some (.slice a1 n1 c1) := HS.out.c 1 _ rfl
  clear hc1 hL1
  obtain ⟨S1, hS1⟩ : ∃ S1 : ByteArray, S1 = ⟨(X.lword 1 L1).toArray⟩ := ⟨_, rfl⟩
  rw [← hS1] at HC1 sz1
  have HT1 := hide hS1
  clear hS1
  go_wp2_with fail
  go_at_call 5
  refine HC1.out.mono ?_
  rintro e w2 ⟨⟨g1, rfl, hh1⟩, hb⟩
  have HS' := hide (HS.out.keep hb)
  have HB' := hide (HB.out.trans (hb.mono HB.out.size))

  have K0 := hide (H0.out.keep hb)
  clear H0
  have H0 := hide K0.out
  clear K0
  have H1 := hide hh1
  clear hb cS HS HB hh1 HC1
  have HS := hide HS'.out
  have HB := hide HB'.out
  clear HS' HB'

  obtain ⟨L2, hL2, hc2⟩ := listed2 a2 n2 c2 z2 w2 (HR2.out.keep HB.out)
  have HC2 := hide hc2
  have HL2 := hide hL2
  have sz2 := lword_size (by decide) hL2
  have cS : w2.cell? ⟨w.heap.size, 2, none⟩ = some (.slice a2 n2 c2) := HS.out.c 2 _ rfl
  clear hc2 hL2
  obtain ⟨S2, hS2⟩ : ∃ S2 : ByteArray, S2 = ⟨(X.lword 2 L2).toArray⟩ := ⟨_, rfl⟩
  rw [← hS2] at HC2 sz2
  have HT2 := hide hS2
  clear hS2
  go_wp2_with fail
  go_at_call 5
  refine HC2.out.mono ?_
  rintro e w3 ⟨⟨g2, rfl, hh2⟩, hb⟩
  have HS' := hide (HS.out.keep hb)
  have HB' := hide (HB.out.trans (hb.mono HB.out.size))

  have K0 := hide (H0.out.keep hb)
  clear H0
  have H0 := hide K0.out
  clear K0
  have K1 := hide (H1.out.keep hb)
  clear H1
  have H1 := hide K1.out
  clear K1
  have H2 := hide hh2
  clear hb cS HS HB hh2 HC2
  have HS := hide HS'.out
  have HB := hide HB'.out
  clear HS' HB'

  obtain ⟨L3, hL3, hc3⟩ := listed3 a3 n3 c3 z3 w3 (HR3.out.keep HB.out)
  have HC3 := hide hc3
  have HL3 := hide hL3
  have sz3 := lword_size (by decide) hL3
  have cS : w3.cell? ⟨w.heap.size, 3, none⟩ = some (.slice a3 n3 c3) := HS.out.c 3 _ rfl
  clear hc3 hL3
  obtain ⟨S3, hS3⟩ : ∃ S3 : ByteArray, S3 = ⟨(X.lword 3 L3).toArray⟩ := ⟨_, rfl⟩
  rw [← hS3] at HC3 sz3
  have HT3 := hide hS3
  clear hS3
  go_wp2_with fail
  go_at_call 5
  refine HC3.out.mono ?_
  rintro e w4 ⟨⟨g3, rfl, hh3⟩, hb⟩
  have HS' := hide (HS.out.keep hb)
  have HB' := hide (HB.out.trans (hb.mono HB.out.size))

  have K0 := hide (H0.out.keep hb)
  clear H0
  have H0 := hide K0.out
  clear K0
  have K1 := hide (H1.out.keep hb)
  clear H1
  have H1 := hide K1.out
  clear K1
  have K2 := hide (H2.out.keep hb)
  clear H2
  have H2 := hide K2.out
  clear K2
  have H3 := hide hh3
  clear hb cS HS HB hh3 HC3
  have HS := hide HS'.out
  have HB := hide HB'.out
  clear HS' HB'

  obtain ⟨L4, hL4, hc4⟩ := listed4 a4 n4 c4 z4 w4 (HR4.out.keep HB.out)
  have HC4 := hide hc4
  have HL4 := hide hL4
  have sz4 := lword_size (by decide) hL4
  have cS : w4.cell? ⟨w.heap.size, 4, none⟩ = some (.slice a4 n4 c4) := HS.out.c 4 _ rfl
  clear hc4 hL4
  obtain ⟨S4, hS4⟩ : ∃ S4 : ByteArray, S4 = ⟨(X.lword 4 L4).toArray⟩ := ⟨_, rfl⟩
  rw [← hS4] at HC4 sz4
  have HT4 := hide hS4
  clear hS4
  go_wp2_with fail
  go_at_call 5
  refine HC4.out.mono ?_
  rintro e w5 ⟨⟨g4, rfl, hh4⟩, hb⟩
  have HS' := hide (HS.out.keep hb)
  have HB' := hide (HB.out.trans (hb.mono HB.out.size))

  have K0 := hide (H0.out.keep hb)
  clear H0
  have H0 := hide K0.out
  clear K0
  have K1 := hide (H1.out.keep hb)
  clear H1
  have H1 := hide K1.out
  clear K1
  have K2 := hide (H2.out.keep hb)
  clear H2
  have H2 := hide K2.out
  clear K2
  have K3 := hide (H3.out.keep hb)
  clear H3
  have H3 := hide K3.out
  clear K3
  have H4 := hide hh4
  clear hb cS HS HB hh4 HC4
  have HS := hide HS'.out
  have HB := hide HB'.out
  clear HS' HB'

  have hpl := X.parse_listed (five L0 L1 L2 L3 L4) (fun f hf => by
    match f, hf with
    | 0, _ => exact HL0.out
    | 1, _ => exact HL1.out
    | 2, _ => exact HL2.out
    | 3, _ => exact HL3.out
    | 4, _ => exact HL4.out)
  have hTT : (S0 ++ ⟨#[32]⟩ ++ S1 ++ ⟨#[32]⟩ ++ S2 ++ ⟨#[32]⟩ ++ S3 ++ ⟨#[32]⟩ ++ S4 : ByteArray).data.toList = Lib.join (X.ltexts (five L0 L1 L2 L3 L4)) [32] := by
    rw [five_join, HT0.out, HT1.out, HT2.out, HT3.out, HT4.out]; simp
  have hpa := parse_any (S0 ++ ⟨#[32]⟩ ++ S1 ++ ⟨#[32]⟩ ++ S2 ++ ⟨#[32]⟩ ++ S3 ++ ⟨#[32]⟩ ++ S4) w5 (HE.out.keep HB.out)
  rw [hTT, hpl.1] at hpa
  have HPA := hide hpa
  clear hpa hTT hpl
  go_wp2_with fail
  go_at_call 6
  refine HPA.out.mono ?_
  rintro e w6 ⟨⟨gx, rfl, hX, _⟩, hb⟩
  clear sz0 sz1 sz2 sz3 sz4 HPA HT0 HT1 HT2 HT3 HT4 HR0 HR1 HR2 HR3 HR4
  generalize hLS : five L0 L1 L2 L3 L4 = L at *
  have cS : w6.cell? ⟨w.heap.size, 5, none⟩ = some (.int .i64 tm) := (HS.out.keep hb).c 5 _ rfl
  have HX := hide hX
  have HB' := hide (HB.out.trans (hb.mono HB.out.size))

  have K0 := hide (H0.out.keep hb)
  clear H0
  have K1 := hide (H1.out.keep hb)
  clear H1
  have K2 := hide (H2.out.keep hb)
  clear H2
  have K3 := hide (H3.out.keep hb)
  clear H3
  have K4 := hide (H4.out.keep hb)
  clear H4
  clear hb HB hX
  have hpk := pickV_in tm 4611686018427387904 (by decide)
  have HP := hide (pick_any tm 4611686018427387904 t1 t2 (by decide) (by decide))
  generalize pickV tm 4611686018427387904 = p at *
  go_wp2_with fail
  go_at_call 7
  refine (HP.out _).mono ?_
  rintro e w7 ⟨rfl, rfl⟩
  have e0 : L 0 = L0 := by rw [← hLS]; rfl
  have e1 : L 1 = L1 := by rw [← hLS]; rfl
  have e2 : L 2 = L2 := by rw [← hLS]; rfl
  have e3 : L 3 = L3 := by rw [← hLS]; rfl
  have e4 : L 4 = L4 := by rw [← hLS]; rfl
  have HOK : Hid (∀ (t : Int), 0 ≤ t → t ≤ 4611686018427387904 → ∀ m d h i k : Nat, K.M t = m → K.D t = d → K.hh t = h → K.mm t = i → K.W t = k → m ≤ 12 → d ≤ 31 → h < 24 → i < 60 → k < 7 →
      X.matB (X.lsets L) t = ((if (!fullB (X.lhas 2 L2) 1 32 && !fullB (X.lhas 4 L4) 0 7) = true then X.lhas 2 L2 d || X.lhas 4 L4 k else X.lhas 2 L2 d && X.lhas 4 L4 k) && decide (K.ss t = 0) && X.lhas 0 L0 i && X.lhas 1 L1 h && X.lhas 3 L3 m)) := by
    intro t q0 q1 m d h i k em ed eh ei ek m2 d2 h2 i2 k2
    have := fields_ok L t q0 q1 m d h i k em ed eh ei ek m2 d2 h2 i2 k2
    unfold onL at this
    rw [e0, e1, e2, e3, e4] at this
    exact this
  clear e0 e1 e2 e3 e4 hLS
  go_wp2_with fail

  · have q0 : 0 ≤ p - p % 60 := by omega
    have q1 : p - p % 60 ≤ 4611686018427387904 := by omega
    clear hpk
    generalize p - p % 60 = t at *
    obtain ⟨m, d, h, i, k, em, ed, eh, ei, ek, m1, m2, d1, d2, h2, i2, k2⟩ := parts_of t q0
    have hok := HOK.out t q0 q1 m d h i k em ed eh ei ek m2 d2 h2 i2 k2
    have fO : datOf t = dat (K.Y t) m d h i (K.ss t) k := by unfold datOf; rw [em, ed, eh, ei, ek]
    have hA := at_in t q0 q1 w7 (HE.out.keep HB'.out).tab
    rw [fO] at hA
    have HA := hide hA
    have HO := hide hok
    clear hA hok fO em ed eh ei ek HOK
    go_at_call 8
    refine HA.out.mono ?_
    rintro e w8 ⟨rfl, hb⟩
    have j0 : (0 : Int) ≤ m := by omega
    have j1 : (1 : Int) ≤ m := by omega
    have j2 : (m : Int) ≤ 12 := by omega
    have j3 : (1 : Int) ≤ d := by omega
    have j4 : (d : Int) ≤ 31 := by omega
    have j5 : (0 : Int) ≤ h := by omega
    have j6 : (h : Int) ≤ 23 := by omega
    have j7 : (0 : Int) ≤ i := by omega
    have j8 : (i : Int) ≤ 59 := by omega
    have j9 : (0 : Int) ≤ k := by omega
    have j10 : (k : Int) ≤ 6 := by omega
    generalize K.Y t = yy at *
    generalize hss : K.ss t = ss at *
    have hb9 := Below.put hb (.cells #[.int .i64 yy, .int .i64 m, .int .i64 d, .int .i64 h, .int .i64 i, .int .i64 ss, .int .i64 k] 35)
    have x2 := (K2.out.keep hb9).c d (by omega)
    have x4 := (K4.out.keep hb9).c k (by omega)
    have FU2 := hide (full_any g2 32 32 1 (X.lhas 2 L2) (by decide) (by decide) _ (K2.out.keep hb9).c)
    have FU4 := hide (full_any g4 7 7 0 (X.lhas 4 L4) (by decide) (by decide) _ (K4.out.keep hb9).c)
    have HB9 := hide hb9
    clear hb9
    generalize hD2 : X.lhas 2 L2 d = D2 at x2 HO
    generalize hD4 : X.lhas 4 L4 k = D4 at x4 HO
    generalize hF2 : fullB (X.lhas 2 L2) 1 32 = F2 at FU2 HO
    generalize hF4 : fullB (X.lhas 4 L4) 0 7 = F4 at FU4 HO
    clear hD2 hD4 hF2 hF4 m1 m2 d1 d2 h2 i2 k2
    cases D2
    · go_wp2_with fail
      go_at_call 9
      refine FU2.out.mono ?_
      rintro e w10 ⟨rfl, rfl⟩
      cases F2
      · go_wp2_with fail
        go_at_call 9
        refine FU4.out.mono ?_
        rintro e w10 ⟨rfl, rfl⟩
        cases D4 <;> cases F4
        all_goals
          go_wp2_with fail
          go_at_call 10
          refine (matches_any gx (X.lsets L) t _ (HE.out.keep (HB'.out.trans (HB9.out.mono HB'.out.size))) (HX.out.keep HB9.out)).mono ?_
          rintro e w11 ⟨rfl, hb11⟩
          have hbb := HB9.out.trans (hb11.mono HB9.out.size)
          have y0 := (K0.out.keep hbb).c i (by omega)
          have y1 := (K1.out.keep hbb).c h (by omega)
          have y3 := (K3.out.keep hbb).c m (by omega)
          have D9 := (DatAt.new w8 yy m d h i ss k 35).keep hb11
          have d1 := D9.c1
          have d3 := D9.c3
          have d4 := D9.c4
          have d5 := D9.c5
          have HBB := hide (HB'.out.trans (hbb.mono HB'.out.size))
          rw [HO.out]
          clear hb11 hbb D9 HO x2 x4
          generalize X.lhas 0 L0 i = A0 at *
          generalize X.lhas 1 L1 h = A1 at *
          generalize X.lhas 3 L3 m = A3 at *
          go_wp2_with fail
          all_goals
            go_ret
            refine ⟨?_, HBB.out⟩
            first | rfl | (simp; done) | (cases A0 <;> cases A1 <;> cases A3 <;> by_cases hs : ss = 0 <;> simp_all)
      · cases D4
        all_goals
          go_wp2_with fail
          go_at_call 10
          refine (matches_any gx (X.lsets L) t _ (HE.out.keep (HB'.out.trans (HB9.out.mono HB'.out.size))) (HX.out.keep HB9.out)).mono ?_
          rintro e w11 ⟨rfl, hb11⟩
          have hbb := HB9.out.trans (hb11.mono HB9.out.size)
          have y0 := (K0.out.keep hbb).c i (by omega)
          have y1 := (K1.out.keep hbb).c h (by omega)
          have y3 := (K3.out.keep hbb).c m (by omega)
          have D9 := (DatAt.new w8 yy m d h i ss k 35).keep hb11
          have d1 := D9.c1
          have d3 := D9.c3
          have d4 := D9.c4
          have d5 := D9.c5
          have HBB := hide (HB'.out.trans (hbb.mono HB'.out.size))
          rw [HO.out]
          clear hb11 hbb D9 HO x2 x4
          generalize X.lhas 0 L0 i = A0 at *
          generalize X.lhas 1 L1 h = A1 at *
          generalize X.lhas 3 L3 m = A3 at *
          go_wp2_with fail
          all_goals
            go_ret
            refine ⟨?_, HBB.out⟩
            first | rfl | (simp; done) | (cases A0 <;> cases A1 <;> cases A3 <;> by_cases hs : ss = 0 <;> simp_all)
    · go_wp2_with fail
      go_at_call 9
      refine FU2.out.mono ?_
      rintro e w10 ⟨rfl, rfl⟩
      cases F2
      · go_wp2_with fail
        go_at_call 9
        refine FU4.out.mono ?_
        rintro e w10 ⟨rfl, rfl⟩
        cases D4 <;> cases F4
        all_goals
          go_wp2_with fail
          go_at_call 10
          refine (matches_any gx (X.lsets L) t _ (HE.out.keep (HB'.out.trans (HB9.out.mono HB'.out.size))) (HX.out.keep HB9.out)).mono ?_
          rintro e w11 ⟨rfl, hb11⟩
          have hbb := HB9.out.trans (hb11.mono HB9.out.size)
          have y0 := (K0.out.keep hbb).c i (by omega)
          have y1 := (K1.out.keep hbb).c h (by omega)
          have y3 := (K3.out.keep hbb).c m (by omega)
          have D9 := (DatAt.new w8 yy m d h i ss k 35).keep hb11
          have d1 := D9.c1
          have d3 := D9.c3
          have d4 := D9.c4
          have d5 := D9.c5
          have HBB := hide (HB'.out.trans (hbb.mono HB'.out.size))
          rw [HO.out]
          clear hb11 hbb D9 HO x2 x4
          generalize X.lhas 0 L0 i = A0 at *
          generalize X.lhas 1 L1 h = A1 at *
          generalize X.lhas 3 L3 m = A3 at *
          go_wp2_with fail
          all_goals
            go_ret
            refine ⟨?_, HBB.out⟩
            first | rfl | (simp; done) | (cases A0 <;> cases A1 <;> cases A3 <;> by_cases hs : ss = 0 <;> simp_all)
      · cases D4
        all_goals
          go_wp2_with fail
          go_at_call 10
          refine (matches_any gx (X.lsets L) t _ (HE.out.keep (HB'.out.trans (HB9.out.mono HB'.out.size))) (HX.out.keep HB9.out)).mono ?_
          rintro e w11 ⟨rfl, hb11⟩
          have hbb := HB9.out.trans (hb11.mono HB9.out.size)
          have y0 := (K0.out.keep hbb).c i (by omega)
          have y1 := (K1.out.keep hbb).c h (by omega)
          have y3 := (K3.out.keep hbb).c m (by omega)
          have D9 := (DatAt.new w8 yy m d h i ss k 35).keep hb11
          have d1 := D9.c1
          have d3 := D9.c3
          have d4 := D9.c4
          have d5 := D9.c5
          have HBB := hide (HB'.out.trans (hbb.mono HB'.out.size))
          rw [HO.out]
          clear hb11 hbb D9 HO x2 x4
          generalize X.lhas 0 L0 i = A0 at *
          generalize X.lhas 1 L1 h = A1 at *
          generalize X.lhas 3 L3 m = A3 at *
          go_wp2_with fail
          all_goals
            go_ret
            refine ⟨?_, HBB.out⟩
            first | rfl | (simp; done) | (cases A0 <;> cases A1 <;> cases A3 <;> by_cases hs : ss = 0 <;> simp_all)

  · have q0 : 0 ≤ p := by omega
    have q1 : p ≤ 4611686018427387904 := by omega
    clear hpk
    generalize p = t at *
    obtain ⟨m, d, h, i, k, em, ed, eh, ei, ek, m1, m2, d1, d2, h2, i2, k2⟩ := parts_of t q0
    have hok := HOK.out t q0 q1 m d h i k em ed eh ei ek m2 d2 h2 i2 k2
    have fO : datOf t = dat (K.Y t) m d h i (K.ss t) k := by unfold datOf; rw [em, ed, eh, ei, ek]
    have hA := at_in t q0 q1 w7 (HE.out.keep HB'.out).tab
    rw [fO] at hA
    have HA := hide hA
    have HO := hide hok
    clear hA hok fO em ed eh ei ek HOK
    go_at_call 8
    refine HA.out.mono ?_
    rintro e w8 ⟨rfl, hb⟩
    have j0 : (0 : Int) ≤ m := by omega
    have j1 : (1 : Int) ≤ m := by omega
    have j2 : (m : Int) ≤ 12 := by omega
    have j3 : (1 : Int) ≤ d := by omega
    have j4 : (d : Int) ≤ 31 := by omega
    have j5 : (0 : Int) ≤ h := by omega
    have j6 : (h : Int) ≤ 23 := by omega
    have j7 : (0 : Int) ≤ i := by omega
    have j8 : (i : Int) ≤ 59 := by omega
    have j9 : (0 : Int) ≤ k := by omega
    have j10 : (k : Int) ≤ 6 := by omega
    generalize K.Y t = yy at *
    generalize hss : K.ss t = ss at *
    have hb9 := Below.put hb (.cells #[.int .i64 yy, .int .i64 m, .int .i64 d, .int .i64 h, .int .i64 i, .int .i64 ss, .int .i64 k] 35)
    have x2 := (K2.out.keep hb9).c d (by omega)
    have x4 := (K4.out.keep hb9).c k (by omega)
    have FU2 := hide (full_any g2 32 32 1 (X.lhas 2 L2) (by decide) (by decide) _ (K2.out.keep hb9).c)
    have FU4 := hide (full_any g4 7 7 0 (X.lhas 4 L4) (by decide) (by decide) _ (K4.out.keep hb9).c)
    have HB9 := hide hb9
    clear hb9
    generalize hD2 : X.lhas 2 L2 d = D2 at x2 HO
    generalize hD4 : X.lhas 4 L4 k = D4 at x4 HO
    generalize hF2 : fullB (X.lhas 2 L2) 1 32 = F2 at FU2 HO
    generalize hF4 : fullB (X.lhas 4 L4) 0 7 = F4 at FU4 HO
    clear hD2 hD4 hF2 hF4 m1 m2 d1 d2 h2 i2 k2
    cases D2
    · go_wp2_with fail
      go_at_call 9
      refine FU2.out.mono ?_
      rintro e w10 ⟨rfl, rfl⟩
      cases F2
      · go_wp2_with fail
        go_at_call 9
        refine FU4.out.mono ?_
        rintro e w10 ⟨rfl, rfl⟩
        cases D4 <;> cases F4
        all_goals
          go_wp2_with fail
          go_at_call 10
          refine (matches_any gx (X.lsets L) t _ (HE.out.keep (HB'.out.trans (HB9.out.mono HB'.out.size))) (HX.out.keep HB9.out)).mono ?_
          rintro e w11 ⟨rfl, hb11⟩
          have hbb := HB9.out.trans (hb11.mono HB9.out.size)
          have y0 := (K0.out.keep hbb).c i (by omega)
          have y1 := (K1.out.keep hbb).c h (by omega)
          have y3 := (K3.out.keep hbb).c m (by omega)
          have D9 := (DatAt.new w8 yy m d h i ss k 35).keep hb11
          have d1 := D9.c1
          have d3 := D9.c3
          have d4 := D9.c4
          have d5 := D9.c5
          have HBB := hide (HB'.out.trans (hbb.mono HB'.out.size))
          rw [HO.out]
          clear hb11 hbb D9 HO x2 x4
          generalize X.lhas 0 L0 i = A0 at *
          generalize X.lhas 1 L1 h = A1 at *
          generalize X.lhas 3 L3 m = A3 at *
          go_wp2_with fail
          all_goals
            go_ret
            refine ⟨?_, HBB.out⟩
            first | rfl | (simp; done) | (cases A0 <;> cases A1 <;> cases A3 <;> by_cases hs : ss = 0 <;> simp_all)
      · cases D4
        all_goals
          go_wp2_with fail
          go_at_call 10
          refine (matches_any gx (X.lsets L) t _ (HE.out.keep (HB'.out.trans (HB9.out.mono HB'.out.size))) (HX.out.keep HB9.out)).mono ?_
          rintro e w11 ⟨rfl, hb11⟩
          have hbb := HB9.out.trans (hb11.mono HB9.out.size)
          have y0 := (K0.out.keep hbb).c i (by omega)
          have y1 := (K1.out.keep hbb).c h (by omega)
          have y3 := (K3.out.keep hbb).c m (by omega)
          have D9 := (DatAt.new w8 yy m d h i ss k 35).keep hb11
          have d1 := D9.c1
          have d3 := D9.c3
          have d4 := D9.c4
          have d5 := D9.c5
          have HBB := hide (HB'.out.trans (hbb.mono HB'.out.size))
          rw [HO.out]
          clear hb11 hbb D9 HO x2 x4
          generalize X.lhas 0 L0 i = A0 at *
          generalize X.lhas 1 L1 h = A1 at *
          generalize X.lhas 3 L3 m = A3 at *
          go_wp2_with fail
          all_goals
            go_ret
            refine ⟨?_, HBB.out⟩
            first | rfl | (simp; done) | (cases A0 <;> cases A1 <;> cases A3 <;> by_cases hs : ss = 0 <;> simp_all)
    · go_wp2_with fail
      go_at_call 9
      refine FU2.out.mono ?_
      rintro e w10 ⟨rfl, rfl⟩
      cases F2
      · go_wp2_with fail
        go_at_call 9
        refine FU4.out.mono ?_
        rintro e w10 ⟨rfl, rfl⟩
        cases D4 <;> cases F4
        all_goals
          go_wp2_with fail
          go_at_call 10
          refine (matches_any gx (X.lsets L) t _ (HE.out.keep (HB'.out.trans (HB9.out.mono HB'.out.size))) (HX.out.keep HB9.out)).mono ?_
          rintro e w11 ⟨rfl, hb11⟩
          have hbb := HB9.out.trans (hb11.mono HB9.out.size)
          have y0 := (K0.out.keep hbb).c i (by omega)
          have y1 := (K1.out.keep hbb).c h (by omega)
          have y3 := (K3.out.keep hbb).c m (by omega)
          have D9 := (DatAt.new w8 yy m d h i ss k 35).keep hb11
          have d1 := D9.c1
          have d3 := D9.c3
          have d4 := D9.c4
          have d5 := D9.c5
          have HBB := hide (HB'.out.trans (hbb.mono HB'.out.size))
          rw [HO.out]
          clear hb11 hbb D9 HO x2 x4
          generalize X.lhas 0 L0 i = A0 at *
          generalize X.lhas 1 L1 h = A1 at *
          generalize X.lhas 3 L3 m = A3 at *
          go_wp2_with fail
          all_goals
            go_ret
            refine ⟨?_, HBB.out⟩
            first | rfl | (simp; done) | (cases A0 <;> cases A1 <;> cases A3 <;> by_cases hs : ss = 0 <;> simp_all)
      · cases D4
        all_goals
          go_wp2_with fail
          go_at_call 10
          refine (matches_any gx (X.lsets L) t _ (HE.out.keep (HB'.out.trans (HB9.out.mono HB'.out.size))) (HX.out.keep HB9.out)).mono ?_
          rintro e w11 ⟨rfl, hb11⟩
          have hbb := HB9.out.trans (hb11.mono HB9.out.size)
          have y0 := (K0.out.keep hbb).c i (by omega)
          have y1 := (K1.out.keep hbb).c h (by omega)
          have y3 := (K3.out.keep hbb).c m (by omega)
          have D9 := (DatAt.new w8 yy m d h i ss k 35).keep hb11
          have d1 := D9.c1
          have d3 := D9.c3
          have d4 := D9.c4
          have d5 := D9.c5
          have HBB := hide (HB'.out.trans (hbb.mono HB'.out.size))
          rw [HO.out]
          clear hb11 hbb D9 HO x2 x4
          generalize X.lhas 0 L0 i = A0 at *
          generalize X.lhas 1 L1 h = A1 at *
          generalize X.lhas 3 L3 m = A3 at *
          go_wp2_with fail
          all_goals
            go_ret
            refine ⟨?_, HBB.out⟩
            first | rfl | (simp; done) | (cases A0 <;> cases A1 <;> cases A3 <;> by_cases hs : ss = 0 <;> simp_all)

end Go.Proofs.YtbflmgiheccgdaaDoor
