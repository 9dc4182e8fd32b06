/- known: the document's examples. -/
import Derived.Test.YteaokgolnhdloaaPListR
namespace Go.Proofs.Yteaokgolnhdloaa
open Go.RowKit

theorem num_300 : K.num 300 = [172, 2] := by rw [K.num_big (by decide), K.num_small (by decide)]
theorem room_9 : room 9 = 9 := by decide
theorem room_99 : room 99 = 99 := by decide

theorem kn1 : numW 0 1000 300 ⟨[], room 9, 0⟩ = ⟨[172, 2], 9, 0⟩ := by
  unfold numW
  rw [if_neg (by decide), room_9, show Int.toNat 300 = 300 from rfl, num_300]
  rfl
theorem kn2 : takeR (numR 0 1000) (newR [172, 2]) = ⟨[172, 2], 2, 0⟩ := by rfl
theorem kn2v : numV (newR [172, 2]) = 300 := by rfl
theorem kn5 : takeR (numR 0 1000) (newR [128, 0]) = ⟨[128, 0], 0, 22⟩ := by rfl
theorem num_1 : K.num 1 = [1] := K.num_small (by decide)
theorem num_2 : K.num 2 = [2] := K.num_small (by decide)
theorem kn3 : listW 3 [textW 2 [97, 98]] ⟨[], room 99, 0⟩ = ⟨[1, 2, 97, 98], 99, 0⟩ := by
  unfold listW textW
  rw [room_99, if_neg (by decide), show ([fun s : K.WS => if (2 : Int) < (([97, 98] : List Nat).length : Int) then s.fail 20 else s.lay (K.num ([97, 98] : List Nat).length ++ [97, 98])] : List (K.WS → K.WS)).length = 1 from rfl, num_1, show ([97, 98] : List Nat).length = 2 from rfl, num_2]
  rfl
theorem kn4 : takeR (listR 3 (rowR 2)) (newR [1, 2, 97, 98]) = ⟨[1, 2, 97, 98], 4, 0⟩ := by rfl

/-- bytes in a new block -/
theorem rd_new (w : World) (l : List Nat) (hl : l.length < 281474976710656) (hd : ∀ d ∈ l, d < 256) : Rd (w.alloc (.cells (B8 l).toArray 5)) (some ⟨w.heap.size, 0, none⟩) l.length l := by
  refine ⟨rfl, hl, hd, .inr ⟨_, _, rfl, fun i hi => ?_⟩⟩
  rw [Nat.zero_add, cell_of_row _ _ _ _ _ _ (heap_alloc_new w _), List.getElem?_toArray, B8_at l i hi]

/-- one string in a new block -/
theorem els_one (w : World) (v : Value) (T : TypeId) : Els (fun k => k < (w.alloc (.cells #[v] T)).heap.size) (w.alloc (.cells #[v] T)) (some ⟨w.heap.size, 0, none⟩) 1 [v] := by
  refine ⟨rfl, by decide, .inr ⟨_, _, rfl, by simp, fun i x hx => ?_⟩⟩
  match i, hx with
  | 0, hx =>
    simp only [List.getElem?_cons_zero, Option.some.injEq] at hx
    subst hx
    rw [cell_of_row _ _ _ _ _ _ (heap_alloc_new w _)]
    rfl
  | j + 1, hx => simp at hx

theorem blk_lt {w : World} {o : Nat} {b : Obj} (h : w.heap[o]? = some b) : o < w.heap.size := (Array.getElem?_eq_some_iff.1 h).1
theorem min3 : (min 3 16777216 : Int) = 3 := by decide
theorem sb_ab : sb ⟨#[97, 98]⟩ = [97, 98] := by decide

theorem numForm_lt {w : World} {l : Nat} {v : Value} (h : w.cell? ⟨l, 0, none⟩ = some v) : l < w.heap.size := block_lt_of_cell h

set_option maxRecDepth 10000 in
set_option maxHeartbeats 2000000 in
theorem known_any (w : World) :
    Calls Try.prog 5 #[] w fun en w' => en = .returned (.bool true) ∧ Below w.heap.size w w' := by
  go_enter Try.func5, Try.ntmps5
  go_wp2_with fail
  refine (NewWriter_any 9 _).mono ?_
  rintro e w1 ⟨rfl, h1⟩
  have HB := hide (h1.keep.below (Nat.le_refl w.heap.size) (fun i hi => hi))
  clear h1
  go_wp2_with fail
  refine (NewReader_any _ 2 2 [172, 2] _ (rd_new w1 [172, 2] (by decide) (by decide)) (fun e => by cases e)).mono ?_
  rintro e w2 ⟨q, rfl, _, _, hb⟩
  have HB2 := hide ((HB.out.alloc HB.out.size (.cells (B8 [172, 2]).toArray 5)).trans (hb.mono (by have := HB.out.size; simp; omega)))
  clear HB hb
  go_wp2_with fail
  refine (Numbers_any 0 1000 _).mono ?_
  rintro e w3 ⟨l, m, rfl, hl, hm, _, _, hb⟩
  have HB3 := hide (further HB2.out hb)
  have HL := hide hl
  have HM := hide hm
  clear HB2 hb hl hm
  go_wp2_with fail
  refine (BytesI _ _ _ _ (.int .i64 300) (numW 0 1000 300) 9 ⟨[172, 2], 9, 0⟩ kn1 w3 (putsNum _ w3 l m 0 1000 300 (by decide) HL.out HM.out (numForm_lt HL.out) (numForm_lt HM.out)) ent_putNum).mono ?_
  rintro e w4 ⟨v, rfl, ho, hb, _⟩
  have ho' : w4.ownsRow w3.heap.size 5 1 v ([172, 2] : List Nat).length (B8 [172, 2]) := ho
  obtain ⟨a1, c1, rfl, hr, _⟩ := ownsRow_rd ho' (by decide) (by decide)
  have HA := hide hr
  have HB4 := hide (further HB3.out hb)
  clear HB3 hb ho ho' hr HL HM
  go_wp2_with fail
  refine (Numbers_any 0 1000 _).mono ?_
  rintro e w5 ⟨l, m, rfl, hl, hm, _, _, hb⟩
  have HB5 := hide (further HB4.out hb)
  have HA5 := hide (HA.out.keep hb)
  have hba := (Below.refl w5.heap.size w5).alloc (Nat.le_refl _) (.cells (B8 [172, 2]).toArray 5)
  have HL := hide ((Keep.ofBelow (S := fun _ => False) hba (Nat.le_refl _)).cell hl fun h => h)
  have HM := hide ((Keep.ofBelow (S := fun _ => False) hba (Nat.le_refl _)).cell hm fun h => h)
  have HB5a := hide (further HB5.out hba)
  have HA5a := hide (HA5.out.keep hba)
  clear HB4 HA hb hl hm hba HB5 HA5
  go_wp2_with fail
  refine (ReadI _ _ _ _ (some ⟨w5.heap.size, 0, none⟩) 2 2 [172, 2] (numR 0 1000) _ (fun s => (stableT_plain (T := 0) (P := fun v => v = .int .i64 (numV s : Nat))).stable) ⟨[172, 2], 2, 0⟩ kn2 0 rfl (w5.alloc (.cells (B8 [172, 2]).toArray 5)) (rd_new w5 [172, 2] (by decide) (by decide)) (fun e => by cases e)
    (takesNum _ _ l m 0 1000 HL.out HM.out (numForm_lt HL.out) (numForm_lt HM.out)) ent_takeNum).mono ?_
  rintro e w6 ⟨v, rfl, hv, _, hb⟩
  have hv' := hv rfl
  rw [kn2v] at hv'
  subst hv'
  have HB6 := hide (further HB5a.out hb)
  have HA6 := hide (HA5a.out.keep hb)
  clear HB5a HA5a hb hv HL HM
  go_wp2_with fail
  refine (Texts_any 2 _).mono ?_
  rintro e w7 ⟨m, rfl, hm, _, hb⟩
  have HB7 := hide (further HB6.out hb)
  have HA7 := hide (HA6.out.keep hb)
  have HM := hide hm
  clear HB6 HA6 hb hm
  go_wp2_with fail
  refine (ListsS _ _ _ _ 3 _).mono ?_
  rintro e w8 ⟨m2, o2, rfl, hm2, ho2, _, _, hb⟩
  have HB8 := hide (further HB7.out hb)
  have HA8 := hide (HA7.out.keep hb)
  have hba := (Below.refl w8.heap.size w8).alloc (Nat.le_refl _) (.cells #[.string ⟨#[97, 98]⟩] 9)
  have kf := Keep.ofBelow (S := fun _ => False) hba (Nat.le_refl _)
  have HM' := hide (kf.cell ((Keep.ofBelow (S := fun _ => False) hb (Nat.le_refl _)).cell HM.out fun h => h) fun h => h)
  have HM2 := hide (kf.cell hm2 fun h => h)
  have HO2 := hide (kf.blk ho2 fun h => h)
  have HB8a := hide (further HB8.out hba)
  have HA8a := hide (HA8.out.keep hba)
  clear HB7 HA7 hb hm2 ho2 hba kf HM HB8 HA8
  go_wp2_with fail
  refine (BytesLs _ _ _ _ (.slice (some ⟨w8.heap.size, 0, none⟩) 1 1) (listW 3 [textW 2 [97, 98]]) 99 ⟨[1, 2, 97, 98], 99, 0⟩ kn3 (w8.alloc (.cells #[.string ⟨#[97, 98]⟩] 9))
    (putsListS _ _ m2 o2 3 _ _ _ _ (some ⟨w8.heap.size, 0, none⟩) 1 1 [.string ⟨#[97, 98]⟩] [textW 2 [97, 98]] (els_one w8 _ _) rfl (fun i v f hv hf => ?_) ent_putText (numForm_lt HM2.out) (blk_lt HO2.out) (by have := HM2.out; rw [min3] at this; exact this) HO2.out) ent_putListS).mono ?_
  · match i, hv, hf with
    | 0, hv, hf =>
      simp only [List.getElem?_cons_zero, Option.some.injEq] at hv hf
      subst hv; subst hf
      have := putsText (fun k => k < (w8.alloc (.cells #[.string ⟨#[97, 98]⟩] 9)).heap.size) _ m 2 ⟨#[97, 98]⟩ (by decide) HM'.out (numForm_lt HM'.out)
      rw [sb_ab] at this
      exact this
    | j + 1, hv, hf => simp at hv
  rintro e w9 ⟨v, rfl, ho, hb, _⟩
  have ho' : w9.ownsRow (w8.alloc (.cells #[.string ⟨#[97, 98]⟩] 9)).heap.size 5 1 v ([1, 2, 97, 98] : List Nat).length (B8 [1, 2, 97, 98]) := ho
  obtain ⟨a3, c3, rfl, hr, _⟩ := ownsRow_rd ho' (by decide) (by decide)
  have HC := hide hr
  have HB9 := hide (further HB8a.out hb)
  have HA9 := hide (HA8a.out.keep hb)
  clear HB8a HA8a hb ho ho' hr HM' HM2 HO2
  go_wp2_with fail
  refine (Texts_any 2 _).mono ?_
  rintro e w10 ⟨m, rfl, hm, _, hb⟩
  have HB10 := hide (further HB9.out hb)
  have HA10 := hide (HA9.out.keep hb)
  have HC10 := hide (HC.out.keep hb)
  have HM := hide hm
  clear HB9 HA9 hb hm HC
  go_wp2_with fail
  refine (ListsS _ _ _ _ 3 _).mono ?_
  rintro e w11 ⟨m2, o2, rfl, hm2, ho2, _, _, hb⟩
  have hba := (Below.refl w11.heap.size w11).alloc (Nat.le_refl _) (.cells (B8 [1, 2, 97, 98]).toArray 5)
  have kf := Keep.ofBelow (S := fun _ => False) hba (Nat.le_refl _)
  have HM' := hide (kf.cell ((Keep.ofBelow (S := fun _ => False) hb (Nat.le_refl _)).cell HM.out fun h => h) fun h => h)
  have HM2 := hide (kf.cell hm2 fun h => h)
  have HO2 := hide (kf.blk ho2 fun h => h)
  have HB11 := hide (further (further HB10.out hb) hba)
  have HA11 := hide ((HA10.out.keep hb).keep hba)
  have HC11 := hide ((HC10.out.keep hb).keep hba)
  clear HB10 HA10 HC10 hb hm2 ho2 hba kf HM
  go_wp2_with fail
  refine (ReadLs _ _ _ _ (some ⟨w11.heap.size, 0, none⟩) 4 4 [1, 2, 97, 98] (listR 3 (rowR 2)) _ (fun s => (listV_stable (T := 9) (T' := 0) (by decide) (by decide) (fun s => stableT_plain (P := fun v => v = .string (str (rowV 2 s)))) s).stable) ⟨[1, 2, 97, 98], 4, 0⟩ kn4 0 rfl (w11.alloc (.cells (B8 [1, 2, 97, 98]).toArray 5)) (rd_new w11 [1, 2, 97, 98] (by decide) (by decide)) (fun e => by cases e)
    (takesListS _ _ m2 o2 3 (by decide) _ _ _ _ _ _ (fun s => stableT_plain (P := fun v => v = .string (str (rowV 2 s)))) (fun s w v hv => ⟨_, hv⟩) (takesText _ _ m 2 HM'.out (numForm_lt HM'.out)) ent_takeText (numForm_lt HM2.out) (blk_lt HO2.out) (by have := HM2.out; rw [min3] at this; exact this) HO2.out) ent_takeListS).mono ?_
  rintro e w12 ⟨v, rfl, hv, _, hb⟩
  obtain ⟨vs, hvl, hvo, hvv⟩ : ListV 9 (rowR 2) (fun s _ v => v = .string (str (rowV 2 s))) 1 ⟨[1, 2, 97, 98], 1, 0⟩ w12 v := hv rfl
  obtain ⟨x, hx⟩ : ∃ x, vs[0]? = some x := ⟨_, List.getElem?_eq_getElem (by omega)⟩
  have hx2 : x = .string ⟨#[97, 98]⟩ := hvv 0 x hx
  subst hx2
  have HB12 := hide (further HB11.out hb)
  have HA12 := hide (HA11.out.keep hb)
  have HC12 := hide (HC11.out.keep hb)
  obtain ⟨g, cap, rfl, hcap, hcg⟩ : ∃ g cap, v = .slice (some ⟨g, 0, none⟩) 1 cap ∧ 1 ≤ cap ∧ w12.cell? ⟨g, 0, none⟩ = some (.string ⟨#[97, 98]⟩) := by
    have hcell := fun g hg => hvo.cells (g := g) hg 0 _ hx
    rcases hvo.2 with ⟨_, h0⟩ | ⟨g, cap, cur, rfl, _, _, h1, _⟩
    · omega
    · have := hcell g rfl
      rw [add_zero] at this
      exact ⟨g, cap, rfl, h1, this⟩
  clear HB11 HA11 HC11 hb hv hvv hvl hvo HM' HM2 HO2 hx
  go_wp2_with fail
  refine (Numbers_any 0 1000 _).mono ?_
  rintro e w13 ⟨l, m, rfl, hl, hm, _, _, hb⟩
  have hba := (Below.refl w13.heap.size w13).alloc (Nat.le_refl _) (.cells (B8 [128, 0]).toArray 5)
  have kf := Keep.ofBelow (S := fun _ => False) hba (Nat.le_refl _)
  have HL := hide (kf.cell hl fun h => h)
  have HM := hide (kf.cell hm fun h => h)
  have HB13 := hide (further (further HB12.out hb) hba)
  have HA13 := hide ((HA12.out.keep hb).keep hba)
  have HC13 := hide ((HC12.out.keep hb).keep hba)
  have HG13 := hide (kf.cell ((Keep.ofBelow (S := fun _ => False) hb (Nat.le_refl _)).cell hcg fun h => h) fun h => h)
  clear HB12 HA12 HC12 hb hl hm hba kf hcg
  go_wp2_with fail
  refine (ReadI _ _ _ _ (some ⟨w13.heap.size, 0, none⟩) 2 2 [128, 0] (numR 0 1000) _ (fun s => (stableT_plain (T := 0) (P := fun v => v = .int .i64 (numV s : Nat))).stable) ⟨[128, 0], 0, 22⟩ kn5 22 rfl (w13.alloc (.cells (B8 [128, 0]).toArray 5)) (rd_new w13 [128, 0] (by decide) (by decide)) (fun e => by cases e)
    (takesNum _ _ l m 0 1000 HL.out HM.out (numForm_lt HL.out) (numForm_lt HM.out)) ent_takeNum).mono ?_
  rintro e w14 ⟨v, rfl, _, hv, hb⟩
  have hv' := hv (by decide)
  subst hv'
  have HB14 := hide (further HB13.out hb)
  have k1 := conv_rd (HA13.out.keep hb) c1
  have k2 := conv_rd (HC13.out.keep hb) c3
  have k3 := (Keep.ofBelow (S := fun _ => False) hb (Nat.le_refl _)).cell HG13.out fun h => h
  have k1' : (convert 22 9 (.slice a1 2 c1)).run Try.prog w14 = .ok (.string ⟨#[172, 2]⟩) w14 := k1
  have k2' : (convert 22 9 (.slice a3 4 c3)).run Try.prog w14 = .ok (.string ⟨#[1, 2, 97, 98]⟩) w14 := k2
  clear HB13 HA13 HC13 HG13 hb hv HL HM k1 k2
  go_wp2
  go_ret
  exact ⟨rfl, HB14.out⟩

end Go.Proofs.Yteaokgolnhdloaa
