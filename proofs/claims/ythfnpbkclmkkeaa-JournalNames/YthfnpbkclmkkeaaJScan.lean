/- Package journal: the pieces of a segment. -/
import Derived.Test.YthfnpbkclmkkeaaJRec
import Derived.WalkMore
import Derived.Deep.RegionLaw
namespace Go.Proofs.Ythfnpbkclmkkeaa
open Go.RowKit Go.Lib

/-- what scan's loop keeps -/
structure ScLoop (w wr : World) (n : Nat) (l : List Nat) (base at_ : Nat) (cs : Array Value) (f : Nat) (h : J.Held) : Prop where
  cells : HCells (fun g => w.heap.size ≤ g) wr cs h
  keep : Keep (fun _ => False) w wr
  b0 : wr.heap[w.heap.size]? = some (.cells #[.bool false, .slice none 0 0, .slice none 0 0, .int .i64 0] 62 (0, 0))
  b1 : wr.heap[w.heap.size + 1]? = some (.cells cs 62 (0, 0))
  fuel : n - at_ < f
  is : J.scan l base = J.scanF f (l.drop at_) (decide (at_ = 24)) h
  next : h.next ≤ 1099511627777
  few : h.records.length ≤ at_

/-- what scan answers -/
def ScanAs (w : World) (n : Nat) (h : J.Held) (e : Ending) (w' : World) : Prop := ∃ cs, e = .returned (.agg cs) ∧ HCells (fun g => w.heap.size ≤ g) w' cs h ∧ Keep (fun _ => False) w w' ∧ h.next ≤ 1099511627777 ∧ h.records.length ≤ n

theorem size62 : (Try.prog.info? 62).map (·.size) = some 4 := by kernel_rfl
theorem HCells.facts {R : Nat → Prop} {w : World} {cs : Array Value} {h : J.Held} (H : HCells R w cs h) : (Try.prog.info? 62).map (·.size) = some cs.size ∧ cs.size = 4 ∧ cs.all (·.oneCell') = true := by
  obtain ⟨vi, vr, xs, rfl, h2, _, h4⟩ := H
  obtain ⟨a1, c1, e1⟩ := ownsRow_shape h2.1
  obtain ⟨a2, c2, e2⟩ := ownsRow_shape h4.own
  subst e1 e2
  exact ⟨by rw [size62]; rfl, rfl, by simp [Value.oneCell']⟩

theorem scanF_none {f : Nat} {rest : List Nat} {first : Bool} {h : J.Held} (hf : 0 < f) (h1 : J.one rest first h = none) : J.scanF f rest first h = h := by
  cases f with
  | zero => omega
  | succ f => simp only [J.scanF, h1]
theorem scanF_some {f : Nat} {rest rest' : List Nat} {first : Bool} {h h' : J.Held} (h1 : J.one rest first h = some (rest', h')) : J.scanF (f + 1) rest first h = J.scanF f rest' false h' := by
  simp only [J.scanF, h1]

/-- one record more -/
theorem sc_record {w wr w1 w2 w3 : World} {n : Nat} {l : List Nat} {base at_ : Nat} {cs : Array Value} {f : Nat} {bg : Bool} {im : List Nat} {rs : List (List Nat)} {nx : Nat} {vi vr : Value} {xs : List Value} {p : List Nat} {n2 : Nat} {v1 : Option Addr} {v2 g cap : Nat}
    (HL : ScLoop w wr n l base at_ cs (f + 1) ⟨bg, im, rs, nx⟩)
    (HV : cs = #[.bool bg, vi, vr, .int .i64 (nx : Nat)] ∧ Row wr vi im ∧ (∀ g, vi.ownBlock = some g → w.heap.size ≤ g) ∧ RecsX (fun g => w.heap.size ≤ g) wr vr rs xs)
    (HK1 : Keep (fun _ => False) wr w1) (HK2 : Keep (fun _ => False) w1 w2) (HRow : Row w2 (.slice v1 p.length v2) p) (HNew : ∀ g, (Value.slice v1 p.length v2).ownBlock = some g → w1.heap.size ≤ g)
    (HO3 : w3.ownsRow 0 32 1 (.slice (some ⟨g, 0, none⟩) (rs.length + 1) cap) (rs.length + 1) (xs ++ [.slice v1 p.length v2]))
    (HG3 : (w2.alloc (.cells #[.slice v1 p.length v2] 32)).grownBy w3 vr.ownBlock) (HLc : vr.ownBlock = some g ∨ g = w2.heap.size + 1)
    (HB3 : w3.heap[w.heap.size + 1]? = some (.cells cs 62 (0, 0)))
    (HO : J.one (l.drop at_) (decide (at_ = 24)) ⟨bg, im, rs, nx⟩ = some ((l.drop at_).drop (17 + p.length), ⟨bg, im, rs ++ [p], nx + 1⟩)) (hn2 : n2 = p.length) (hmx : nx ≤ 1099511627776) (hlo : 24 ≤ at_) (hfit : at_ + (17 + n2) ≤ n) :
    ScLoop w ((w3.setCell ⟨w.heap.size + 1, 2, none⟩ (.slice (some ⟨g, 0, none⟩) (rs.length + 1) cap)).setCell ⟨w.heap.size + 1, 3, none⟩ (.int .i64 ((nx : Int) + 1))) n l base (at_ + (17 + n2)) #[.bool bg, vi, .slice (some ⟨g, 0, none⟩) (rs.length + 1) cap, .int .i64 ((nx + 1 : Nat) : Int)] f ⟨bg, im, rs ++ [p], nx + 1⟩ := by
  obtain ⟨hcs, hvi, hviR, hrec⟩ := HV
  have kA : Keep (fun _ => False) w2 (w2.alloc (.cells #[.slice v1 p.length v2] 32)) := Keep.alloc _ _ _
  have k12 : Keep (fun _ => False) wr w2 := HK1.more HK2
  have kWA := k12.more kA
  have recA := hrec.keep kWA fun _ _ _ f => f
  have k3 : Keep (fun i => vr.ownBlock = some i) (w2.alloc (.cells #[.slice v1 p.length v2] 32)) w3 := Keep.grown HG3 fun _ e => e
  have rowA := HRow.keep kA fun _ _ f => f
  have hall : Keep (fun _ => False) w w3 := (HL.keep.more kWA).trans k3 fun i e => .inr (hrec.blk i e)
  have hgR : w.heap.size ≤ g := by
    rcases HLc with h | h
    · exact hrec.blk g h
    · have := (HL.keep.more k12).size; omega
  have rec3 : RecsX (fun g => w.heap.size ≤ g) w3 (.slice (some ⟨g, 0, none⟩) (rs.length + 1) cap) (rs ++ [p]) (xs ++ [.slice v1 p.length v2]) := by
    refine recA.adds (rs2 := [p]) (fun j hj => ?_) HO3 HG3 fun g' e => ?_
    · match j, hj with
      | 0, _ => exact ⟨_, rfl, rowA, fun g e => Nat.le_trans (HL.keep.more HK1).size (HNew g e)⟩
    · injection e with e; subst e; exact hgR
  have hk4 : Keep (fun i => i = w.heap.size + 1) w3 ((w3.setCell ⟨w.heap.size + 1, 2, none⟩ (.slice (some ⟨g, 0, none⟩) (rs.length + 1) cap)).setCell ⟨w.heap.size + 1, 3, none⟩ (.int .i64 ((nx : Int) + 1))) := (keep_cell _ _ _ _).more (keep_cell _ _ _ _)
  have vi3 : Row w3 vi im := (hvi.keep kWA fun _ _ f => f).keep k3 fun g' e e' => row_not recA.own (hvi.keep kWA fun _ _ f => f) e e'
  have hb0 : w3.heap[w.heap.size]? = some (.cells #[.bool false, .slice none 0 0, .slice none 0 0, .int .i64 0] 62 (0, 0)) := by
    have h := kWA.blk HL.b0 fun f => f
    exact k3.blk h fun e => rows_far recA.own h (by decide) e rfl
  refine ⟨⟨vi, _, _, rfl, vi3.keep hk4 fun g' e e' => row_far vi3 HB3 (by decide) e e', hviR, rec3.far HB3 (by decide) (by decide) hk4⟩, hall.trans hk4 (fun i e => .inr (by omega)), hk4.blk hb0 (by omega), ?_, ?_, ?_, by show nx + 1 ≤ _; omega, ?_⟩
  · rw [set_blk (set_blk HB3 2 _) 3 _, hcs]
    rfl
  · have := HL.fuel; omega
  · rw [HL.is, scanF_some HO, List.drop_drop, hn2]
    rw [show decide (at_ + (17 + p.length) = 24) = false from decide_eq_false (by omega)]
  · have := HL.few
    show (rs ++ [p]).length ≤ _
    have h2 : rs.length ≤ at_ := this
    rw [List.length_append, List.length_singleton]
    omega

set_option maxHeartbeats 4000000 in
set_option maxRecDepth 10000 in
theorem scan_any (a : Option Addr) (n c base : Nat) (l : List Nat) (w : World) (h : Rd w a n l) (hc : n ≤ c) (hn24 : 24 ≤ n) (hn : n ≤ 67108864) (hb : base ≤ 1099511627777) :
    Calls Try.prog 51 #[.slice a n c, .int .i64 (base : Nat)] w (ScanAs w n (J.scan l base)) := by
  obtain ⟨i0, hi, hz0, hz1, hz2⟩ := info_parts info_sl
  obtain ⟨b, off, rfl, hrow⟩ := h.2.2.2.resolve_left (by omega)
  clear hrow
  have HH := hide h
  have HNl := hide h.1
  have HI := hide (And.intro hi (And.intro hz0 (And.intro hz1 hz2)))
  have HBs := hide hb
  clear h hi hz0 hz1 hz2 hb
  go_enter Try.func51, Try.ntmps51
  go_wp2
  go_step3
  go_wp2
  go_step3
  go_wp2
  go_loopw [6] (fun iv wr => ∃ (at_ f : Nat) (cs : Array Value) (h : J.Held), iv = .int .i64 (at_ : Nat) ∧ 24 ≤ at_ ∧ at_ ≤ n ∧ Hid (ScLoop w wr n l base at_ cs f h)) (fun iv _ => n - (RowKit.intOf iv).toNat)
  case atStart =>
    refine ⟨24, l.length + 1, _, ⟨false, [], [], base⟩, rfl, Nat.le_refl _, hn24, ?_, (Keep.alloc _ _ _).more (Keep.alloc _ _ _), heap_alloc2_old w _ _, heap_alloc2_new w _ _, by have := HNl.out; omega, by simp [J.scan], HBs.out, Nat.zero_le _⟩
    exact ⟨.slice none 0 0, .slice none 0 0, [], rfl, row_nil _, (fun g e => by cases e), RecsX.nil _ _⟩
  case round =>
    obtain ⟨at_, f, cs, ⟨bg, im, rs, nx⟩, rfl, hlo, hat, HL⟩ := hrel
    obtain ⟨vi, vr, xs, hcs, hvi, hviR, hrec⟩ := HL.out.cells
    have c0 := cell_blk HL.out.b1 0 (v := .bool bg) (by rw [hcs]; rfl)
    have c1 := cell_blk HL.out.b1 1 (v := vi) (by rw [hcs]; rfl)
    have c2 := cell_blk HL.out.b1 2 (v := vr) (by rw [hcs]; rfl)
    have c3 := cell_blk HL.out.b1 3 (v := .int .i64 (nx : Nat)) (by rw [hcs]; rfl)
    have HV := hide (And.intro hcs (And.intro hvi (And.intro hviR hrec)))
    obtain ⟨a', hif, ha'⟩ : ∃ a' : Addr, (if c = at_ then (some ⟨b, off, none⟩ : Option Addr) else some ⟨b, off + at_, none⟩) = some a' ∧ (0 < n - at_ → a' = ⟨b, off + at_, none⟩) := ⟨if c = at_ then ⟨b, off, none⟩ else ⟨b, off + at_, none⟩, by split <;> rfl, fun h => by rw [if_neg (by omega)]⟩
    have hrest : Rd wr (some a') (n - at_) (l.drop at_) := by
      have := (HH.out.stay (S := fun _ => False) HL.out.keep fun _ _ _ f => f).cut at_ (n - at_) (by omega) ha'
      rwa [List.take_of_length_le (by rw [List.length_drop]; have := HNl.out; omega)] at this
    have HF := hide (firstPiece_any (some a') (n - at_) (c - at_) nx (l.drop at_) wr.drew (hrest.stay (S := fun _ => False) (Keep.drew _ _) fun _ _ _ f => f) (by omega) (by omega))
    have HIf := hide hif
    have hnx := HL.out.next
    clear hcs hvi hviR hrec hrest ha' hif
    cases hfp : J.firstPiece (l.drop at_) nx with
    | none =>
      have HFp := hide hfp
      have HF0 : Hid (Calls Try.prog 67 #[.slice (some a') (n - at_) (c - at_), .int .i64 (nx : Nat)] wr.drew fun e w' => e = .returned (.tuple #[.int .u8 0, .slice none 0 0, .bool false]) ∧ Keep (fun _ => False) wr w') := HF.out.mono fun e w' ⟨h1, h2⟩ => by
        rcases h2 with ⟨_, h2⟩ | ⟨_, _, _, _, _, h2, _⟩
        · exact ⟨h2, (Keep.drew _ _).more h1⟩
        · rw [HFp.out] at h2; cases h2
      have HE : Hid (J.scan l base = (⟨bg, im, rs, nx⟩ : J.Held)) := by
        show _ = _
        rw [HL.out.is]
        exact scanF_none (by have := HL.out.fuel; omega) (by unfold J.one; rw [HFp.out])
      clear HF hfp
      have hif := HIf.out
      go_wp2_with fail
      go_region_held3 (fun w' => w'.cell? ⟨w.heap.size + 1, 3, none⟩ = some (.int .i64 (nx : Nat))) (first | exact c3 | (exact HK1.out.cell c3 fun f => f) | go_keep)
        ((go_at_call 67
          refine HF0.out.mono ?_
          rintro e w1 ⟨rfl, hk1⟩
          have HK1 := hide hk1
          clear hk1))
      have HKe := hide (HL.out.keep.more HK1.out)
      have HCe := hide (HL.out.cells.keep HK1.out fun _ _ _ f => f)
      have HB1 := hide (HK1.out.blk HL.out.b1 fun f => f)
      have HB0 := hide (HK1.out.blk HL.out.b0 fun f => f)
      obtain ⟨f1, f2, f3⟩ := HCe.out.facts
      have F1 := hide f1
      have F2 := hide f2
      have F3 := hide f3
      clear f1 f2 f3
      go_wp2_with (first
        | (refine wpList_load_row rfl 62 _ rfl (w.heap.size + 1) rfl 62 cs (0, 0) _ HB1.out Try.underlying62 rfl F1.out ?_)
        | (refine wpList_store_row rfl 62 _ _ rfl w.heap.size cs rfl rfl 62 _ HB0.out F1.out F2.out.symm F3.out ?_))
      have hkf : Keep (fun i => i = w.heap.size) w1 (w1.setRow w.heap.size cs) := ⟨rfl, rfl, rfl, by rw [size_setRow]; exact Nat.le_refl _, fun k _ hk => heap_setRow_other _ _ _ _ hk⟩
      have hfin : ScanAs w n (J.scan l base) (.returned (.agg cs)) (w1.setRow w.heap.size cs) := by
        rw [HE.out]
        exact ⟨cs, rfl, HCe.out.far HB0.out (by decide) (by decide) hkf, HKe.out.trans hkf (fun i e => .inr (by omega)), HL.out.next, Nat.le_trans HL.out.few hat⟩
      try rw [Exit.noGoto_ret]
      refine bodyPost_ret (v := .agg cs) ?_ rfl hfin
      exact results_cell_row (P := Try.prog) (fn := Try.f51) rfl _ _ w.heap.size 62 cs (0, 0) _ rfl (setRow_heap _ _ _ _ _ _ HB0.out) Try.underlying62 rfl F1.out
    | some kp =>
      obtain ⟨k, p⟩ := kp
      have HFp := hide hfp
      have hpl := J.firstPiece_length hfp
      rw [List.length_drop, ← HNl.out] at hpl
      have HF1 : Hid (Calls Try.prog 67 #[.slice (some a') (n - at_) (c - at_), .int .i64 (nx : Nat)] wr.drew fun e w' => ∃ a2 n2 c2, e = .returned (.tuple #[.int .u8 (k : Nat), .slice (some a2) n2 c2, .bool true]) ∧ Rd w' (some a2) n2 p ∧ Keep (fun _ => False) wr w') := HF.out.mono fun e w' ⟨h1, h2⟩ => by
        rcases h2 with ⟨h2, _⟩ | ⟨k', p', a2, n2, c2, h2, h3, h4⟩
        · rw [HFp.out] at h2; cases h2
        · rw [HFp.out] at h2
          injection h2 with h2
          injection h2 with e1 e2
          subst e1 e2
          exact ⟨a2, n2, c2, h3, h4, (Keep.drew _ _).more h1⟩
      clear HF hfp
      have hif := HIf.out
      obtain ⟨f, rfl⟩ : ∃ f', f = f' + 1 := ⟨f - 1, by have := HL.out.fuel; omega⟩
      rcases hpl.2.1 with rfl | rfl
      · -- a record
        by_cases hmx : nx ≤ 1099511627776
        · have HO : Hid (J.one (l.drop at_) (decide (at_ = 24)) ⟨bg, im, rs, nx⟩ = some ((l.drop at_).drop (17 + p.length), ⟨bg, im, rs ++ [p], nx + 1⟩)) := by
            show _ = _
            unfold J.one
            rw [HFp.out]
            simp [hmx]
          have hmx' : (nx : Int) ≤ 1099511627776 := by omega
          go_wp2_with fail
          go_region_held3 (fun w' => w'.cell? ⟨w.heap.size + 1, 3, none⟩ = some (.int .i64 (nx : Nat))) (first | exact c3 | (exact HK1.out.cell c3 fun f => f) | go_keep)
            ((go_at_call 67
              refine HF1.out.mono ?_
              rintro e w1 ⟨a2, n2, m2, rfl, hp, hk1⟩
              have HP := hide hp
              have HK1 := hide hk1
              clear hp hk1))
          have HN2 := hide HP.out.1
          have hn2b : n2 ≤ 8388608 := by rw [HN2.out]; exact hpl.2.2
          have hfit : at_ + (17 + n2) ≤ n := by rw [HN2.out]; omega
          have HPl := hide hpl
          have HFw := hide HL.out.few
          clear hpl
          have HLy : Hid (Calls Try.prog 43 #[.slice (some ⟨w1.heap.size, 0, none⟩) 1 1] (w1.drew.alloc (.cells #[.slice (some a2) n2 m2] 32)) (LaidJ w1 p)) := (jlay_one w1.drew 32 (some a2) n2 m2 p (HP.out.stay (S := fun _ => False) (Keep.drew _ _) fun _ _ _ f => f) (fun e => by cases e) (by omega)).mono fun e w' ⟨v, h1, h2, h3, h4⟩ => ⟨v, h1, h2, (Keep.drew _ _).more h3, h4⟩
          have hb1 := HK1.out.blk HL.out.b1 fun f => f
          have HB1 := hide hb1
          clear hb1
          have d2 := HK1.out.cell c2 fun f => f
          have d3 := HK1.out.cell c3 fun f => f
          go_wp2_with fail
          have H63 : Hid (rs.length + 1 ≤ maxLen) := by show _ ≤ _; have h1 : rs.length ≤ at_ := HFw.out; unfold maxLen; omega
          have HBy : Hid ((rs.length + 1) * 24 ≤ 140737488355328) := by show _ ≤ _; have h1 : rs.length ≤ at_ := HFw.out; omega
          have dA : (w1.alloc (.cells #[.slice (some a2) n2 m2] 32)).drew.cell? ⟨w.heap.size + 1, 2, none⟩ = some vr := (Keep.alloc (fun _ => False) w1 (.cells #[.slice (some a2) n2 m2] 32)).cell d2 fun f => f
          go_region_law
            (first
            | (rw [if_pos (by simp [Region.wanted])]
               go_simp
               go_at_call 43
               refine HLy.out.mono ?_
               rintro e w2 ⟨v, rfl, hrow, hk2, hnew⟩
               have d2' := hk2.cell d2 fun f => f
               obtain ⟨v1, v2, hv⟩ := ownsRow_shape hrow.1
               subst hv
               have HRow := hide hrow
               have dA2 : (w2.alloc (.cells #[.slice v1 p.length v2] 32)).cell? ⟨w.heap.size + 1, 2, none⟩ = some vr := (Keep.alloc (fun _ => False) w2 (.cells #[.slice v1 p.length v2] 32)).cell d2' fun f => f
               have HK2 := hide hk2
               have HNew := hide hnew
               have hkA : Keep (fun _ => False) w2 (w2.alloc (.cells #[.slice v1 p.length v2] 32)) := Keep.alloc _ _ _
               have HKA := hide (hk2.more hkA)
               have HRA := hide (HV.out.2.2.2.keep (HK1.out.more (hk2.more hkA)) fun _ _ _ f => f)
               have HBA := hide ((hk2.more hkA).blk HB1.out fun f => f)
               have HRwA := hide (hrow.keep hkA fun _ _ f => f)
               have HNs : Hid (∀ j u, [Value.slice v1 p.length v2][j]? = some u → (w2.alloc (.cells #[.slice v1 p.length v2] 32)).cell? ((⟨w2.heap.size, 0, none⟩ : Addr).add j) = some u) := fun j u hj => by
                 match j, hj with
                 | 0, hj => simp at hj; subst hj; simp [Addr.add]
               have HOne : Hid (∀ u ∈ [Value.slice v1 p.length v2], u.oneCell' = true) := fun u hu => by simp at hu; subst hu; rfl
               have HSz : Hid ((w2.alloc (.cells #[.slice v1 p.length v2] 32)).heap.size = w2.heap.size + 1) := alloc_size _ _
               clear hrow hk2 hnew hkA)
            | (refine step_append_lies _ (by rfl) _ _ 38 (by rfl) 0 32 i0 (.slice none 0 0) 1 24 Try.underlying38 HI.out.1 HI.out.2.1 HI.out.2.2.1 HI.out.2.2.2 rfl (by decide) vr rs.length xs (by rfl) HRA.out.own ⟨w2.heap.size, 0, none⟩ 1 1 [.slice v1 p.length v2] (by rfl) (by rfl) HNs.out HOne.out (by decide) H63.out HBy.out (Nat.zero_le _) (w2.heap.size + 1) HSz.out ?_
               intro g cap w3 hown3 hgr3 hloc hlt3
               have k3 : Keep (fun i => vr.ownBlock = some i) (w2.alloc (.cells #[.slice v1 p.length v2] 32)) w3 := Keep.grown hgr3 fun _ e => e
               have hB3 := k3.blk HBA.out fun e => rows_far HRA.out.own HBA.out (by decide) e rfl
               have HB3 := hide hB3
               have e2 : w3.cell? ⟨w.heap.size + 1, 2, none⟩ = some vr := cell_blk hB3 2 (by rw [HV.out.1]; rfl)
               have e3 : w3.cell? ⟨w.heap.size + 1, 3, none⟩ = some (.int .i64 (nx : Nat)) := cell_blk hB3 3 (by rw [HV.out.1]; rfl)
               have g2 := frozen_blk hB3 2
               have g3 := frozen_blk hB3 3
               have HO3 := hide hown3
               have HG3 := hide hgr3
               have HLc := hide hloc
               have HK3 := hide k3
               clear hown3 hgr3 hloc hlt3 k3 hB3))
          all_goals go_wp2
          all_goals (
            refine ⟨⟨at_ + (17 + n2), f, #[.bool bg, vi, .slice (some ⟨g, 0, none⟩) (rs.length + 1) cap, .int .i64 ((nx + 1 : Nat) : Int)], ⟨bg, im, rs ++ [p], nx + 1⟩, by simp, by omega, hfit, ?_⟩, by simp [RowKit.intOf]; omega⟩
            exact sc_record HL.out HV.out HK1.out HK2.out HRow.out HNew.out HO3.out HG3.out HLc.out HB3.out HO.out HN2.out hmx hlo hfit)
        · have HE : Hid (J.scan l base = (⟨bg, im, rs, nx⟩ : J.Held)) := by
            show _ = _
            rw [HL.out.is]
            refine scanF_none (by omega) ?_
            unfold J.one
            rw [HFp.out]
            simp [hmx]
          have hmx' : ¬ (nx : Int) ≤ 1099511627776 := by omega
          go_wp2_with fail
          go_region_held3 (fun w' => w'.cell? ⟨w.heap.size + 1, 3, none⟩ = some (.int .i64 (nx : Nat))) (first | exact c3 | (exact HK1.out.cell c3 fun f => f) | go_keep)
            ((go_at_call 67
              refine HF1.out.mono ?_
              rintro e w1 ⟨a2, n2, m2, rfl, hp, hk1⟩
              have HP := hide hp
              have HK1 := hide hk1
              clear hp hk1))
          have d3 := HK1.out.cell c3 fun f => f
          have HKe := hide (HL.out.keep.more HK1.out)
          have HCe := hide (HL.out.cells.keep HK1.out fun _ _ _ f => f)
          have HB1 := hide (HK1.out.blk HL.out.b1 fun f => f)
          have HB0 := hide (HK1.out.blk HL.out.b0 fun f => f)
          obtain ⟨f1, f2, f3⟩ := HCe.out.facts
          have F1 := hide f1
          have F2 := hide f2
          have F3 := hide f3
          clear f1 f2 f3
          go_wp2_with (first
            | (refine wpList_load_row rfl 62 _ rfl (w.heap.size + 1) rfl 62 cs (0, 0) _ HB1.out Try.underlying62 rfl F1.out ?_)
            | (refine wpList_store_row rfl 62 _ _ rfl w.heap.size cs rfl rfl 62 _ HB0.out F1.out F2.out.symm F3.out ?_))
          have hkf : Keep (fun i => i = w.heap.size) w1 (w1.setRow w.heap.size cs) := ⟨rfl, rfl, rfl, by rw [size_setRow]; exact Nat.le_refl _, fun k _ hk => heap_setRow_other _ _ _ _ hk⟩
          have hfin : ScanAs w n (J.scan l base) (.returned (.agg cs)) (w1.setRow w.heap.size cs) := by
            rw [HE.out]
            exact ⟨cs, rfl, HCe.out.far HB0.out (by decide) (by decide) hkf, HKe.out.trans hkf (fun i e => .inr (by omega)), HL.out.next, Nat.le_trans HL.out.few hat⟩
          try rw [Exit.noGoto_ret]
          refine bodyPost_ret (v := .agg cs) ?_ rfl hfin
          exact results_cell_row (P := Try.prog) (fn := Try.f51) rfl _ _ w.heap.size 62 cs (0, 0) _ rfl (setRow_heap _ _ _ _ _ _ HB0.out) Try.underlying62 rfl F1.out
      · by_cases h24 : at_ = 24
        · have HO : Hid (J.one (l.drop at_) (decide (at_ = 24)) ⟨bg, im, rs, nx⟩ = some ((l.drop at_).drop (17 + p.length), ⟨true, p, rs, nx⟩)) := by
            show _ = _
            unfold J.one
            rw [HFp.out]
            simp [h24]
          have HNx := hide HL.out.next
          have HFw := hide HL.out.few
          have ht24 : ((at_ : Int) == 24) = true := by simp [h24]
          clear h24
          go_wp2_with fail
          go_region_held3 (fun w' => w'.cell? ⟨w.heap.size + 1, 3, none⟩ = some (.int .i64 (nx : Nat))) (first | exact c3 | (exact HK1.out.cell c3 fun f => f) | go_keep)
            ((go_at_call 67
              refine HF1.out.mono ?_
              rintro e w1 ⟨a2, n2, m2, rfl, hp, hk1⟩
              have HP := hide hp
              have HK1 := hide hk1
              clear hp hk1))
          have HLy := hide (jlay_one w1 32 (some a2) n2 m2 p HP.out (fun e => by cases e) (by have := HP.out.1; omega))
          have hb1 := HK1.out.blk HL.out.b1 fun f => f
          have HB1 := hide hb1
          clear hb1
          have HN2 := hide HP.out.1
          have hn2b : n2 ≤ 8388608 := by rw [HN2.out]; exact hpl.2.2
          have hfit : at_ + (17 + n2) ≤ n := by rw [HN2.out]; omega
          have HPl := hide hpl
          clear hpl
          go_wp2_with (
              go_at_call 43
              refine HLy.out.mono ?_
              rintro e w2 ⟨v, rfl, hrow, hk2, hnew⟩
              obtain ⟨v1, v2, hv⟩ := ownsRow_shape hrow.1
              subst hv
              have HRow := hide hrow
              have HK2 := hide hk2
              have HNew := hide hnew
              have e0 := hk2.cell (HK1.out.cell c0 fun f => f) fun f => f
              have e1 := hk2.cell (HK1.out.cell c1 fun f => f) fun f => f
              have g0 := frozen_blk (hk2.blk HB1.out fun f => f) 0
              have g1 := frozen_blk (hk2.blk HB1.out fun f => f) 1
              clear hrow hk2 hnew)
          have hb2 := HK2.out.blk HB1.out fun f => f
          have hb0 := HK2.out.blk (HK1.out.blk HL.out.b0 fun f => f) fun f => f
          have hk3 : Keep (fun i => i = w.heap.size + 1) w2 ((w2.setCell ⟨w.heap.size + 1, 0, none⟩ (.bool true)).setCell ⟨w.heap.size + 1, 1, none⟩ (.slice v1 p.length v2)) := (keep_cell _ _ _ _).more (keep_cell _ _ _ _)
          refine ⟨⟨at_ + (17 + n2), f, #[.bool true, .slice v1 p.length v2, vr, .int .i64 (nx : Nat)], ⟨true, p, rs, nx⟩, ?_, by omega, hfit, ?_⟩, ?_⟩
          · simp
          · have hall : Keep (fun _ => False) wr w2 := HK1.out.more HK2.out
            refine ⟨⟨.slice v1 p.length v2, vr, xs, rfl, HRow.out.keep hk3 fun g e e' => row_far HRow.out hb2 (by decide) e e', fun g e => Nat.le_trans (HL.out.keep.more HK1.out).size (HNew.out g e), (HV.out.2.2.2.keep hall fun _ _ _ f => f).far hb2 (by decide) (by decide) hk3⟩, (HL.out.keep.more hall).trans hk3 (fun i e => .inr (by omega)), hk3.blk hb0 (by omega), ?_, ?_, ?_, HNx.out, Nat.le_trans HFw.out (by omega)⟩
            · rw [set_blk (set_blk hb2 0 _) 1 _, HV.out.1]
              rfl
            · have := HL.out.fuel; omega
            · rw [HL.out.is, scanF_some HO.out, List.drop_drop, HN2.out]
              rw [show decide (at_ + (17 + p.length) = 24) = false from decide_eq_false (by omega)]
          · simp [RowKit.intOf]; omega
        · have HE : Hid (J.scan l base = (⟨bg, im, rs, nx⟩ : J.Held)) := by
            show _ = _
            rw [HL.out.is]
            refine scanF_none (by omega) ?_
            unfold J.one
            rw [HFp.out]
            simp [h24]
          have ht24 : ((at_ : Int) == 24) = false := by simp; omega
          go_wp2_with fail
          go_region_held3 (fun w' => w'.cell? ⟨w.heap.size + 1, 3, none⟩ = some (.int .i64 (nx : Nat))) (first | exact c3 | (exact HK1.out.cell c3 fun f => f) | go_keep)
            ((go_at_call 67
              refine HF1.out.mono ?_
              rintro e w1 ⟨a2, n2, m2, rfl, hp, hk1⟩
              have HP := hide hp
              have HK1 := hide hk1
              clear hp hk1))
          have HKe := hide (HL.out.keep.more HK1.out)
          have HCe := hide (HL.out.cells.keep HK1.out fun _ _ _ f => f)
          have HB1 := hide (HK1.out.blk HL.out.b1 fun f => f)
          have HB0 := hide (HK1.out.blk HL.out.b0 fun f => f)
          obtain ⟨f1, f2, f3⟩ := HCe.out.facts
          have F1 := hide f1
          have F2 := hide f2
          have F3 := hide f3
          clear f1 f2 f3
          go_wp2_with (first
            | (refine wpList_load_row rfl 62 _ rfl (w.heap.size + 1) rfl 62 cs (0, 0) _ HB1.out Try.underlying62 rfl F1.out ?_)
            | (refine wpList_store_row rfl 62 _ _ rfl w.heap.size cs rfl rfl 62 _ HB0.out F1.out F2.out.symm F3.out ?_))
          have hkf : Keep (fun i => i = w.heap.size) w1 (w1.setRow w.heap.size cs) := ⟨rfl, rfl, rfl, by rw [size_setRow]; exact Nat.le_refl _, fun k _ hk => heap_setRow_other _ _ _ _ hk⟩
          have hfin : ScanAs w n (J.scan l base) (.returned (.agg cs)) (w1.setRow w.heap.size cs) := by
            rw [HE.out]
            exact ⟨cs, rfl, HCe.out.far HB0.out (by decide) (by decide) hkf, HKe.out.trans hkf (fun i e => .inr (by omega)), HL.out.next, Nat.le_trans HL.out.few hat⟩
          try rw [Exit.noGoto_ret]
          refine bodyPost_ret (v := .agg cs) ?_ rfl hfin
          exact results_cell_row (P := Try.prog) (fn := Try.f51) rfl _ _ w.heap.size 62 cs (0, 0) _ rfl (setRow_heap _ _ _ _ _ _ HB0.out) Try.underlying62 rfl F1.out

end Go.Proofs.Ythfnpbkclmkkeaa
