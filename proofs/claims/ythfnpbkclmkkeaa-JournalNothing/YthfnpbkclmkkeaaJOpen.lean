/- Package journal: Open. -/
import Derived.Test.YthfnpbkclmkkeaaJSnap
namespace Go.Proofs.Ythfnpbkclmkkeaa
open Go.RowKit Go.Lib

/-- what Open finds -/
def J.foundOf (s : St) (ks : List Int) : J.Held × Nat := J.found (ks.map fun k => (k, s.bytes k)) 0 (⟨false, [], [], 1⟩, 0)
def J.opened (s : St) (ks : List Int) : Int × Option J.Jr × St :=
  if s.sync.1 ≠ 0 then (s.sync.1, none, s.sync.2)
  else if (J.removes (ks.take (J.foundOf s.sync.2 ks).2) s.sync.2).1 ≠ 0 then ((J.removes (ks.take (J.foundOf s.sync.2 ks).2) s.sync.2).1, none, (J.removes (ks.take (J.foundOf s.sync.2 ks).2) s.sync.2).2)
  else (0, some ⟨(J.foundOf s.sync.2 ks).1, 0, 0⟩, (J.removes (ks.take (J.foundOf s.sync.2 ks).2) s.sync.2).2)

/-- what Open answers -/
def OpenR (X : Nat → Prop) (d : Nat) (r : Int × Option J.Jr × St) (e : Ending) (w' : World) : Prop :=
  (r.2.1 = none ∧ e = .returned (.tuple #[.pointer none, .int .i64 r.1]) ∧ DAt X w' d r.2.2) ∨ ∃ P j, r.2.1 = some j ∧ e = .returned (.tuple #[.pointer (some ⟨P, 0, none⟩), .int .i64 0]) ∧ JD X w' P d j r.2.2
def OpenAs (X : Nat → Prop) (w : World) (d : Nat) (s : St) (e : Ending) (w' : World) : Prop :=
  ∃ ks, (s.sync.1 = 0 → J.Keys s.sync.2 ks) ∧ Keep X w w' ∧ OpenR X d (J.opened s ks) e w'

theorem sync_up {s : St} (h : s.sync.1 = 0) : s.sync.2.down = false := by
  unfold St.sync at h ⊢
  by_cases hd : s.down = true
  · rw [if_pos hd] at h; cases h
  · rw [if_neg hd] at h ⊢
    split at h
    · simpa using hd
    · cases h
    · simpa using hd

theorem JD.dat {X : Nat → Prop} {w : World} {P d : Nat} {j : J.Jr} {s : St} (h : JD X w P d j s) : DAt X w d s := by
  obtain ⟨R, S, _, h2, _, h4⟩ := h
  exact h2.mono fun i e => (h4 i (.inr e)).1

theorem found_step (k : Int) (b : List Nat) (L : List (Int × List Nat)) (i : Nat) (r : J.Held × Nat) : J.found ((k, b) :: L) i r = J.found L (i + 1) ((J.follow r.1 k.toNat b).1, if (J.follow r.1 k.toNat b).2 = true then i else r.2) := rfl

theorem one_few {rest rest' : List Nat} {first : Bool} {h h' : J.Held} (e : J.one rest first h = some (rest', h')) : h'.records.length + rest'.length ≤ h.records.length + rest.length := by
  unfold J.one at e
  split at e
  · cases e
  · rename_i k p hp
    have hl := (J.firstPiece_length hp).1
    split at e
    · injection e with e
      injection e with e1 e2
      subst e1 e2
      show h.records.length + _ ≤ _
      rw [List.length_drop]; omega
    · split at e
      · injection e with e
        injection e with e1 e2
        subst e1 e2
        show (h.records ++ [p]).length + _ ≤ _
        rw [List.length_drop, List.length_append, List.length_singleton]; omega
      · cases e
theorem scanF_few : ∀ (f : Nat) (rest : List Nat) (first : Bool) (h : J.Held), (J.scanF f rest first h).records.length ≤ h.records.length + rest.length
  | 0, _, _, h => Nat.le_add_right _ _
  | f + 1, rest, first, h => by
    cases e : J.one rest first h with
    | none => rw [scanF_none (by omega) e]; exact Nat.le_add_right _ _
    | some r =>
      obtain ⟨rest', h'⟩ := r
      rw [scanF_some e]
      exact Nat.le_trans (scanF_few f rest' false h') (one_few e)
theorem scan_few (l : List Nat) (base : Nat) : (J.scan l base).records.length ≤ l.length := by
  have := scanF_few (l.length + 1) (l.drop 24) true ⟨false, [], [], base⟩
  unfold J.scan
  rw [List.length_drop] at this
  have h2 : (⟨false, [], [], base⟩ : J.Held).records.length = 0 := rfl
  omega
theorem follow_few (h : J.Held) (seg : Nat) (l : List Nat) : (J.follow h seg l).1.records.length ≤ h.records.length + l.length := by
  unfold J.follow
  split
  · exact Nat.le_add_right _ _
  · rename_i base _
    have := scan_few l base
    split
    · show (J.scan l base).records.length ≤ _; omega
    · split
      · show (h.records ++ (J.scan l base).records).length ≤ _
        rw [List.length_append]; omega
      · exact Nat.le_add_right _ _

set_option maxRecDepth 10000 in
theorem open_nil (w : World) : Calls Try.prog 8 #[.pointer none] w fun e w' => e = .returned (.tuple #[.pointer none, .int .i64 1]) ∧ w' = w := by
  go_enter Try.func8, Try.ntmps8
  go_wp2
  go_ret2
  exact ⟨rfl, rfl⟩

/-- what Open's loop keeps -/
structure OpLoop (Y : Nat → Prop) (w3 wr : World) (P d : Nat) (s : St) (ks : List Int) (q past : Nat) (h : J.Held) : Prop where
  jd : JD Y wr P d ⟨h, 0, 0⟩ s
  keep : Keep Y w3 wr
  is : J.foundOf s ks = J.found ((ks.drop q).map fun k => (k, s.bytes k)) q (h, past)
  few : h.records.length ≤ q * 67108864
  past : past ≤ q

set_option maxHeartbeats 4000000 in
set_option maxRecDepth 10000 in
theorem open_any (X : Nat → Prop) (w : World) (d : Nat) (s : St) (N : Nat) (h : DAt X w d s) (g : Good N s) (hN : N ≤ 35184372088832) (hX : ∀ i, w.heap.size ≤ i → X i) (hcnt : ∀ ks, J.Keys s.sync.2 ks → ks.length ≤ 8192) :
    Calls Try.prog 8 #[.pointer (some ⟨d, 0, none⟩)] w (OpenAs X w d s) := by
  have ok := g.ok (by omega)
  have HSy := hide (sync_any X w d s h ok)
  have HG1 := hide g.sync
  have HUp := hide (sync_up (s := s))
  have HXn := hide hX
  have HCn := hide hcnt
  have HX0 : Hid (∀ ks, J.opened s ks = if s.sync.1 ≠ 0 then (s.sync.1, none, s.sync.2)
    else if (J.removes (ks.take (J.foundOf s.sync.2 ks).2) s.sync.2).1 ≠ 0 then ((J.removes (ks.take (J.foundOf s.sync.2 ks).2) s.sync.2).1, none, (J.removes (ks.take (J.foundOf s.sync.2 ks).2) s.sync.2).2)
    else (0, some ⟨(J.foundOf s.sync.2 ks).1, 0, 0⟩, (J.removes (ks.take (J.foundOf s.sync.2 ks).2) s.sync.2).2)) := fun ks => rfl
  unfold OpenAs
  clear h g ok hX hcnt
  generalize s.sync = r at *
  obtain ⟨sc, s1⟩ := r
  simp only at HSy HG1 HUp HCn HX0
  by_cases hsc : sc = 0
  · subst hsc
    have hdn := HUp.out rfl
    have HX1 : Hid (∀ ks, J.opened s ks = if (J.removes (ks.take (J.foundOf s1 ks).2) s1).1 ≠ 0 then ((J.removes (ks.take (J.foundOf s1 ks).2) s1).1, none, (J.removes (ks.take (J.foundOf s1 ks).2) s1).2)
      else (0, some ⟨(J.foundOf s1 ks).1, 0, 0⟩, (J.removes (ks.take (J.foundOf s1 ks).2) s1).2)) := fun ks => by rw [HX0.out, if_neg (by simp)]
    have HOk := hide (HG1.out.ok (by omega))
    have HDn := hide hdn
    clear HX0 HUp hdn
    have HLi : Hid (∀ w1, DAt X w1 d s1 → Calls Try.prog 29 #[.pointer (some ⟨d, 0, none⟩)] w1 fun e w' => ∃ a c m, ∃ ks : List Int, m = ks.length ∧ e = .returned (.tuple #[.slice a m c, .int .i64 0]) ∧ J.Keys s1 ks ∧ w'.ownsRow w1.heap.size 3 1 (.slice a m c) m (ks.map (Value.int .i64)) ∧ Keep (fun _ => False) w1 w') := fun w1 h1 => (list_any X w1 d s1 h1 HOk.out).mono fun e w' ⟨v, ks, e1, e2, e3, ho, hk⟩ => by
      obtain ⟨a, c, hv⟩ := ownsRow_shape ho
      subst hv
      rw [HDn.out] at e1
      exact ⟨a, c, _, ks, rfl, e1, ⟨e2, fun k => by rw [e3 k]; simp [HDn.out]⟩, ho, hk⟩
    go_enter Try.func8, Try.ntmps8
    go_upto_region 9 with (first
      | (go_at_call 28
         refine HSy.out.mono ?_
         rintro e w1 ⟨rfl, hd1, hk1⟩
         have HD1 := hide hd1
         have HK1 := hide hk1
         have HLi1 := hide (HLi.out w1 hd1)
         clear hd1 hk1)
      | (go_at_call 29
         refine HLi1.out.mono ?_
         rintro e w2 ⟨a, c, m, ks, hm, rfl, hks, ho, hk2⟩
         have HM := hide hm
         have HKs := hide hks
         have HO := hide ho
         have HK2 := hide hk2
         clear hm hks ho hk2))
    obtain ⟨W, hW⟩ : ∃ W, W = w2.alloc (.cells #[.pointer (some ⟨d, 0, none⟩), .bool false, .slice none 0 0, .slice none 0 0, .int .i64 1, .int .i64 0, .int .i64 0] 64) := ⟨_, rfl⟩
    obtain ⟨Y, hY⟩ : ∃ Y : Nat → Prop, Y = fun i => X i ∧ (i < w1.heap.size ∨ w2.heap.size ≤ i) := ⟨_, rfl⟩
    have kW : Keep (fun _ => False) w2 W := by rw [hW]; exact Keep.alloc _ _ _
    have hbW : W.heap[w2.heap.size]? = some (.cells #[.pointer (some ⟨d, 0, none⟩), .bool false, .slice none 0 0, .slice none 0 0, .int .i64 1, .int .i64 0, .int .i64 0] 64 (0, 0)) := by rw [hW]; exact heap_alloc_new _ _
    have hs2 := HK2.out.size
    have hs1 := HK1.out.size
    have HJ0 : Hid (JD Y W w2.heap.size d ⟨⟨false, [], [], 1⟩, 0, 0⟩ s1) := by
      refine ⟨fun i => i = w2.heap.size, fun i => X i ∧ i < w1.heap.size, ⟨.slice none 0 0, .slice none 0 0, [], hbW, row_nil _, (fun g e => by cases e), RecsX.nil _ _, rfl⟩, HD1.out.low.stay (HK2.out.more kW) (fun _ _ _ f => f), (fun i e e' => by omega), fun i hi => ?_⟩
      rcases hi with hi | hi
      · subst hi
        rw [hY]
        exact ⟨⟨HXn.out _ (by omega), .inr (Nat.le_refl _)⟩, (Array.getElem?_eq_some_iff.1 hbW).1⟩
      · rw [hY]
        exact ⟨⟨hi.1, .inl hi.2⟩, by have := kW.size; omega⟩
    have HYn : Hid (∀ i, W.heap.size ≤ i → Y i) := fun i hi => by rw [hY]; have := kW.size; exact ⟨HXn.out i (by omega), .inr (by omega)⟩
    have HYX : Hid (∀ i, Y i → X i) := fun i hi => by rw [hY] at hi; exact hi.1
    have HYl : Hid (∀ g, w1.heap.size ≤ g → g < w2.heap.size → ¬ Y g) := fun g h1 h2 hi => by rw [hY] at hi; have := hi.2; omega
    have HKW : Hid (Keep X w W) := (HK1.out.more (HK2.out.mono fun _ f => f.elim)).more (kW.mono fun _ f => f.elim)
    have hkeys := HKs.out
    have hkl := HCn.out ks hkeys
    have hkg := keys_seg hkeys HOk.out
    rw [← HM.out] at hkl
    have HKg := hide hkg
    have HKW2 := hide kW
    have HW := hide hW
    have hmc : m ≤ c := by
      rcases HO.out.2 with ⟨e, e0⟩ | ⟨g', cap, cur, e, _, _, hcap, _⟩
      · omega
      · injection e with _ _ e; subst e; exact hcap
    clear hW hY kW hbW hs1 hs2 hkeys hkg
    go_wp2
    rw [← HW.out]
    go_loopw [8, 35] (fun pv iv wr => ∃ (q past : Nat) (h : J.Held), q ≤ m ∧ pv = .int .i64 (past : Nat) ∧ iv = .int .i64 (q : Nat) ∧ past ≤ q ∧ Hid (OpLoop Y W wr w2.heap.size d s1 ks q past h)) (fun _ iv _ => m - (RowKit.intOf iv).toNat)
    case atStart => exact ⟨0, 0, ⟨false, [], [], 1⟩, Nat.zero_le _, rfl, rfl, Nat.le_refl _, HJ0.out, Keep.refl _ _, rfl, Nat.zero_le _, Nat.le_refl _⟩
    case round =>
      obtain ⟨q, past, hd, hq, rfl, rfl, hpq, HL⟩ := hrel
      by_cases hlt : q < m
      · have hqk : q < ks.length := by rw [← HM.out]; exact hlt
        obtain ⟨g, rfl, hg, hcell⟩ := ownsRow_ints HO.out q hqk
        have hcW : wr.cell? ⟨g, q, none⟩ = some (.int .i64 ks[q]) := HL.out.keep.cell (HKW2.out.cell hcell fun f => f) (HYl.out g hg (block_lt_of_cell hcell))
        have hkm := List.getElem_mem hqk
        have hsg := HKg.out _ hkm
        have hth := (HKs.out.2 _).1 hkm
        have hdr : ks.drop q = ks[q] :: ks.drop (q + 1) := List.drop_eq_getElem_cons hqk
        have HIs : Hid (J.foundOf s1 ks = J.found ((ks.drop (q + 1)).map fun k => (k, s1.bytes k)) (q + 1) ((J.follow hd ks[q].toNat (s1.bytes ks[q])).1, if (J.follow hd ks[q].toNat (s1.bytes ks[q])).2 = true then q else past)) := by
          show _ = _
          rw [HL.out.is, hdr, List.map_cons, found_step]
        have hlen : (s1.bytes ks[q]).length ≤ 67108864 := by
          obtain ⟨l, hl⟩ := Option.ne_none_iff_exists'.1 hth
          have := HOk.out.len ks[q] l (by unfold St.held; rw [hl])
          unfold St.bytes
          rw [hl]
          exact this
        have HR : Hid (Calls Try.prog 25 #[.pointer (some ⟨d, 0, none⟩), .int .i64 ks[q]] wr fun e w' => ∃ (ba : Option Addr) (bn bc : Nat), e = .returned (.tuple #[.slice ba bn bc, .int .i64 0]) ∧ Rd w' ba bn (s1.bytes ks[q]) ∧ bn ≤ bc ∧ bn ≤ 67108864 ∧ Keep (fun _ => False) wr w') := by
          refine (read_any Y wr d s1 ks[q] HL.out.jd.dat HOk.out (by omega) (by omega)).mono fun e w' ⟨v, e1, hr, hk, hn⟩ => ?_
          rw [St.find, if_neg (by rw [HDn.out]; decide), if_neg hth] at e1
          rw [if_neg (by rw [HDn.out]; decide)] at hr
          obtain ⟨ba, bc, hv, hrd, _, hbc, _⟩ := hr.rd (by omega)
          subst hv
          exact ⟨ba, _, bc, e1, hrd, hbc, hlen, hk⟩
        obtain ⟨sg, hsgn⟩ : ∃ sg : Nat, ks[q] = (sg : Int) := ⟨ks[q].toNat, by omega⟩
        rw [hsgn] at hcW HR HIs
        rw [Int.toNat_natCast] at HIs
        have HFl : Hid (∀ w4 ba bn bc, Keep (fun _ => False) wr w4 → Rd w4 ba bn (s1.bytes (sg : Int)) → bn ≤ bc → bn ≤ 67108864 → Calls Try.prog 30 #[.pointer (some ⟨w2.heap.size, 1, none⟩), .int .i64 (sg : Nat), .slice ba bn bc] w4 fun e w' => e = .returned (.bool (J.follow hd sg (s1.bytes (sg : Int))).2) ∧ JD Y w' w2.heap.size d ⟨(J.follow hd sg (s1.bytes (sg : Int))).1, 0, 0⟩ s1 ∧ Keep Y wr w' ∧ (J.follow hd sg (s1.bytes (sg : Int))).1.records.length ≤ (q + 1) * 67108864) := fun w4 ba bn bc k4 hrd hbc hbn => by
          obtain ⟨R, hj, hRn, hRY, hback⟩ := (HL.out.jd.new k4).jour fun i hi => HYn.out i (Nat.le_trans (HL.out.keep.more (k4.mono fun _ f => f.elim)).size hi)
          have hfew : hd.records.length ≤ q * 67108864 := HL.out.few
          have hq8 : q * 67108864 ≤ 8192 * 67108864 := Nat.mul_le_mul_right _ (by omega)
          refine (follow_any R w2.heap.size d ⟨hd, 0, 0⟩ sg ba bn bc _ w4 hj hRn hrd hbc hbn (by show hd.records.length ≤ _; omega)).mono fun e w' ⟨h1, h2, h3⟩ => ?_
          have hb := hback w' _ h2 h3
          exact ⟨h1, hb.1, (k4.mono fun _ f => f.elim).more hb.2, by have h5 := follow_few hd sg (s1.bytes (sg : Int)); have h6 := hrd.1; omega⟩
        generalize s1.bytes (sg : Int) = tx at *
        generalize J.follow hd sg tx = fo at *
        obtain ⟨hd', fb⟩ := fo
        simp only at HFl HIs
        clear hcell hkm hsg hth hdr hlen hsgn
        cases fb with
        | true =>
          go_wp2_with (first
            | (go_at_call 25
               refine HR.out.mono ?_
               rintro e w4 ⟨ba, bn, bc, rfl, hrd, hbc, hbn, hk4⟩
               have HF4 := hide (HFl.out w4 ba bn bc hk4 hrd hbc hbn)
               clear hrd hbc hbn hk4)
            | (go_at_call 30
               refine HF4.out.mono ?_
               rintro e w5 ⟨rfl, hJ5, hk5, hfw⟩
               have HJ5 := hide hJ5
               have HK5 := hide hk5
               have HFw := hide hfw
               clear hJ5 hk5 hfw))
          exact ⟨⟨q + 1, q, hd', by omega, rfl, by simp, by omega, HJ5.out, HL.out.keep.more HK5.out, by rw [HIs.out]; simp, HFw.out, by omega⟩, by simp [RowKit.intOf]; omega⟩
        | false =>
          go_wp2_with (first
            | (go_at_call 25
               refine HR.out.mono ?_
               rintro e w4 ⟨ba, bn, bc, rfl, hrd, hbc, hbn, hk4⟩
               have HF4 := hide (HFl.out w4 ba bn bc hk4 hrd hbc hbn)
               clear hrd hbc hbn hk4)
            | (go_at_call 30
               refine HF4.out.mono ?_
               rintro e w5 ⟨rfl, hJ5, hk5, hfw⟩
               have HJ5 := hide hJ5
               have HK5 := hide hk5
               have HFw := hide hfw
               clear hJ5 hk5 hfw))
          exact ⟨⟨q + 1, past, hd', by omega, rfl, by simp, by omega, HJ5.out, HL.out.keep.more HK5.out, by rw [HIs.out]; simp, HFw.out, by omega⟩, by simp [RowKit.intOf]; omega⟩
      · obtain rfl : q = m := by omega
        have HFo : Hid (J.foundOf s1 ks = (hd, past)) := by
          show _ = _
          rw [HL.out.is, List.drop_of_length_le (by rw [← HM.out]; exact Nat.le_refl _)]
          rfl
        have HX2 : Hid (J.opened s ks = if (J.removes (ks.take past) s1).1 ≠ 0 then ((J.removes (ks.take past) s1).1, none, (J.removes (ks.take past) s1).2)
          else (0, some ⟨hd, 0, 0⟩, (J.removes (ks.take past) s1).2)) := by show _ = _; rw [HX1.out, HFo.out]
        have hzp : Rz wr a past (ks.take past) := by
          have hz := ints_rz HO.out HM.out (by omega) fun x hx => by have := HKg.out x hx; omega
          refine ⟨by rw [List.length_take, ← HM.out]; omega, by omega, fun x hx => hz.2.2.1 x (List.mem_of_mem_take hx), ?_⟩
          rcases Nat.eq_zero_or_pos past with h0 | h0
          · exact .inl h0
          · obtain ⟨b, off, rfl, hc⟩ := hz.2.2.2.resolve_left (by omega)
            refine .inr ⟨b, off, rfl, fun i hi => ?_⟩
            obtain ⟨g', e, hg', hc'⟩ := ownsRow_ints HO.out i (by rw [← HM.out]; omega)
            injection e with e
            injection e with e1 e2
            subst e1 e2
            rw [Nat.zero_add, HL.out.keep.cell (HKW2.out.cell hc' fun f => f) (HYl.out b hg' (block_lt_of_cell hc'))]
            have h9 : i < ks.length := by rw [← HM.out]; omega
            simp [List.getD_eq_getElem?_getD, hi, h9]
        have HRm := hide (jremove_any Y wr w2.heap.size d ⟨hd, 0, 0⟩ s1 a past c (ks.take past) (N + 1) HL.out.jd HG1.out (by omega) (fun i hi => HYn.out i (Nat.le_trans HL.out.keep.size hi)) hzp (fun g off e h0 => by
          obtain ⟨g', e', hg', hc'⟩ := ownsRow_ints HO.out 0 (by rw [← HM.out]; omega)
          rw [e] at e'
          injection e' with e'
          injection e' with e1 _
          subst e1
          exact HYl.out g hg' (block_lt_of_cell hc')))
        unfold JDid at HRm
        generalize J.removes (ks.take past) s1 = rr at *
        obtain ⟨mc, s2⟩ := rr
        simp only at HX2 HRm
        clear hzp
        by_cases hmc0 : mc = 0
        · subst hmc0
          rw [if_neg (by simp)] at HX2
          go_wp2_with (
            go_at_call 31
            refine HRm.out.mono ?_
            rintro e w6 ⟨rfl, hJ6, hk6⟩
            have HJ6 := hide hJ6
            have HK6 := hide hk6
            clear hJ6 hk6)
          go_ret2
          exact ⟨ks, fun _ => HKs.out, (HKW.out.more (HL.out.keep.mono HYX.out)).more (HK6.out.mono HYX.out), by rw [HX2.out]; exact .inr ⟨w2.heap.size, ⟨hd, 0, 0⟩, rfl, rfl, HJ6.out.mono HYX.out⟩⟩
        · rw [if_pos hmc0] at HX2
          have hne : (mc != 0) = true := by simp [hmc0]
          go_wp2_with (
            go_at_call 31
            refine HRm.out.mono ?_
            rintro e w6 ⟨rfl, hJ6, hk6⟩
            have HJ6 := hide hJ6
            have HK6 := hide hk6
            clear hJ6 hk6)
          go_ret2
          exact ⟨ks, fun _ => HKs.out, (HKW.out.more (HL.out.keep.mono HYX.out)).more (HK6.out.mono HYX.out), by rw [HX2.out]; exact .inl ⟨rfl, rfl, HJ6.out.dat.mono HYX.out⟩⟩
  · have HX1 : Hid (∀ ks, J.opened s ks = (sc, none, s1)) := fun ks => by rw [HX0.out, if_pos hsc]
    have hne : (sc != 0) = true := by simp [hsc]
    have HSc := hide hsc
    clear hsc
    go_enter Try.func8, Try.ntmps8
    go_wp2_with (
      go_at_call 28
      refine HSy.out.mono ?_
      rintro e w1 ⟨rfl, hd1, hk1⟩
      have HD1 := hide hd1
      have HK1 := hide hk1
      clear hd1 hk1)
    go_ret2
    exact ⟨[], fun h => absurd h HSc.out, HK1.out, by rw [HX1.out]; exact .inl ⟨rfl, rfl, HD1.out⟩⟩

end Go.Proofs.Ythfnpbkclmkkeaa
