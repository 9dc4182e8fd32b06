/- DiskRoom: the walk. -/
import Derived.Test.YtbjianhpdadhcabDScr
namespace Go.Proofs.Ytbjianhpdadhcab
open Go.RowKit Go.Lib

theorem twelve' {v : Int} (h0 : 0 ≤ v) (h1 : v < 12) : v = 0 ∨ v = 1 ∨ v = 2 ∨ v = 3 ∨ v = 4 ∨ v = 5 ∨ v = 6 ∨ v = 7 ∨ v = 8 ∨ v = 9 ∨ v = 10 ∨ v = 11 := by
  obtain ⟨n, rfl⟩ := Int.eq_ofNat_of_zero_le h0
  have hn : n < 12 := by omega
  have key : ∀ n : Nat, n < 12 → n = 0 ∨ n = 1 ∨ n = 2 ∨ n = 3 ∨ n = 4 ∨ n = 5 ∨ n = 6 ∨ n = 7 ∨ n = 8 ∨ n = 9 ∨ n = 10 ∨ n = 11 := by decide
  rcases key n hn with rfl | rfl | rfl | rfl | rfl | rfl | rfl | rfl | rfl | rfl | rfl | rfl <;> simp

/-- what segments take -/
def sumL : List (Int × List Nat) → Nat
  | [] => 0
  | x :: r => 64 + x.2.length + sumL r
theorem sumL_append (a b : List (Int × List Nat)) : sumL (a ++ b) = sumL a + sumL b := by
  induction a with
  | nil => simp [sumL]
  | cons x r ih => simp only [List.cons_append, sumL, ih]; omega

theorem sumL_tot : ∀ (L : List (Int × List Nat)) (f : Int → Option (List Nat)), (∀ k, f k ≠ none → 1 ≤ k ∧ k ≤ 1099511627776) → (L.map Prod.fst).Pairwise (· < ·) → (∀ k b, (k, b) ∈ L ↔ f k = some b) → sumL L = totS f
  | [], f, _, _, h => by
    have : f = fun _ => none := by
      funext k
      cases e : f k with
      | none => rfl
      | some b => exact absurd ((h k b).2 e) (by simp)
    rw [this]
    exact (over_zero fun _ => rfl).symm
  | (k, b) :: r, f, hs, hp, h => by
    rw [List.map_cons, List.pairwise_cons] at hp
    have hk : f k = some b := (h k b).1 (by simp)
    have hsg := hs k (by rw [hk]; simp)
    have hnk : ∀ b', (k, b') ∉ r := fun b' hb => by
      have := hp.1 k (List.mem_map.2 ⟨_, hb, rfl⟩)
      omega
    have ih := sumL_tot r (upd f k none) (fun j hj => by
      by_cases e : j = k
      · subst e; rw [upd_same] at hj; exact absurd rfl hj
      · rw [upd_other _ _ e] at hj; exact hs j hj) hp.2 (fun j b' => by
      by_cases e : j = k
      · subst e; rw [upd_same]; exact ⟨fun h => absurd h (hnk b'), fun h => by cases h⟩
      · rw [upd_other _ _ e, ← h j b']
        constructor
        · intro h1; exact List.mem_cons_of_mem _ h1
        · intro h1
          rcases List.mem_cons.1 h1 with h2 | h2
          · injection h2 with h2 _; exact absurd h2 e
          · exact h2)
    have htu := tot_upd f hsg.1 hsg.2 none
    rw [hk] at htu
    simp only [cost] at htu
    simp only [sumL]
    omega

theorem Lst.sum {n : Nat} {s : St} (g : Good n s) {L : List (Int × List Nat)} (l : Lst s L) : sumL L = s.used := by
  rw [g.tot]
  exact sumL_tot L s.there (fun k hk => g.seg k (by
    unfold St.held
    cases e : s.there k with
    | none => exact absurd e hk
    | some b => simp)) l.1 l.2

set_option maxRecDepth 100000 in
set_option maxHeartbeats 4000000 in
theorem used_any (w : World) (lo : Nat) (a : Option Addr) (c : Nat) (L : List (Int × List Nat)) (h1 : RdS lo w a L) (hb : ∀ x ∈ L, x.2.length < 281474976710656) (hs : sumL L < 1152921504606846976) :
    Calls Try.prog 12 #[.slice a L.length c] w fun e w' => e = .returned (.int .i64 (sumL L : Nat)) ∧ w' = w := by
  have H1 := hide fun j hj => h1.at_ j hj hb
  have hl := h1.1
  have HSm := hide hs
  obtain ⟨m, em⟩ : ∃ m, m = L.length := ⟨_, rfl⟩
  have HM := hide em
  rw [← em] at hl ⊢
  clear h1 hb em hs
  go_enter Try.func12, Try.ntmps12
  go_wp2
  go_loop [3, 4] (fun nv iv => ∃ (q t : Nat), q ≤ m ∧ iv = .int .i64 (q : Nat) ∧ nv = .int .i64 (t : Nat) ∧ Hid (t = sumL (L.take q))) (fun _ iv => m - (intOf iv).toNat)
  case atStart => exact ⟨0, 0, Nat.zero_le _, rfl, rfl, by show _ = _; simp [sumL]⟩
  case round =>
    obtain ⟨q, t, hqm, rfl, rfl, HT⟩ := hrel
    by_cases hq : q < m
    · have hqk : q < L.length := by rw [← HM.out]; exact hq
      obtain ⟨g, rfl, x1, ba, bc, x2, g3, g4⟩ := H1.out q hqk
      have hsum : sumL (L.take (q + 1)) = t + (64 + L[q].2.length) := by
        rw [List.take_succ_eq_append_getElem hqk, sumL_append, ← HT.out]; simp [sumL]
      have hle : sumL (L.take (q + 1)) ≤ sumL L := by
        have e : sumL L = sumL (L.take (q + 1)) + sumL (L.drop (q + 1)) := by rw [← sumL_append, List.take_append_drop]
        omega
      have hsm := HSm.out
      have hq0 : (q : Int) < m := by omega
      have HQ := hide (show q + 1 ≤ m by omega)
      generalize L[q] = x at *
      obtain ⟨xk, xb⟩ := x
      simp only at x1 x2 g3 g4 hsum
      obtain ⟨t1, e1⟩ : ∃ t1 : Nat, t1 = t + xb.length := ⟨_, rfl⟩
      obtain ⟨t2, e2⟩ : ∃ t2 : Nat, t2 = t1 + 64 := ⟨_, rfl⟩
      have HS := hide (show t2 = sumL (L.take (q + 1)) by omega)
      obtain ⟨hw, hw1, hw2⟩ : wrap64 ((q : Int) + 1) = ((q + 1 : Nat) : Int) ∧ wrap64 ((t : Int) + (xb.length : Int)) = (t1 : Int) ∧ wrap64 ((t1 : Int) + 64) = (t2 : Int) := ⟨wr' (by omega) (by omega) (by omega), wr' (by omega) (by omega) (by omega), wr' (by omega) (by omega) (by omega)⟩
      clear e1 e2
      clear g3 g4 hqm hsum hle hsm
      go_wp2
      go_round
      case rel => exact ⟨q + 1, t2, HQ.out, rfl, by rw [hw2], HS⟩
      case measure => show m - (((q + 1 : Nat) : Int)).toNat < m - ((q : Int)).toNat; have := HQ.out; omega
    · obtain rfl : q = m := by omega
      have hqq : ¬ (q : Int) < q := by omega
      have HT2 : Hid (t = sumL L) := by show _ = _; rw [HT.out, HM.out, List.take_length]
      clear hq hqm
      go_wp2
      go_ret
      exact ⟨by rw [← HT2.out]; rfl, rfl⟩

/-- the capacity stays -/
theorem cap_spend (s : St) : s.spend.2.cap = s.cap := by
  unfold St.spend
  split <;> rfl
theorem cap_step {s t : St} {q : Stp} {c : Int} (hs : StepTo s q c t) : t.cap = s.cap := by
  have hp := pickV_in q.what 12 (by decide)
  obtain ⟨h0, h1, h2, h3, h4, h5, h6, h7, h8, h9, h10, h11⟩ := hs
  have e : ∀ {r : Int × St}, (c, t) = r → r.2.cap = s.cap → t.cap = s.cap := fun e g => by rw [← e] at g; exact g
  have ha : ∀ k b, (s.append k b).2.cap = s.cap := fun k b => by
    unfold St.append
    split
    · rfl
    · split
      · rfl
      · split
        · rfl
        · exact cap_spend _
  rcases twelve' hp.1 hp.2 with h | h | h | h | h | h | h | h | h | h | h | h
  · refine e (h0 h) ?_
    unfold St.create
    split
    · rfl
    · split
      · rfl
      · split
        · rfl
        · split
          · rfl
          · exact cap_spend _
  · exact e (h1 h) (ha _ _)
  · refine e (h2 h) ?_
    unfold St.remove
    split
    · rfl
    · split
      · rfl
      · exact cap_spend _
  · refine e (h3 h) ?_
    unfold St.sync
    split
    · rfl
    · split <;> rfl
  · exact e (h4 h) (ha _ _)
  · rw [(h5 h).2]
  · rw [(h6 h).2]
  · refine e (h7 h) ?_
    unfold St.arm
    split
    · rfl
    · split <;> rfl
  · rw [(h8 h).2]
  · refine e (h9 h) ?_
    unfold St.spoil
    split
    · rfl
    · split
      · rfl
      · split <;> rfl
  · rw [(h10 h).2]
  · exact (h11 h).2.cap

/-- no Create, and no Append of a byte or more, that is done goes beyond the capacity -/
theorem more_step {s t : St} {q : Stp} {c : Int} (hs : StepTo s q c t) (hc : c = 0) (hm : pickV q.what 12 = 0 ∨ (pickV q.what 12 = 1 ∧ q.b.length ≠ 0) ∨ (pickV q.what 12 = 4 ∧ q.thick.length ≠ 0)) : t.used ≤ t.cap := by
  have hu : ∀ s : St, s.spend.2.used = s.used := fun s => by unfold St.spend; split <;> rfl
  have ha : ∀ k b, b.length ≠ 0 → (c, t) = s.append k b → t.used ≤ t.cap := fun k b hb h => by
    unfold St.append at h
    split at h
    · injection h with h _; omega
    · split at h
      · injection h with h _; omega
      · split at h
        · injection h with h _; omega
        · rename_i hr
          unfold St.room at hr
          have e : t = _ := congrArg Prod.snd h
          rw [e, hu, cap_spend]
          show s.used + b.length ≤ s.cap
          omega
  obtain ⟨h0, h1, _, _, h4, _⟩ := hs
  rcases hm with hm | ⟨hm, hb⟩ | ⟨hm, hb⟩
  · have h := h0 hm
    unfold St.create at h
    split at h
    · injection h with h _; omega
    · split at h
      · injection h with h _; omega
      · split at h
        · injection h with h _; omega
        · split at h
          · injection h with h _; omega
          · rename_i hr
            unfold St.room at hr
            have e : t = _ := congrArg Prod.snd h
            rw [e, hu, cap_spend]
            show s.used + 64 ≤ s.cap
            omega
  · exact ha _ _ hb (h1 hm)
  · exact ha _ _ hb (h4 hm)

theorem RdQ.at_ {W : World} {a : Option Addr} {n : Nat} {qs : List Stp} (h : RdQ W a n qs) (q : Nat) (hq : q < n) : ∃ (qq : Stp) (b off : Nat), StpOk W qq ∧ a = some ⟨b, off, none⟩ ∧ ∀ w, Keep (fun i => W.heap.size ≤ i) W w → w.cell? ⟨b, off + q * 8, none⟩ = some (.int .i64 qq.which) ∧ w.cell? ⟨b, off + q * 8 + 1, none⟩ = some (.bool qq.copy) ∧ w.cell? ⟨b, off + q * 8 + 2, none⟩ = some (.int .i64 qq.what) ∧
    w.cell? ⟨b, off + q * 8 + 3, none⟩ = some (.int .i64 qq.seg) ∧ w.cell? ⟨b, off + q * 8 + 4, none⟩ = some (.int .i64 qq.n) ∧ w.cell? ⟨b, off + q * 8 + 5, none⟩ = some (.int .u8 (qq.mask : Nat)) ∧ w.cell? ⟨b, off + q * 8 + 6, none⟩ = some (.slice qq.ba qq.b.length qq.bc) ∧ w.cell? ⟨b, off + q * 8 + 7, none⟩ = some (.slice qq.fa qq.fate.length qq.fc) := by
  have hqk : q < qs.length := by rw [← h.1]; exact hq
  obtain ⟨b, off, e, x0, x1, x2, x3, x4, x5, x6, x7⟩ := h.2.2.2 q hqk
  have kb : ¬ W.heap.size ≤ b := Nat.not_le.2 (block_lt_of_cell x0)
  exact ⟨qs[q], b, off, h.2.2.1 _ (List.getElem_mem hqk), e, fun w k => ⟨k.cell x0 kb, k.cell x1 kb, k.cell x2 kb, k.cell x3 kb, k.cell x4 kb, k.cell x5 kb, k.cell x6 kb, k.cell x7 kb⟩⟩

theorem Mids.stay {W w w' : World} {p : Nat} {s : St} {n : Nat} (h : Mids W w p s n) (hk : Keep (fun _ => False) w w') : Mids W w' p s n := ⟨h.d.stay hk fun _ _ _ f => f, h.g, h.k.more (hk.mono fun _ f => f.elim)⟩

set_option maxRecDepth 100000 in
set_option maxHeartbeats 8000000 in
theorem room_walk (cp : Int) (a : Option Addr) (n c : Nat) (qs : List Stp) (W : World) (h1 : -9223372036854775808 ≤ cp) (h2 : cp ≤ 9223372036854775807) (hq : RdQ W a n qs) :
    Calls Try.prog 3 #[.int .i64 cp, .slice a n c] W fun e w' => e = .returned (.bool true) ∧ Below W.heap.size W w' := by
  have HKn := hide (known_any W)
  have HQ := hide hq
  have HMd := hide fun w => made_any cp w h1 h2
  have HPc := hide fun w => pick_any cp 67108865 h1 h2 (by decide) (by decide) w
  have hpc := pickV_in cp 67108865 (by decide)
  obtain ⟨C, hC⟩ : ∃ C : Nat, C = (pickV cp 67108865).toNat := ⟨_, rfl⟩
  have hpC : pickV cp 67108865 = (C : Int) := by omega
  have hC26 : C ≤ 67108864 := by omega
  rw [hpC] at HPc
  have HC := hide hC
  have hn41 := hq.2.1
  clear hq h1 h2 hpc hC hpC
  go_enter Try.func3, Try.ntmps3
  go_wp2_with (first
    | (go_at_call 5; refine HKn.out.mono ?_; rintro e w1 ⟨rfl, hk⟩; have HK1 := hide hk; clear hk)
    | (go_at_call 6
       refine (HMd.out _).mono ?_
       rintro e w2 ⟨p, rfl, hd, hk⟩
       have HM0 := hide (Mids.start HK1.out hd hk)
       clear hd hk)
    | (go_at_call 7; refine (HPc.out _).mono ?_; rintro e w3 ⟨rfl, rfl⟩))
  go_loopw [8] (fun iv wr => ∃ (q : Nat) (s : St), q ≤ n ∧ iv = .int .i64 (q : Nat) ∧ Hid (Mids W wr p s q ∧ s.cap = C)) (fun iv _ => n - (intOf iv).toNat)
  case atStart => exact ⟨0, _, Nat.zero_le _, rfl, HM0.out, HC.out.symm⟩
  case round =>
    obtain ⟨q, s, hqm, rfl, HM⟩ := hrel
    by_cases hq : q < n
    · obtain ⟨qq, b, off, hqo, rfl, hx⟩ := HQ.out.at_ q hq
      obtain ⟨y0, y1, y2, y3, y4, y5, y6, y7⟩ := hx wr HM.out.1.k
      have HX := hide hx
      have HQo := hide hqo
      have HPq := hide fun w => pick_any qq.what 12 hqo.what.1 hqo.what.2 (by decide) (by decide) w
      have HS := hide (HM.out.1.step (by omega) hqo)
      have HTh : Hid (∀ w, Calls Try.prog 13 #[qq.val] w fun e w' => ∃ ta, e = .returned (.slice ta qq.thick.length qq.thick.length) ∧ True ∧ Keep (fun _ => False) w w' ∧ True) := fun w => (thick_any w qq hqo.n.1 hqo.n.2).mono fun e w' ⟨ta, h1, _, h2, _⟩ => ⟨ta, h1, trivial, h2, trivial⟩
      unfold Stp.val at HS HTh
      have hq0 : (q : Int) < n := by omega
      have hw : wrap64 ((q : Int) + 1) = ((q + 1 : Nat) : Int) := wr' (by omega) (by omega) (by omega)
      have HN := hide (show q + 1 ≤ n by omega)
      have hv := pickV_in qq.what 12 (by decide)
      obtain ⟨v, ev⟩ : ∃ v, v = pickV qq.what 12 := ⟨_, rfl⟩
      have HV := hide ev
      rw [← ev] at HPq hv
      clear hx hqo hqm ev hq
      go_wp2_with fail
      go_at_call 7
      refine (HPq.out _).mono ?_
      rintro e w9 ⟨rfl, rfl⟩
      go_wp2_with fail
      go_at_call 8
      refine HS.out.mono ?_
      rintro e w3 ⟨c', N', is', vl, vb, t, rfl, hst, -, hm, ⟨la, ln, lc, rfl⟩, ba, bn, bc, rfl⟩
      obtain ⟨W3, hW3⟩ : ∃ W3, W3 = w3.alloc (.cells #[.int .i64 c', .int .i64 N', .bool is', .slice la ln lc, .slice ba bn bc] 33) := ⟨_, rfl⟩
      have HMc : Hid (Mids W W3 p t (q + 1)) := hm.stay (by rw [hW3]; exact Keep.alloc _ _ _)
      have HCt : Hid (t.cap = C) := (cap_step hst).trans HM.out.2
      have tc : W3.cell? ⟨w3.heap.size, 0, none⟩ = some (.int .i64 c') := by
        rw [hW3]
        exact cell_blk (heap_alloc_new w3 _) 0 rfl
      have TC := hide tc
      have HSt := hide hst
      have HRm := hide (Room_any _ W3 p t HMc.out.d (HMc.out.g.ok (by omega)))
      have HW3 := hide hW3
      cases hdn : t.down with
      | true =>
        rw [hdn] at HRm
        have HDn := hide hdn
        have HRm' : Hid (Calls Try.prog 9 #[.pointer (some ⟨p, 0, none⟩)] W3 fun e w' => e = .returned (.tuple #[.int .i64 0, .int .i64 56]) ∧ ∃ n, w' = W3.drewN n) := HRm.out
        rw [hW3] at HRm'
        clear hst hm hdn tc hW3 HRm
        go_wp2_with fail
        go_at_call 9
        refine HRm'.out.mono ?_
        rintro e w4 ⟨rfl, j4, hw4⟩
        rw [← HW3.out] at hw4
        have HM4 := hide (HMc.out.stay (w' := w4) (by rw [hw4]; exact ⟨rfl, rfl, rfl, Nat.le_refl _, fun _ _ _ => rfl⟩))
        have HDw := hide (down_any _ w4 p t HM4.out.d)
        rw [HDn.out] at HDw
        clear hw4
        go_wp2_with fail
        go_at_call 10
        refine HDw.out.mono ?_
        rintro e w5 ⟨rfl, rfl⟩
        go_wp2_with fail
        go_roundw
        case rel => exact ⟨q + 1, t, HN.out, rfl, HM4.out, HCt.out⟩
        case measure => show n - (((q + 1 : Nat) : Int)).toNat < n - ((q : Int)).toNat; have := HN.out; omega
      | false =>
        rw [hdn] at HRm
        have HDn := hide hdn
        have HRm' : Hid (Calls Try.prog 9 #[.pointer (some ⟨p, 0, none⟩)] W3 fun e w' => e = .returned (.tuple #[.int .i64 (t.room : Nat), .int .i64 0]) ∧ ∃ n, w' = W3.drewN n) := HRm.out
        rw [hW3] at HRm'
        clear hst hm hdn tc hW3 HRm
        go_wp2_with fail
        go_at_call 9
        refine HRm'.out.mono ?_
        rintro e w4 ⟨rfl, j4, hw4⟩
        rw [← HW3.out] at hw4
        have HM4 := hide (HMc.out.stay (w' := w4) (by rw [hw4]; exact ⟨rfl, rfl, rfl, Nat.le_refl _, fun _ _ _ => rfl⟩))
        have TC4 : Hid (w4.cell? ⟨w3.heap.size, 0, none⟩ = some (.int .i64 c')) := by rw [hw4]; exact TC.out
        have HDw := hide (down_any _ w4 p t HM4.out.d)
        rw [HDn.out] at HDw
        have HSe := hide (seen_any _ w4 p t HM4.out.d (HM4.out.g.ok (by omega)))
        clear hw4
        go_wp2_with fail
        go_at_call 10
        refine HDw.out.mono ?_
        rintro e w5 ⟨rfl, rfl⟩
        go_wp2_with fail
        go_at_call 11
        refine HSe.out.mono ?_
        rintro e w6 ⟨a6, c6, L6, rfl, hr6, hl6, _, hk6⟩
        rw [HDn.out]
        have hl := hl6 HDn.out
        have hsum := hl.sum HM4.out.g
        have hbig := (HM4.out.g.ok (by omega)).big
        have HM6 := hide (HM4.out.stay hk6)
        have HUs := hide (used_any w6 _ a6 c6 L6 hr6 (hl.len HM4.out.g) (by rw [hsum]; exact hbig))
        rw [hsum] at HUs
        have TC6 := hide (hk6.cell TC4.out fun f => f)
        clear hr6 hl6 hk6 hl hsum HSe
        go_wp2_with fail
        go_at_call 12
        refine HUs.out.mono ?_
        rintro e w7 ⟨rfl, rfl⟩
        have hroom : t.room = C - t.used := by unfold St.room; rw [HCt.out]
        have hmx := max_run 0 ((C : Int) - (t.used : Int)) (t.room : Nat) (by rw [hroom]; omega)
        obtain ⟨hw1, hw1'⟩ : wrap64 ((C : Int) - (t.used : Int)) = (C : Int) - (t.used : Int) ∧ IntKind.i64.wrap ((C : Int) - (t.used : Int)) = (C : Int) - (t.used : Int) := ⟨wr' (by omega) (by omega) rfl, wr (by omega) (by omega)⟩
        have HMore := hide fun (hc : c' = 0) hmm => more_step HSt.out hc hmm
        rw [HCt.out, ← HV.out] at HMore
        obtain ⟨z0, z1, z2, z3, z4, z5, z6, z7⟩ := HX.out w7 HM6.out.k
        have tc6 := TC6.out
        generalize t.room = rm at *
        clear hroom hbig
        by_cases v0 : v = 0
        · subst v0
          by_cases hc : c' = 0
          · subst hc
            have hle := HMore.out rfl (.inl rfl)
            have hgt : ¬ C < t.used := by omega
            have hgt2 : ¬ (t.used : Int) > (C : Int) := by omega
            clear hle
            go_wp2_with (first
              | (go_at_call 13
                 refine (HTh.out _).mono ?_
                 rintro e w8 ⟨ta, rfl, -, hk8, -⟩
                 have HM6 := hide (HM6.out.stay hk8)
                 have tc6 := hk8.cell tc6 fun f => f
                 clear hk8))
            go_roundw
            case rel => exact ⟨q + 1, t, HN.out, rfl, HM6.out, HCt.out⟩
            case measure => show n - (((q + 1 : Nat) : Int)).toNat < n - ((q : Int)).toNat; have := HN.out; omega
          · have hb0 : (c' == 0) = false := by simp [hc]
            go_wp2_with (first
              | (go_at_call 13
                 refine (HTh.out _).mono ?_
                 rintro e w8 ⟨ta, rfl, -, hk8, -⟩
                 have HM6 := hide (HM6.out.stay hk8)
                 have tc6 := hk8.cell tc6 fun f => f
                 clear hk8))
            go_roundw
            case rel => exact ⟨q + 1, t, HN.out, rfl, HM6.out, HCt.out⟩
            case measure => show n - (((q + 1 : Nat) : Int)).toNat < n - ((q : Int)).toNat; have := HN.out; omega
        · by_cases v1 : v = 1
          · subst v1
            generalize qq.b.length = bl at *
            by_cases hbl : bl = 0
            · subst hbl
              by_cases hc : c' = 0
              · subst hc
                go_wp2_with (first
                  | (go_at_call 13
                     refine (HTh.out _).mono ?_
                     rintro e w8 ⟨ta, rfl, -, hk8, -⟩
                     have HM6 := hide (HM6.out.stay hk8)
                     have tc6 := hk8.cell tc6 fun f => f
                     clear hk8))
                go_roundw
                case rel => exact ⟨q + 1, t, HN.out, rfl, HM6.out, HCt.out⟩
                case measure => show n - (((q + 1 : Nat) : Int)).toNat < n - ((q : Int)).toNat; have := HN.out; omega
              · have hb0 : (c' == 0) = false := by simp [hc]
                go_wp2_with (first
                  | (go_at_call 13
                     refine (HTh.out _).mono ?_
                     rintro e w8 ⟨ta, rfl, -, hk8, -⟩
                     have HM6 := hide (HM6.out.stay hk8)
                     have tc6 := hk8.cell tc6 fun f => f
                     clear hk8))
                go_roundw
                case rel => exact ⟨q + 1, t, HN.out, rfl, HM6.out, HCt.out⟩
                case measure => show n - (((q + 1 : Nat) : Int)).toNat < n - ((q : Int)).toNat; have := HN.out; omega
            · have hbl1 : 0 < bl := by omega
              have hbl2 : (bl : Int) > 0 := by omega
              by_cases hc : c' = 0
              · subst hc
                have hle := HMore.out rfl (.inr (.inl ⟨rfl, hbl⟩))
                have hgt : ¬ C < t.used := by omega
                have hgt2 : ¬ (t.used : Int) > (C : Int) := by omega
                clear hle
                go_wp2_with (first
                  | (go_at_call 13
                     refine (HTh.out _).mono ?_
                     rintro e w8 ⟨ta, rfl, -, hk8, -⟩
                     have HM6 := hide (HM6.out.stay hk8)
                     have tc6 := hk8.cell tc6 fun f => f
                     clear hk8))
                go_roundw
                case rel => exact ⟨q + 1, t, HN.out, rfl, HM6.out, HCt.out⟩
                case measure => show n - (((q + 1 : Nat) : Int)).toNat < n - ((q : Int)).toNat; have := HN.out; omega
              · have hb0 : (c' == 0) = false := by simp [hc]
                go_wp2_with (first
                  | (go_at_call 13
                     refine (HTh.out _).mono ?_
                     rintro e w8 ⟨ta, rfl, -, hk8, -⟩
                     have HM6 := hide (HM6.out.stay hk8)
                     have tc6 := hk8.cell tc6 fun f => f
                     clear hk8))
                go_roundw
                case rel => exact ⟨q + 1, t, HN.out, rfl, HM6.out, HCt.out⟩
                case measure => show n - (((q + 1 : Nat) : Int)).toNat < n - ((q : Int)).toNat; have := HN.out; omega
          · by_cases v4 : v = 4
            · subst v4
              generalize qq.thick.length = tl at *
              by_cases htl : tl = 0
              · subst htl
                by_cases hc : c' = 0
                · subst hc
                  go_wp2_with (first
                    | (go_at_call 13
                       refine (HTh.out _).mono ?_
                       rintro e w8 ⟨ta, rfl, -, hk8, -⟩
                       have HM6 := hide (HM6.out.stay hk8)
                       have tc6 := hk8.cell tc6 fun f => f
                       clear hk8))
                  go_roundw
                  case rel => exact ⟨q + 1, t, HN.out, rfl, HM6.out, HCt.out⟩
                  case measure => show n - (((q + 1 : Nat) : Int)).toNat < n - ((q : Int)).toNat; have := HN.out; omega
                · have hb0 : (c' == 0) = false := by simp [hc]
                  go_wp2_with (first
                    | (go_at_call 13
                       refine (HTh.out _).mono ?_
                       rintro e w8 ⟨ta, rfl, -, hk8, -⟩
                       have HM6 := hide (HM6.out.stay hk8)
                       have tc6 := hk8.cell tc6 fun f => f
                       clear hk8))
                  go_roundw
                  case rel => exact ⟨q + 1, t, HN.out, rfl, HM6.out, HCt.out⟩
                  case measure => show n - (((q + 1 : Nat) : Int)).toNat < n - ((q : Int)).toNat; have := HN.out; omega
              · have hbl1 : 0 < tl := by omega
                have hbl2 : (tl : Int) > 0 := by omega
                by_cases hc : c' = 0
                · subst hc
                  have hle := HMore.out rfl (.inr (.inr ⟨rfl, htl⟩))
                  have hgt : ¬ C < t.used := by omega
                  have hgt2 : ¬ (t.used : Int) > (C : Int) := by omega
                  clear hle
                  go_wp2_with (first
                    | (go_at_call 13
                       refine (HTh.out _).mono ?_
                       rintro e w8 ⟨ta, rfl, -, hk8, -⟩
                       have HM6 := hide (HM6.out.stay hk8)
                       have tc6 := hk8.cell tc6 fun f => f
                       clear hk8))
                  go_roundw
                  case rel => exact ⟨q + 1, t, HN.out, rfl, HM6.out, HCt.out⟩
                  case measure => show n - (((q + 1 : Nat) : Int)).toNat < n - ((q : Int)).toNat; have := HN.out; omega
                · have hb0 : (c' == 0) = false := by simp [hc]
                  go_wp2_with (first
                    | (go_at_call 13
                       refine (HTh.out _).mono ?_
                       rintro e w8 ⟨ta, rfl, -, hk8, -⟩
                       have HM6 := hide (HM6.out.stay hk8)
                       have tc6 := hk8.cell tc6 fun f => f
                       clear hk8))
                  go_roundw
                  case rel => exact ⟨q + 1, t, HN.out, rfl, HM6.out, HCt.out⟩
                  case measure => show n - (((q + 1 : Nat) : Int)).toNat < n - ((q : Int)).toNat; have := HN.out; omega
            · have b0 : (v == 0) = false := by simp [v0]
              have b1 : (v == 1) = false := by simp [v1]
              have b4 : (v == 4) = false := by simp [v4]
              by_cases hc : c' = 0
              · subst hc
                go_wp2_with (first
                  | (go_at_call 13
                     refine (HTh.out _).mono ?_
                     rintro e w8 ⟨ta, rfl, -, hk8, -⟩
                     have HM6 := hide (HM6.out.stay hk8)
                     have tc6 := hk8.cell tc6 fun f => f
                     clear hk8))
                go_roundw
                case rel => exact ⟨q + 1, t, HN.out, rfl, HM6.out, HCt.out⟩
                case measure => show n - (((q + 1 : Nat) : Int)).toNat < n - ((q : Int)).toNat; have := HN.out; omega
              · have hb0 : (c' == 0) = false := by simp [hc]
                go_wp2_with (first
                  | (go_at_call 13
                     refine (HTh.out _).mono ?_
                     rintro e w8 ⟨ta, rfl, -, hk8, -⟩
                     have HM6 := hide (HM6.out.stay hk8)
                     have tc6 := hk8.cell tc6 fun f => f
                     clear hk8))
                go_roundw
                case rel => exact ⟨q + 1, t, HN.out, rfl, HM6.out, HCt.out⟩
                case measure => show n - (((q + 1 : Nat) : Int)).toNat < n - ((q : Int)).toNat; have := HN.out; omega
    · obtain rfl : q = n := by omega
      have hqq : ¬ (q : Int) < q := by omega
      clear hq hqm
      go_wp2_with fail
      go_ret
      exact ⟨rfl, HM.out.1.k.below (Nat.le_refl _) fun i e => e⟩

end Go.Proofs.Ytbjianhpdadhcab
