/- DiskArmed: the walk. -/
import Derived.Test.YtbjianhpdadhcaaDScr
namespace Go.Proofs.Ytbjianhpdadhcaa
open Go.RowKit Go.Lib

theorem twelve {v : Int} (h0 : 0 ≤ v) (h1 : v < 12) : v = 0 ∨ v = 1 ∨ v = 2 ∨ v = 3 ∨ v = 4 ∨ v = 5 ∨ v = 6 ∨ v = 7 ∨ v = 8 ∨ v = 9 ∨ v = 10 ∨ v = 11 := by
  obtain ⟨n, rfl⟩ := Int.eq_ofNat_of_zero_le h0
  have hn : n < 12 := by omega
  have key : ∀ n : Nat, n < 12 → n = 0 ∨ n = 1 ∨ n = 2 ∨ n = 3 ∨ n = 4 ∨ n = 5 ∨ n = 6 ∨ n = 7 ∨ n = 8 ∨ n = 9 ∨ n = 10 ∨ n = 11 := by decide
  rcases key n hn with rfl | rfl | rfl | rfl | rfl | rfl | rfl | rfl | rfl | rfl | rfl | rfl <;> simp

theorem spend_armed {u : St} {r : Nat} (hl : u.left = some r) (hd : u.down = false) : (u.spend.1 = 0 ∧ 1 ≤ r ∧ u.spend.2.left = some (r - 1) ∧ u.spend.2.down = false) ∨ (u.spend.1 = 56 ∧ r = 0 ∧ u.spend.2.down = true) := by
  unfold St.spend
  rw [hl]
  cases r with
  | zero => exact .inr ⟨rfl, rfl, rfl⟩
  | succ r => exact .inl ⟨rfl, by omega, rfl, hd⟩

/-- what a changing call makes of a disk that is armed -/
def Chg (r : Nat) (x : Int × St) : Prop := (x.1 = 0 ∧ 1 ≤ r ∧ x.2.left = some (r - 1) ∧ x.2.down = false) ∨ (x.1 = 56 ∧ r = 0 ∧ x.2.down = true) ∨ (x.1 ≠ 0 ∧ x.1 ≠ 56 ∧ x.2.left = some r ∧ x.2.down = false)

theorem chg_create {s : St} {r : Nat} (hl : s.left = some r) (hd : s.down = false) (k : Int) : Chg r (s.create k) := by
  unfold St.create
  rw [if_neg (by rw [hd]; decide)]
  split
  · exact .inr (.inr ⟨by simp, by simp, hl, hd⟩)
  · split
    · exact .inr (.inr ⟨by simp, by simp, hl, hd⟩)
    · split
      · exact .inr (.inr ⟨by simp, by simp, hl, hd⟩)
      · rcases spend_armed (u := { s with there := upd s.there k (some []), used := s.used + 64 }) hl hd with h | h
        · exact .inl h
        · exact .inr (.inl h)
theorem chg_append {s : St} {r : Nat} (hl : s.left = some r) (hd : s.down = false) (k : Int) (b : List Nat) : Chg r (s.append k b) := by
  unfold St.append
  rw [if_neg (by rw [hd]; decide)]
  split
  · exact .inr (.inr ⟨by simp, by simp, hl, hd⟩)
  · rename_i l _
    split
    · exact .inr (.inr ⟨by simp, by simp, hl, hd⟩)
    · rcases spend_armed (u := { s with there := upd s.there k (some (l ++ b)), used := s.used + b.length }) hl hd with h | h
      · exact .inl h
      · exact .inr (.inl h)
theorem chg_remove {s : St} {r : Nat} (hl : s.left = some r) (hd : s.down = false) (k : Int) : Chg r (s.remove k) := by
  unfold St.remove
  rw [if_neg (by rw [hd]; decide)]
  split
  · exact .inr (.inr ⟨by simp, by simp, hl, hd⟩)
  · rename_i l _
    rcases spend_armed (u := { s with there := upd s.there k none, used := s.used - (64 + l.length) }) hl hd with h | h
    · exact .inl h
    · exact .inr (.inl h)
theorem chg_sync {s : St} {r : Nat} (hl : s.left = some r) (hd : s.down = false) : Chg r s.sync := by
  unfold St.sync
  rw [if_neg (by rw [hd]; decide), hl]
  cases r with
  | zero => exact .inr (.inl ⟨rfl, rfl, rfl⟩)
  | succ r => exact .inl ⟨rfl, by omega, rfl, hd⟩

theorem armed_step {s t : St} {q : Stp} {c : Int} {r : Nat} (hs : StepTo s q c t) (hd : s.down = false) (hl : s.left = some r) (h7 : pickV q.what 12 ≠ 7) (h11 : pickV q.what 12 ≠ 11) :
    (pickV q.what 12 < 5 ∧ Chg r (c, t)) ∨ (¬ pickV q.what 12 < 5 ∧ c ≠ 56 ∧ t.left = some r ∧ t.down = false) := by
  have hp := pickV_in q.what 12 (by decide)
  obtain ⟨h0, h1, h2, h3, h4, h5, h6, _, h8, h9, h10, _⟩ := hs
  by_cases g0 : pickV q.what 12 = 0
  · exact .inl ⟨by omega, by rw [h0 g0]; exact chg_create hl hd _⟩
  by_cases g1 : pickV q.what 12 = 1
  · exact .inl ⟨by omega, by rw [h1 g1]; exact chg_append hl hd _ _⟩
  by_cases g2 : pickV q.what 12 = 2
  · exact .inl ⟨by omega, by rw [h2 g2]; exact chg_remove hl hd _⟩
  by_cases g3 : pickV q.what 12 = 3
  · exact .inl ⟨by omega, by rw [h3 g3]; exact chg_sync hl hd⟩
  by_cases g4 : pickV q.what 12 = 4
  · exact .inl ⟨by omega, by rw [h4 g4]; exact chg_append hl hd _ _⟩
  refine .inr ⟨by omega, ?_⟩
  by_cases g5 : pickV q.what 12 = 5
  · obtain ⟨e1, e2⟩ := h5 g5
    rw [e2]
    refine ⟨?_, hl, hd⟩
    rw [e1, St.find, if_neg (by rw [hd]; decide)]
    split <;> decide
  by_cases g6 : pickV q.what 12 = 6
  · obtain ⟨e1, e2⟩ := h6 g6
    rw [e2]
    exact ⟨by rw [e1, hd]; decide, hl, hd⟩
  by_cases g8 : pickV q.what 12 = 8
  · obtain ⟨e1, e2⟩ := h8 g8
    rw [e2]
    exact ⟨by rw [e1]; decide, hl, hd⟩
  by_cases g9 : pickV q.what 12 = 9
  · have e := h9 g9
    unfold St.spoil at e
    rw [if_neg (by rw [hd]; decide)] at e
    split at e
    · injection e with e1 e2; subst e1 e2; exact ⟨by decide, hl, hd⟩
    · split at e
      · injection e with e1 e2; subst e1 e2; exact ⟨by decide, hl, hd⟩
      · injection e with e1 e2; subst e1 e2; exact ⟨by decide, hl, hd⟩
  · obtain ⟨e1, e2⟩ := h10 (by rcases twelve hp.1 hp.2 with h | h | h | h | h | h | h | h | h | h | h | h <;> first | exact h | (exact absurd h (by assumption)))
    rw [e2]
    exact ⟨by rw [e1, hd]; decide, hl, hd⟩

theorem down_step {s t : St} {q : Stp} {c : Int} (hs : StepTo s q c t) (hd : s.down = true) (h7 : pickV q.what 12 ≠ 7) (h11 : pickV q.what 12 ≠ 11) : t = s ∧ (pickV q.what 12 ≠ 8 → c = 56) := by
  have hp := pickV_in q.what 12 (by decide)
  obtain ⟨h0, h1, h2, h3, h4, h5, h6, _, h8, h9, h10, _⟩ := hs
  have e : ∀ {r : Int × St}, (c, t) = r → r = (56, s) → t = s ∧ (pickV q.what 12 ≠ 8 → c = 56) := fun e1 e2 => by rw [e2] at e1; injection e1 with e1 e2; exact ⟨e2, fun _ => e1⟩
  by_cases g0 : pickV q.what 12 = 0
  · exact e (h0 g0) (by unfold St.create; rw [if_pos hd])
  by_cases g1 : pickV q.what 12 = 1
  · exact e (h1 g1) (by unfold St.append; rw [if_pos hd])
  by_cases g2 : pickV q.what 12 = 2
  · exact e (h2 g2) (by unfold St.remove; rw [if_pos hd])
  by_cases g3 : pickV q.what 12 = 3
  · exact e (h3 g3) (by unfold St.sync; rw [if_pos hd])
  by_cases g4 : pickV q.what 12 = 4
  · exact e (h4 g4) (by unfold St.append; rw [if_pos hd])
  by_cases g5 : pickV q.what 12 = 5
  · obtain ⟨e1, e2⟩ := h5 g5
    exact ⟨e2, fun _ => by rw [e1, St.find, if_pos hd]⟩
  by_cases g6 : pickV q.what 12 = 6
  · obtain ⟨e1, e2⟩ := h6 g6
    exact ⟨e2, fun _ => by rw [e1, hd]; rfl⟩
  by_cases g8 : pickV q.what 12 = 8
  · obtain ⟨e1, e2⟩ := h8 g8
    exact ⟨e2, fun h => absurd g8 h⟩
  by_cases g9 : pickV q.what 12 = 9
  · exact e (h9 g9) (by unfold St.spoil; rw [if_pos hd])
  · obtain ⟨e1, e2⟩ := h10 (by rcases twelve hp.1 hp.2 with h | h | h | h | h | h | h | h | h | h | h | h <;> first | exact h | (exact absurd h (by assumption)))
    exact ⟨e2, fun _ => by rw [e1, hd]; rfl⟩

theorem changing_any (w : World) (q : Stp) (h1 : -9223372036854775808 ≤ q.what) (h2 : q.what ≤ 9223372036854775807) : Calls Try.prog 39 #[q.val] w fun e w' => e = .returned (.bool (decide (pickV q.what 12 < 5))) ∧ Keep (fun _ => False) w w' := by
  have HP := hide (fun w => pick_any q.what 12 h1 h2 (by decide) (by decide) w)
  generalize pickV q.what 12 = v at *
  unfold Stp.val
  clear h1 h2
  go_enter Try.func39, Try.ntmps39
  go_wp2_with (first
    | (go_at_call 17; refine (HP.out _).mono ?_; rintro e w1 ⟨rfl, rfl⟩))
  go_ret
  exact ⟨rfl, Keep.alloc _ _ _⟩

theorem Mids.stay {W w w' : World} {p : Nat} {s : St} {n : Nat} (h : Mids W w p s n) (hk : Keep (fun _ => False) w w') : Mids W w' p s n := ⟨h.d.stay hk fun _ _ _ f => f, h.g, h.k.more (hk.mono fun _ f => f.elim)⟩

/-- what the second loop keeps -/
def Armd (nn d : Nat) (g : Bool) (s : St) : Prop := d ≤ nn ∧ s.down = g ∧ (g = false → ∃ r, s.left = some r ∧ d + r = nn)

theorem RdQ.at_ {W : World} {a : Option Addr} {n : Nat} {qs : List Stp} (h : RdQ W a n qs) (q : Nat) (hq : q < n) : ∃ (qq : Stp) (b off : Nat), StpOk W qq ∧ a = some ⟨b, off, none⟩ ∧ ∀ w, Keep (fun i => W.heap.size ≤ i) W w → w.cell? ⟨b, off + q * 8, none⟩ = some (.int .i64 qq.which) ∧ w.cell? ⟨b, off + q * 8 + 1, none⟩ = some (.bool qq.copy) ∧ w.cell? ⟨b, off + q * 8 + 2, none⟩ = some (.int .i64 qq.what) ∧
    w.cell? ⟨b, off + q * 8 + 3, none⟩ = some (.int .i64 qq.seg) ∧ w.cell? ⟨b, off + q * 8 + 4, none⟩ = some (.int .i64 qq.n) ∧ w.cell? ⟨b, off + q * 8 + 5, none⟩ = some (.int .u8 (qq.mask : Nat)) ∧ w.cell? ⟨b, off + q * 8 + 6, none⟩ = some (.slice qq.ba qq.b.length qq.bc) ∧ w.cell? ⟨b, off + q * 8 + 7, none⟩ = some (.slice qq.fa qq.fate.length qq.fc) := by
  have hqk : q < qs.length := by rw [← h.1]; exact hq
  obtain ⟨b, off, e, x0, x1, x2, x3, x4, x5, x6, x7⟩ := h.2.2.2 q hqk
  have kb : ¬ W.heap.size ≤ b := Nat.not_le.2 (block_lt_of_cell x0)
  exact ⟨qs[q], b, off, h.2.2.1 _ (List.getElem_mem hqk), e, fun w k => ⟨k.cell x0 kb, k.cell x1 kb, k.cell x2 kb, k.cell x3 kb, k.cell x4 kb, k.cell x5 kb, k.cell x6 kb, k.cell x7 kb⟩⟩

set_option maxRecDepth 100000 in
set_option maxHeartbeats 8000000 in
theorem armed_walk (cp : Int) (a : Option Addr) (n c : Nat) (ma : Option Addr) (mn mc : Nat) (qs ms : List Stp) (W : World) (h1 : -9223372036854775808 ≤ cp) (h2 : cp ≤ 9223372036854775807) (hq : RdQ W a n qs) (hm : RdQ W ma mn ms) :
    Calls Try.prog 8 #[.int .i64 cp, .slice a n c, .slice ma mn mc] W fun e w' => e = .returned (.bool true) ∧ Below W.heap.size W w' := by
  have HKn := hide (known_any W)
  have HQ := hide hq
  have HMs := hide hm
  have HMd := hide fun w => made_any cp w h1 h2
  have hn41 := hq.2.1
  have hm41 := hm.2.1
  clear hq hm h1 h2
  go_enter Try.func8, Try.ntmps8
  go_wp2_with (first
    | (go_at_call 9; refine HKn.out.mono ?_; rintro e w1 ⟨rfl, hk⟩; have HK1 := hide hk; clear hk)
    | (go_at_call 16
       refine (HMd.out _).mono ?_
       rintro e w2 ⟨p, rfl, hd, hk⟩
       have HM0 := hide (Mids.start HK1.out hd hk)
       clear hd hk))
  go_loopw [9] (fun iv wr => ∃ (q : Nat) (s : St), q ≤ n ∧ iv = .int .i64 (q : Nat) ∧ Hid (Mids W wr p s q)) (fun iv _ => n - (intOf iv).toNat)
  case atStart => exact ⟨0, _, Nat.zero_le _, rfl, HM0⟩
  case round =>
    obtain ⟨q, s, hqm, rfl, HM⟩ := hrel
    by_cases hq : q < n
    · obtain ⟨qq, b, off, hqo, rfl, hx⟩ := HQ.out.at_ q hq
      obtain ⟨y0, y1, y2, y3, y4, y5, y6, y7⟩ := hx wr HM.out.k
      have HS := hide (HM.out.step (by omega) hqo)
      unfold Stp.val at HS
      have hq0 : (q : Int) < n := by omega
      have hw : wrap64 ((q : Int) + 1) = ((q + 1 : Nat) : Int) := wr' (by omega) (by omega) (by omega)
      have HN := hide (show q + 1 ≤ n by omega)
      clear hx hqo hqm
      go_wp2_with (go_at_call 20
                   refine HS.out.mono ?_
                   rintro e w3 ⟨c', N', is', vl, vb, t, rfl, _, _, hm, _, _⟩
                   have HM3 := hide hm
                   clear hm)
      go_roundw
      case rel => exact ⟨q + 1, t, HN.out, rfl, HM3⟩
      case measure => show n - (((q + 1 : Nat) : Int)).toNat < n - ((q : Int)).toNat; have := HN.out; omega
    · obtain rfl : q = n := by omega
      have hqq : ¬ (q : Int) < q := by omega
      obtain ⟨w0, hw0⟩ : ∃ w0, w0 = wr := ⟨_, rfl⟩
      subst hw0
      have HDn := hide (down_any _ w0 p s HM.out.d)
      have HPk := hide fun w => pick_any (mn : Int) 9 (by omega) (by omega) (by decide) (by decide) w
      have hpk := pickV_in (mn : Int) 9 (by decide)
      obtain ⟨nn, hnn⟩ : ∃ nn : Nat, nn = (pickV (mn : Int) 9).toNat := ⟨_, rfl⟩
      have hpn : pickV (mn : Int) 9 = (nn : Int) := by omega
      have hn9 : nn < 9 := by omega
      rw [hpn] at HPk
      clear hqm hq hpk hnn hpn
      cases hdn : s.down with
      | true =>
        rw [hdn] at HDn
        have HCr := hide (crash_any _ w0 p s none 0 0 [] HM.out.d (HM.out.g.ok (by omega)) (by rw [tot_away]; exact HM.out.g.bud.held (by omega)) ⟨rfl, by omega, (fun x hx => by cases hx), .inl rfl⟩ (fun g off e _ => by cases e))
        clear hdn
        go_wp2_with fail
        go_at_call 15
        refine HDn.out.mono ?_
        rintro e w3 ⟨rfl, rfl⟩
        go_wp2_with fail
        go_at_call 28
        refine HCr.out.mono ?_
        rintro e w5 ⟨rfl, s1, hc1, hd1, hk1⟩
        have HM1 : Hid (Mids W w5 p s1 (q + 1)) := ⟨hd1, HM.out.g.crash hc1, HM.out.k.more hk1⟩
        have HD1 := hide hc1.down
        clear hc1 hd1 hk1 HCr HDn HM
        go_wp2_with fail
        go_at_call 17
        refine (HPk.out _).mono ?_
        rintro e w6 ⟨rfl, rfl⟩
        have HAr : Hid (Calls Try.prog 38 #[.pointer (some ⟨p, 0, none⟩), .int .i64 (nn : Nat)] w6 fun e w' => e = .returned (.int .i64 0) ∧ Mids W w' p { s1 with left := some nn } (q + 2)) := by
          have ha : s1.arm (nn : Int) = (0, { s1 with left := some nn }) := by
            unfold St.arm
            rw [if_neg (by rw [HD1.out]; decide), if_neg (by omega)]
            rfl
          have h1 := Arm_any _ w6 p s1 (nn : Int) HM1.out.d
          have h2 := HM1.out.g.arm (c := (nn : Int)) (by omega)
          rw [ha] at h1 h2
          exact h1.mono fun e w' ⟨e1, e2, e3⟩ => ⟨e1, e2, h2, HM1.out.k.more (e3.mono fun i e => e ▸ HM1.out.d.sp)⟩
        obtain ⟨s2, hs2⟩ : ∃ s2 : St, s2 = { s1 with left := some nn } := ⟨_, rfl⟩
        have HA2 : Hid (Armd nn 0 false s2) := by
          refine ⟨Nat.zero_le _, ?_, fun _ => ⟨nn, ?_, Nat.zero_add _⟩⟩
          · rw [hs2]; exact HD1.out
          · rw [hs2]
        rw [← hs2] at HAr
        clear hs2
        go_wp2_with fail
        go_at_call 38
        refine HAr.out.mono ?_
        rintro e w7 ⟨rfl, hm7⟩
        have HM7 := hide hm7
        have HDw := hide (down_any _ w7 p s2 hm7.d)
        rw [HA2.out.2.1] at HDw
        clear hm7
        go_wp2_with fail
        go_at_call 15
        refine HDw.out.mono ?_
        rintro e w8 ⟨rfl, rfl⟩
        clear HM1 HD1 HAr HDw
        go_wp2_with fail
        go_loopw [11, 12, 13] (fun dv gv iv wr => ∃ (i d : Nat) (g : Bool) (s : St), i ≤ mn ∧ dv = .int .i64 (d : Nat) ∧ gv = .bool g ∧ iv = .int .i64 (i : Nat) ∧ Hid (Mids W wr p s (q + 2 + i)) ∧ Hid (Armd nn d g s)) (fun _ _ iv _ => mn - (intOf iv).toNat)
        case atStart => exact ⟨0, 0, false, s2, Nat.zero_le _, rfl, rfl, rfl, HM7, HA2⟩
        case round =>
          obtain ⟨i, d, g, s3, him, rfl, rfl, rfl, HMi, HAi⟩ := hrel
          clear HM7 HA2
          by_cases hi : i < mn
          · obtain ⟨qq, b, off, hqo, rfl, hx⟩ := HMs.out.at_ i hi
            obtain ⟨y0, y1, y2, y3, y4, y5, y6, y7⟩ := hx wr HMi.out.k
            have HX := hide hx
            have HPq := hide fun w => pick_any qq.what 12 hqo.what.1 hqo.what.2 (by decide) (by decide) w
            have HCh := hide fun w => changing_any w qq hqo.what.1 hqo.what.2
            have HS := hide (HMi.out.step (by omega) hqo)
            unfold Stp.val at HS HCh
            have hi0 : (i : Int) < mn := by omega
            have hw : wrap64 ((i : Int) + 1) = ((i + 1 : Nat) : Int) := wr' (by omega) (by omega) (by omega)
            have HI := hide (show i + 1 ≤ mn by omega)
            have hv := pickV_in qq.what 12 (by decide)
            obtain ⟨v, ev⟩ : ∃ v, v = pickV qq.what 12 := ⟨_, rfl⟩
            have HV := hide ev
            rw [← ev] at HPq HCh hv
            have hdn8 := HAi.out.1
            have hd9 : (d : Int) < 9 := by omega
            have hw2 : wrap64 ((d : Int) + 1) = ((d + 1 : Nat) : Int) := wr' (by omega) (by omega) (by omega)
            have HL := hide (show q + 2 + i < 70368744177664 by omega)
            clear hx hqo him ev hi
            go_wp2_with fail
            go_at_call 17
            refine (HPq.out _).mono ?_
            rintro e w9 ⟨rfl, rfl⟩
            by_cases h7 : v = 7
            · subst h7
              go_wp2_with fail
              go_roundw
              case rel => exact ⟨i + 1, d, g, s3, HI.out, rfl, rfl, rfl, ⟨HMi.out.d, HMi.out.g.more (Nat.le_succ _), HMi.out.k⟩, HAi⟩
              case measure => show mn - (((i + 1 : Nat) : Int)).toNat < mn - ((i : Int)).toNat; have := HI.out; omega
            · by_cases h11 : v = 11
              · subst h11
                go_wp2_with fail
                go_roundw
                case rel => exact ⟨i + 1, d, g, s3, HI.out, rfl, rfl, rfl, ⟨HMi.out.d, HMi.out.g.more (Nat.le_succ _), HMi.out.k⟩, HAi⟩
                case measure => show mn - (((i + 1 : Nat) : Int)).toNat < mn - ((i : Int)).toNat; have := HI.out; omega
              · have H7 := hide h7
                have H11 := hide h11
                have hb7 : (v == 7) = false := by simp [h7]
                have hb11 : (v == 11) = false := by simp [h11]
                go_wp2_with fail
                go_at_call 20
                refine HS.out.mono ?_
                rintro e w3 ⟨c', N', is', vl, vb, t, rfl, hst, his, hm, ⟨la, ln, lc, rfl⟩, ba, bn, bc, rfl⟩
                rw [← HV.out] at his
                obtain ⟨W3, hW3⟩ : ∃ W3, W3 = w3.alloc (.cells #[.int .i64 c', .int .i64 N', .bool is', .slice la ln lc, .slice ba bn bc] 47) := ⟨_, rfl⟩
                have HMc : Hid (Mids W W3 p t (q + 2 + i + 1)) := hm.stay (by rw [hW3]; exact Keep.alloc _ _ _)
                obtain ⟨y0, y1, y2, y3, y4, y5, y6, y7⟩ := HX.out W3 HMc.out.k
                have tc : W3.cell? ⟨w3.heap.size, 0, none⟩ = some (.int .i64 c') := by
                  rw [hW3]
                  exact cell_blk (heap_alloc_new w3 _) 0 rfl
                cases g with
                | true =>
                  obtain ⟨ht, hc⟩ := down_step hst HAi.out.2.1 (by rw [← HV.out]; exact h7) (by rw [← HV.out]; exact h11)
                  subst ht
                  rw [← HV.out] at hc
                  rw [HAi.out.2.1, Bool.and_true] at his
                  rw [hW3] at tc y0 y1 y2 y3 y4 y5 y6 y7
                  rw [hW3] at HMc
                  have HTd : Hid (t.down = true) := HAi.out.2.1
                  by_cases h8 : v = 8
                  · subst h8
                    subst his
                    clear hst hm hW3 hc h7 h11
                    go_wp2_with (first
                      | (go_at_call 39
                         refine (HCh.out _).mono ?_
                         rintro e wc ⟨rfl, hk⟩
                         have HMc := hide (HMc.out.stay hk)
                         obtain ⟨y0, y1, y2, y3, y4, y5, y6, y7⟩ := HX.out wc HMc.out.k
                         have tc := hk.cell tc fun f => f
                         clear hk)
                      | (go_at_call 15
                         refine (down_any _ _ p t HMc.out.d).mono ?_
                         rintro e w' ⟨rfl, rfl⟩
                         rw [HTd.out])
                      )
                    go_roundw
                    case rel => exact ⟨i + 1, d, true, t, HI.out, rfl, rfl, rfl, HMc, HAi⟩
                    case measure => show mn - (((i + 1 : Nat) : Int)).toNat < mn - ((i : Int)).toNat; have := HI.out; omega
                  · obtain rfl := hc h8
                    have hb8 : (v == 8) = false := by simp [h8]
                    have hb8' : (v != 8) = true := by simp [h8]
                    rw [decide_eq_false h8] at his
                    subst his
                    clear hst hm hW3 hc h7 h11
                    go_wp2_with (first
                      | (go_at_call 39
                         refine (HCh.out _).mono ?_
                         rintro e wc ⟨rfl, hk⟩
                         have HMc := hide (HMc.out.stay hk)
                         obtain ⟨y0, y1, y2, y3, y4, y5, y6, y7⟩ := HX.out wc HMc.out.k
                         have tc := hk.cell tc fun f => f
                         clear hk)
                      | (go_at_call 15
                         refine (down_any _ _ p t HMc.out.d).mono ?_
                         rintro e w' ⟨rfl, rfl⟩
                         rw [HTd.out])
                      )
                    go_roundw
                    case rel => exact ⟨i + 1, d, true, t, HI.out, rfl, rfl, rfl, HMc, HAi⟩
                    case measure => show mn - (((i + 1 : Nat) : Int)).toNat < mn - ((i : Int)).toNat; have := HI.out; omega
                | false =>
                  obtain ⟨r, hr, hdr⟩ := HAi.out.2.2 rfl
                  rcases armed_step hst HAi.out.2.1 hr (by rw [← HV.out]; exact h7) (by rw [← HV.out]; exact h11) with ⟨hv5, hch⟩ | ⟨hv5, hc56, hl, hdn⟩
                  · rw [← HV.out] at hv5
                    have hvd : decide (v < 5) = true := decide_eq_true hv5
                    rw [hvd] at HCh
                    rcases hch with ⟨hc, hr1, hl, hdn⟩ | ⟨hc, hr0, hdn⟩ | ⟨hc0, hc56, hl, hdn⟩
                    · simp only at hc hl hdn
                      subst hc
                      have HTd : Hid (t.down = false) := hdn
                      have HAr : Hid (Armd nn (d + 1) false t) := ⟨by omega, hdn, fun _ => ⟨r - 1, hl, by omega⟩⟩
                      have hne : ¬ (d : Int) = (nn : Int) := by omega
                      have hne2 : ¬ d = nn := by omega
                      have hbd : ((d : Int) == (nn : Int)) = false := by simp; omega
                      rw [hW3] at tc y0 y1 y2 y3 y4 y5 y6 y7 HMc
                      clear hst hm hW3 his hl hdn hr hdr h7 h11 hvd hv5 hr1 hdn8
                      go_wp2_with (first
                        | (go_at_call 39
                           refine (HCh.out _).mono ?_
                           rintro e wc ⟨rfl, hk⟩
                           have HMc := hide (HMc.out.stay hk)
                           obtain ⟨y0, y1, y2, y3, y4, y5, y6, y7⟩ := HX.out wc HMc.out.k
                           have tc := hk.cell tc fun f => f
                           clear hk)
                        | (go_at_call 15
                           refine (down_any _ _ p t HMc.out.d).mono ?_
                           rintro e w' ⟨rfl, rfl⟩
                           rw [HTd.out])
                        )
                      go_roundw
                      case rel => exact ⟨i + 1, d + 1, false, t, HI.out, rfl, rfl, rfl, HMc, HAr⟩
                      case measure => show mn - (((i + 1 : Nat) : Int)).toNat < mn - ((i : Int)).toNat; have := HI.out; omega
                    · simp only at hc hdn
                      subst hc
                      have HTd : Hid (t.down = true) := hdn
                      have HAr : Hid (Armd nn d true t) := ⟨by omega, hdn, fun e => by cases e⟩
                      obtain rfl : d = nn := by omega
                      rw [hW3] at tc y0 y1 y2 y3 y4 y5 y6 y7 HMc
                      clear hst hm hW3 his hdn hr hdr h7 h11 hvd hv5 hr0 hdn8
                      go_wp2_with (first
                        | (go_at_call 39
                           refine (HCh.out _).mono ?_
                           rintro e wc ⟨rfl, hk⟩
                           have HMc := hide (HMc.out.stay hk)
                           obtain ⟨y0, y1, y2, y3, y4, y5, y6, y7⟩ := HX.out wc HMc.out.k
                           have tc := hk.cell tc fun f => f
                           clear hk)
                        | (go_at_call 15
                           refine (down_any _ _ p t HMc.out.d).mono ?_
                           rintro e w' ⟨rfl, rfl⟩
                           rw [HTd.out])
                        )
                      go_roundw
                      case rel => exact ⟨i + 1, d, true, t, HI.out, rfl, rfl, rfl, HMc, HAr⟩
                      case measure => show mn - (((i + 1 : Nat) : Int)).toNat < mn - ((i : Int)).toNat; have := HI.out; omega
                    · simp only at hc0 hc56 hl hdn
                      have HTd : Hid (t.down = false) := hdn
                      have HAr : Hid (Armd nn d false t) := ⟨by omega, hdn, fun _ => ⟨r, hl, hdr⟩⟩
                      have hb0 : (c' == 0) = false := by simp [hc0]
                      have hb56 : (c' == 56) = false := by simp [hc56]
                      rw [hW3] at tc y0 y1 y2 y3 y4 y5 y6 y7 HMc
                      clear hst hm hW3 his hl hdn hr hdr h7 h11 hvd hv5 hdn8
                      go_wp2_with (first
                        | (go_at_call 39
                           refine (HCh.out _).mono ?_
                           rintro e wc ⟨rfl, hk⟩
                           have HMc := hide (HMc.out.stay hk)
                           obtain ⟨y0, y1, y2, y3, y4, y5, y6, y7⟩ := HX.out wc HMc.out.k
                           have tc := hk.cell tc fun f => f
                           clear hk)
                        | (go_at_call 15
                           refine (down_any _ _ p t HMc.out.d).mono ?_
                           rintro e w' ⟨rfl, rfl⟩
                           rw [HTd.out])
                        )
                      go_roundw
                      case rel => exact ⟨i + 1, d, false, t, HI.out, rfl, rfl, rfl, HMc, HAr⟩
                      case measure => show mn - (((i + 1 : Nat) : Int)).toNat < mn - ((i : Int)).toNat; have := HI.out; omega
                  · rw [← HV.out] at hv5
                    have hvd : decide (v < 5) = false := decide_eq_false hv5
                    rw [hvd] at HCh
                    have HTd : Hid (t.down = false) := hdn
                    have HAr : Hid (Armd nn d false t) := ⟨by omega, hdn, fun _ => ⟨r, hl, hdr⟩⟩
                    have hb56 : (c' == 56) = false := by simp [hc56]
                    rw [hW3] at tc y0 y1 y2 y3 y4 y5 y6 y7 HMc
                    clear hst hm hW3 his hl hdn hr hdr h7 h11 hvd hv5 hdn8
                    by_cases hc0 : c' = 0
                    · subst hc0
                      go_wp2_with (first
                        | (go_at_call 39
                           refine (HCh.out _).mono ?_
                           rintro e wc ⟨rfl, hk⟩
                           have HMc := hide (HMc.out.stay hk)
                           obtain ⟨y0, y1, y2, y3, y4, y5, y6, y7⟩ := HX.out wc HMc.out.k
                           have tc := hk.cell tc fun f => f
                           clear hk)
                        | (go_at_call 15
                           refine (down_any _ _ p t HMc.out.d).mono ?_
                           rintro e w' ⟨rfl, rfl⟩
                           rw [HTd.out])
                        )
                      go_roundw
                      case rel => exact ⟨i + 1, d, false, t, HI.out, rfl, rfl, rfl, HMc, HAr⟩
                      case measure => show mn - (((i + 1 : Nat) : Int)).toNat < mn - ((i : Int)).toNat; have := HI.out; omega
                    · have hb0 : (c' == 0) = false := by simp [hc0]
                      go_wp2_with (first
                        | (go_at_call 39
                           refine (HCh.out _).mono ?_
                           rintro e wc ⟨rfl, hk⟩
                           have HMc := hide (HMc.out.stay hk)
                           obtain ⟨y0, y1, y2, y3, y4, y5, y6, y7⟩ := HX.out wc HMc.out.k
                           have tc := hk.cell tc fun f => f
                           clear hk)
                        | (go_at_call 15
                           refine (down_any _ _ p t HMc.out.d).mono ?_
                           rintro e w' ⟨rfl, rfl⟩
                           rw [HTd.out])
                        )
                      go_roundw
                      case rel => exact ⟨i + 1, d, false, t, HI.out, rfl, rfl, rfl, HMc, HAr⟩
                      case measure => show mn - (((i + 1 : Nat) : Int)).toNat < mn - ((i : Int)).toNat; have := HI.out; omega
          · obtain rfl : i = mn := by omega
            have hii : ¬ (i : Int) < i := by omega
            clear hi him
            go_wp2_with fail
            go_ret
            exact ⟨rfl, HMi.out.k.below (Nat.le_refl _) fun i e => e⟩
      | false =>
        rw [hdn] at HDn
        have HM1 : Hid (Mids W w0 p s (q + 1)) := ⟨HM.out.d, HM.out.g.more (Nat.le_succ _), HM.out.k⟩
        have HD1 := hide hdn
        clear hdn HM
        obtain ⟨s1, hs1⟩ : ∃ s1, s1 = s := ⟨_, rfl⟩
        subst hs1
        go_wp2_with fail
        go_at_call 15
        refine HDn.out.mono ?_
        rintro e w3 ⟨rfl, rfl⟩
        clear HDn
        go_wp2_with fail
        go_at_call 17
        refine (HPk.out _).mono ?_
        rintro e w6 ⟨rfl, rfl⟩
        have HAr : Hid (Calls Try.prog 38 #[.pointer (some ⟨p, 0, none⟩), .int .i64 (nn : Nat)] w6 fun e w' => e = .returned (.int .i64 0) ∧ Mids W w' p { s1 with left := some nn } (q + 2)) := by
          have ha : s1.arm (nn : Int) = (0, { s1 with left := some nn }) := by
            unfold St.arm
            rw [if_neg (by rw [HD1.out]; decide), if_neg (by omega)]
            rfl
          have h1 := Arm_any _ w6 p s1 (nn : Int) HM1.out.d
          have h2 := HM1.out.g.arm (c := (nn : Int)) (by omega)
          rw [ha] at h1 h2
          exact h1.mono fun e w' ⟨e1, e2, e3⟩ => ⟨e1, e2, h2, HM1.out.k.more (e3.mono fun i e => e ▸ HM1.out.d.sp)⟩
        obtain ⟨s2, hs2⟩ : ∃ s2 : St, s2 = { s1 with left := some nn } := ⟨_, rfl⟩
        have HA2 : Hid (Armd nn 0 false s2) := by
          refine ⟨Nat.zero_le _, ?_, fun _ => ⟨nn, ?_, Nat.zero_add _⟩⟩
          · rw [hs2]; exact HD1.out
          · rw [hs2]
        rw [← hs2] at HAr
        clear hs2
        go_wp2_with fail
        go_at_call 38
        refine HAr.out.mono ?_
        rintro e w7 ⟨rfl, hm7⟩
        have HM7 := hide hm7
        have HDw := hide (down_any _ w7 p s2 hm7.d)
        rw [HA2.out.2.1] at HDw
        clear hm7
        go_wp2_with fail
        go_at_call 15
        refine HDw.out.mono ?_
        rintro e w8 ⟨rfl, rfl⟩
        clear HM1 HD1 HAr HDw
        go_wp2_with fail
        go_loopw [11, 12, 13] (fun dv gv iv wr => ∃ (i d : Nat) (g : Bool) (s : St), i ≤ mn ∧ dv = .int .i64 (d : Nat) ∧ gv = .bool g ∧ iv = .int .i64 (i : Nat) ∧ Hid (Mids W wr p s (q + 2 + i)) ∧ Hid (Armd nn d g s)) (fun _ _ iv _ => mn - (intOf iv).toNat)
        case atStart => exact ⟨0, 0, false, s2, Nat.zero_le _, rfl, rfl, rfl, HM7, HA2⟩
        case round =>
          obtain ⟨i, d, g, s3, him, rfl, rfl, rfl, HMi, HAi⟩ := hrel
          clear HM7 HA2
          by_cases hi : i < mn
          · obtain ⟨qq, b, off, hqo, rfl, hx⟩ := HMs.out.at_ i hi
            obtain ⟨y0, y1, y2, y3, y4, y5, y6, y7⟩ := hx wr HMi.out.k
            have HX := hide hx
            have HPq := hide fun w => pick_any qq.what 12 hqo.what.1 hqo.what.2 (by decide) (by decide) w
            have HCh := hide fun w => changing_any w qq hqo.what.1 hqo.what.2
            have HS := hide (HMi.out.step (by omega) hqo)
            unfold Stp.val at HS HCh
            have hi0 : (i : Int) < mn := by omega
            have hw : wrap64 ((i : Int) + 1) = ((i + 1 : Nat) : Int) := wr' (by omega) (by omega) (by omega)
            have HI := hide (show i + 1 ≤ mn by omega)
            have hv := pickV_in qq.what 12 (by decide)
            obtain ⟨v, ev⟩ : ∃ v, v = pickV qq.what 12 := ⟨_, rfl⟩
            have HV := hide ev
            rw [← ev] at HPq HCh hv
            have hdn8 := HAi.out.1
            have hd9 : (d : Int) < 9 := by omega
            have hw2 : wrap64 ((d : Int) + 1) = ((d + 1 : Nat) : Int) := wr' (by omega) (by omega) (by omega)
            have HL := hide (show q + 2 + i < 70368744177664 by omega)
            clear hx hqo him ev hi
            go_wp2_with fail
            go_at_call 17
            refine (HPq.out _).mono ?_
            rintro e w9 ⟨rfl, rfl⟩
            by_cases h7 : v = 7
            · subst h7
              go_wp2_with fail
              go_roundw
              case rel => exact ⟨i + 1, d, g, s3, HI.out, rfl, rfl, rfl, ⟨HMi.out.d, HMi.out.g.more (Nat.le_succ _), HMi.out.k⟩, HAi⟩
              case measure => show mn - (((i + 1 : Nat) : Int)).toNat < mn - ((i : Int)).toNat; have := HI.out; omega
            · by_cases h11 : v = 11
              · subst h11
                go_wp2_with fail
                go_roundw
                case rel => exact ⟨i + 1, d, g, s3, HI.out, rfl, rfl, rfl, ⟨HMi.out.d, HMi.out.g.more (Nat.le_succ _), HMi.out.k⟩, HAi⟩
                case measure => show mn - (((i + 1 : Nat) : Int)).toNat < mn - ((i : Int)).toNat; have := HI.out; omega
              · have H7 := hide h7
                have H11 := hide h11
                have hb7 : (v == 7) = false := by simp [h7]
                have hb11 : (v == 11) = false := by simp [h11]
                go_wp2_with fail
                go_at_call 20
                refine HS.out.mono ?_
                rintro e w3 ⟨c', N', is', vl, vb, t, rfl, hst, his, hm, ⟨la, ln, lc, rfl⟩, ba, bn, bc, rfl⟩
                rw [← HV.out] at his
                obtain ⟨W3, hW3⟩ : ∃ W3, W3 = w3.alloc (.cells #[.int .i64 c', .int .i64 N', .bool is', .slice la ln lc, .slice ba bn bc] 47) := ⟨_, rfl⟩
                have HMc : Hid (Mids W W3 p t (q + 2 + i + 1)) := hm.stay (by rw [hW3]; exact Keep.alloc _ _ _)
                obtain ⟨y0, y1, y2, y3, y4, y5, y6, y7⟩ := HX.out W3 HMc.out.k
                have tc : W3.cell? ⟨w3.heap.size, 0, none⟩ = some (.int .i64 c') := by
                  rw [hW3]
                  exact cell_blk (heap_alloc_new w3 _) 0 rfl
                cases g with
                | true =>
                  obtain ⟨ht, hc⟩ := down_step hst HAi.out.2.1 (by rw [← HV.out]; exact h7) (by rw [← HV.out]; exact h11)
                  subst ht
                  rw [← HV.out] at hc
                  rw [HAi.out.2.1, Bool.and_true] at his
                  rw [hW3] at tc y0 y1 y2 y3 y4 y5 y6 y7
                  rw [hW3] at HMc
                  have HTd : Hid (t.down = true) := HAi.out.2.1
                  by_cases h8 : v = 8
                  · subst h8
                    subst his
                    clear hst hm hW3 hc h7 h11
                    go_wp2_with (first
                      | (go_at_call 39
                         refine (HCh.out _).mono ?_
                         rintro e wc ⟨rfl, hk⟩
                         have HMc := hide (HMc.out.stay hk)
                         obtain ⟨y0, y1, y2, y3, y4, y5, y6, y7⟩ := HX.out wc HMc.out.k
                         have tc := hk.cell tc fun f => f
                         clear hk)
                      | (go_at_call 15
                         refine (down_any _ _ p t HMc.out.d).mono ?_
                         rintro e w' ⟨rfl, rfl⟩
                         rw [HTd.out])
                      )
                    go_roundw
                    case rel => exact ⟨i + 1, d, true, t, HI.out, rfl, rfl, rfl, HMc, HAi⟩
                    case measure => show mn - (((i + 1 : Nat) : Int)).toNat < mn - ((i : Int)).toNat; have := HI.out; omega
                  · obtain rfl := hc h8
                    have hb8 : (v == 8) = false := by simp [h8]
                    have hb8' : (v != 8) = true := by simp [h8]
                    rw [decide_eq_false h8] at his
                    subst his
                    clear hst hm hW3 hc h7 h11
                    go_wp2_with (first
                      | (go_at_call 39
                         refine (HCh.out _).mono ?_
                         rintro e wc ⟨rfl, hk⟩
                         have HMc := hide (HMc.out.stay hk)
                         obtain ⟨y0, y1, y2, y3, y4, y5, y6, y7⟩ := HX.out wc HMc.out.k
                         have tc := hk.cell tc fun f => f
                         clear hk)
                      | (go_at_call 15
                         refine (down_any _ _ p t HMc.out.d).mono ?_
                         rintro e w' ⟨rfl, rfl⟩
                         rw [HTd.out])
                      )
                    go_roundw
                    case rel => exact ⟨i + 1, d, true, t, HI.out, rfl, rfl, rfl, HMc, HAi⟩
                    case measure => show mn - (((i + 1 : Nat) : Int)).toNat < mn - ((i : Int)).toNat; have := HI.out; omega
                | false =>
                  obtain ⟨r, hr, hdr⟩ := HAi.out.2.2 rfl
                  rcases armed_step hst HAi.out.2.1 hr (by rw [← HV.out]; exact h7) (by rw [← HV.out]; exact h11) with ⟨hv5, hch⟩ | ⟨hv5, hc56, hl, hdn⟩
                  · rw [← HV.out] at hv5
                    have hvd : decide (v < 5) = true := decide_eq_true hv5
                    rw [hvd] at HCh
                    rcases hch with ⟨hc, hr1, hl, hdn⟩ | ⟨hc, hr0, hdn⟩ | ⟨hc0, hc56, hl, hdn⟩
                    · simp only at hc hl hdn
                      subst hc
                      have HTd : Hid (t.down = false) := hdn
                      have HAr : Hid (Armd nn (d + 1) false t) := ⟨by omega, hdn, fun _ => ⟨r - 1, hl, by omega⟩⟩
                      have hne : ¬ (d : Int) = (nn : Int) := by omega
                      have hne2 : ¬ d = nn := by omega
                      have hbd : ((d : Int) == (nn : Int)) = false := by simp; omega
                      rw [hW3] at tc y0 y1 y2 y3 y4 y5 y6 y7 HMc
                      clear hst hm hW3 his hl hdn hr hdr h7 h11 hvd hv5 hr1 hdn8
                      go_wp2_with (first
                        | (go_at_call 39
                           refine (HCh.out _).mono ?_
                           rintro e wc ⟨rfl, hk⟩
                           have HMc := hide (HMc.out.stay hk)
                           obtain ⟨y0, y1, y2, y3, y4, y5, y6, y7⟩ := HX.out wc HMc.out.k
                           have tc := hk.cell tc fun f => f
                           clear hk)
                        | (go_at_call 15
                           refine (down_any _ _ p t HMc.out.d).mono ?_
                           rintro e w' ⟨rfl, rfl⟩
                           rw [HTd.out])
                        )
                      go_roundw
                      case rel => exact ⟨i + 1, d + 1, false, t, HI.out, rfl, rfl, rfl, HMc, HAr⟩
                      case measure => show mn - (((i + 1 : Nat) : Int)).toNat < mn - ((i : Int)).toNat; have := HI.out; omega
                    · simp only at hc hdn
                      subst hc
                      have HTd : Hid (t.down = true) := hdn
                      have HAr : Hid (Armd nn d true t) := ⟨by omega, hdn, fun e => by cases e⟩
                      obtain rfl : d = nn := by omega
                      rw [hW3] at tc y0 y1 y2 y3 y4 y5 y6 y7 HMc
                      clear hst hm hW3 his hdn hr hdr h7 h11 hvd hv5 hr0 hdn8
                      go_wp2_with (first
                        | (go_at_call 39
                           refine (HCh.out _).mono ?_
                           rintro e wc ⟨rfl, hk⟩
                           have HMc := hide (HMc.out.stay hk)
                           obtain ⟨y0, y1, y2, y3, y4, y5, y6, y7⟩ := HX.out wc HMc.out.k
                           have tc := hk.cell tc fun f => f
                           clear hk)
                        | (go_at_call 15
                           refine (down_any _ _ p t HMc.out.d).mono ?_
                           rintro e w' ⟨rfl, rfl⟩
                           rw [HTd.out])
                        )
                      go_roundw
                      case rel => exact ⟨i + 1, d, true, t, HI.out, rfl, rfl, rfl, HMc, HAr⟩
                      case measure => show mn - (((i + 1 : Nat) : Int)).toNat < mn - ((i : Int)).toNat; have := HI.out; omega
                    · simp only at hc0 hc56 hl hdn
                      have HTd : Hid (t.down = false) := hdn
                      have HAr : Hid (Armd nn d false t) := ⟨by omega, hdn, fun _ => ⟨r, hl, hdr⟩⟩
                      have hb0 : (c' == 0) = false := by simp [hc0]
                      have hb56 : (c' == 56) = false := by simp [hc56]
                      rw [hW3] at tc y0 y1 y2 y3 y4 y5 y6 y7 HMc
                      clear hst hm hW3 his hl hdn hr hdr h7 h11 hvd hv5 hdn8
                      go_wp2_with (first
                        | (go_at_call 39
                           refine (HCh.out _).mono ?_
                           rintro e wc ⟨rfl, hk⟩
                           have HMc := hide (HMc.out.stay hk)
                           obtain ⟨y0, y1, y2, y3, y4, y5, y6, y7⟩ := HX.out wc HMc.out.k
                           have tc := hk.cell tc fun f => f
                           clear hk)
                        | (go_at_call 15
                           refine (down_any _ _ p t HMc.out.d).mono ?_
                           rintro e w' ⟨rfl, rfl⟩
                           rw [HTd.out])
                        )
                      go_roundw
                      case rel => exact ⟨i + 1, d, false, t, HI.out, rfl, rfl, rfl, HMc, HAr⟩
                      case measure => show mn - (((i + 1 : Nat) : Int)).toNat < mn - ((i : Int)).toNat; have := HI.out; omega
                  · rw [← HV.out] at hv5
                    have hvd : decide (v < 5) = false := decide_eq_false hv5
                    rw [hvd] at HCh
                    have HTd : Hid (t.down = false) := hdn
                    have HAr : Hid (Armd nn d false t) := ⟨by omega, hdn, fun _ => ⟨r, hl, hdr⟩⟩
                    have hb56 : (c' == 56) = false := by simp [hc56]
                    rw [hW3] at tc y0 y1 y2 y3 y4 y5 y6 y7 HMc
                    clear hst hm hW3 his hl hdn hr hdr h7 h11 hvd hv5 hdn8
                    by_cases hc0 : c' = 0
                    · subst hc0
                      go_wp2_with (first
                        | (go_at_call 39
                           refine (HCh.out _).mono ?_
                           rintro e wc ⟨rfl, hk⟩
                           have HMc := hide (HMc.out.stay hk)
                           obtain ⟨y0, y1, y2, y3, y4, y5, y6, y7⟩ := HX.out wc HMc.out.k
                           have tc := hk.cell tc fun f => f
                           clear hk)
                        | (go_at_call 15
                           refine (down_any _ _ p t HMc.out.d).mono ?_
                           rintro e w' ⟨rfl, rfl⟩
                           rw [HTd.out])
                        )
                      go_roundw
                      case rel => exact ⟨i + 1, d, false, t, HI.out, rfl, rfl, rfl, HMc, HAr⟩
                      case measure => show mn - (((i + 1 : Nat) : Int)).toNat < mn - ((i : Int)).toNat; have := HI.out; omega
                    · have hb0 : (c' == 0) = false := by simp [hc0]
                      go_wp2_with (first
                        | (go_at_call 39
                           refine (HCh.out _).mono ?_
                           rintro e wc ⟨rfl, hk⟩
                           have HMc := hide (HMc.out.stay hk)
                           obtain ⟨y0, y1, y2, y3, y4, y5, y6, y7⟩ := HX.out wc HMc.out.k
                           have tc := hk.cell tc fun f => f
                           clear hk)
                        | (go_at_call 15
                           refine (down_any _ _ p t HMc.out.d).mono ?_
                           rintro e w' ⟨rfl, rfl⟩
                           rw [HTd.out])
                        )
                      go_roundw
                      case rel => exact ⟨i + 1, d, false, t, HI.out, rfl, rfl, rfl, HMc, HAr⟩
                      case measure => show mn - (((i + 1 : Nat) : Int)).toNat < mn - ((i : Int)).toNat; have := HI.out; omega
          · obtain rfl : i = mn := by omega
            have hii : ¬ (i : Int) < i := by omega
            clear hi him
            go_wp2_with fail
            go_ret
            exact ⟨rfl, HMi.out.k.below (Nat.le_refl _) fun i e => e⟩

end Go.Proofs.Ytbjianhpdadhcaa
