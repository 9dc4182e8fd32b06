import Derived.Test.YtiackejbpcjmeaaRStp
import Derived.Test.YtiackejbpcjmeaaGRfA
import Derived.Deep.QuietTactic
/- Package run: may a run stand so? Its small functions. -/
namespace Go.Proofs.Ytiackejbpcjmeaa
namespace Rn
open Go.RowKit Gr

theorem calls_keepB {f : FuncId} {args : Array Value} {W : World} (u : Behind W) {v : Value}
    (h : Calls Try.prog f args u.1 fun e w' => e = .returned v ∧ Keep (fun _ => False) u.1 w') : Calls Try.prog f args u.1 fun e w'' => e = .returned v ∧ ∃ u' : Behind W, w'' = u'.1 :=
  h.mono fun _ w' ⟨he, k⟩ => ⟨he, ⟨w', u.2.trans (k.below u.2.size fun _ f => f.elim)⟩, rfl⟩
theorem within_yes {x a b : Int} (h1 : a ≤ x) (h2 : x ≤ b) (w : World) : Calls Try.prog 72 #[.int .i64 x, .int .i64 a, .int .i64 b] w fun e w' => e = .returned (.bool true) ∧ w' = w := by
  go_enter Try.func72, Try.ntmps72
  go_wp2_with fail
  go_ret
  exact ⟨rfl, rfl⟩
set_option maxRecDepth 100000 in
theorem resultHolds_any (p : Pt) (m : Option Addr × Nat × Nat) (hm : m.2.1 = p.rs.length) (h : resOk p) (w : World) :
    Calls Try.prog 52 #[.agg #[.int .i64 p.st, .int .i64 p.tr, .int .i64 0, .int .i64 0, .slice m.1 m.2.1 m.2.2]] w fun e w' => e = .returned (.bool true) ∧ Keep (fun _ => False) w w' := by
  obtain ⟨st, tr, rs⟩ := p
  obtain ⟨a, n, c⟩ := m
  simp only at hm ⊢
  have K := hide (Keep.alloc (fun _ => False) w (.cells #[.int .i64 st, .int .i64 tr, .int .i64 0, .int .i64 0, .slice a n c] 76))
  have HB := hide (heap_alloc_new w (.cells #[.int .i64 st, .int .i64 tr, .int .i64 0, .int .i64 0, .slice a n c] 76))
  by_cases h0 : n = 0
  · subst h0
    clear hm h
    go_enter Try.func52, Try.ntmps52
    go_wp2_with fail
    go_ret
    exact ⟨rfl, K.out⟩
  · rcases h with h | ⟨h1, h2⟩
    · exact absurd (by rw [hm, show rs = [] from h]; rfl) h0
    · obtain rfl : st = 5 := h1
      have h2 : n ≤ 64 := by have : rs.length ≤ 64 := h2; omega
      have h0' : ((n : Int) == 0) = false := by simpa using h0
      have D := hide (fun W => done_any 5 tr (a, n, c) W)
      clear hm h0
      go_enter Try.func52, Try.ntmps52
      go_wp2_with fail
      go_at_call 50
      refine (D.out _).mono ?_
      rintro e w1 ⟨rfl, k1⟩
      have K1 := hide (K.out.more k1)
      have hb1 := k1.blk HB.out (fun f => f)
      have c4 := cell_blk hb1 4 (v := .slice a n c) rfl
      rw [show doneS 5 = true from rfl]
      clear k1 D hb1 HB K
      go_wp2_with fail
      go_ret
      exact ⟨by simp; omega, K1.out⟩
set_option maxRecDepth 100000 in
theorem attempts_any (st tr b : Int) (sp : Bool) (rs : List Nat) (m : Option Addr × Nat × Nat) (w : World) (h : attOk b sp ⟨st, tr, rs⟩ = true) (hb : -1000 ≤ b ∧ b ≤ 1000000) :
    Calls Try.prog 53 #[.agg #[.int .i64 st, .int .i64 tr, .int .i64 0, .int .i64 0, .slice m.1 m.2.1 m.2.2], .int .i64 b, .bool sp] w fun e w' => e = .returned (.bool true) ∧ Keep (fun _ => False) w w' := by
  have K := hide (Keep.alloc (fun _ => False) w (.cells #[.int .i64 st, .int .i64 tr, .int .i64 0, .int .i64 0, .slice m.1 m.2.1 m.2.2] 76))
  have WI := hide (fun (W : World) (a c : Int) (h1 : a ≤ tr) (h2 : tr ≤ c) => within_yes h1 h2 W)
  have hst := attOk_st h
  simp only at hst
  have hst2 : st = 1 ∨ st = 2 ∨ st = 3 ∨ st = 4 ∨ st = 5 ∨ st = 6 ∨ st = 7 := by omega
  clear hst
  obtain ⟨hb1, hb2⟩ := hb
  rcases hst2 with rfl | rfl | rfl | rfl | rfl | rfl | rfl
  · have h' : tr = 0 := by simpa [attOk] using h
    subst h'
    clear h
    go_enter Try.func53, Try.ntmps53
    go_wp2_with fail
    go_ret
    exact ⟨rfl, K.out⟩
  · have h' : 0 ≤ tr ∧ tr ≤ b - 1 := by simpa [attOk] using h
    have W1 := hide (fun W => WI.out W 0 (b - 1) h'.1 h'.2)
    clear h WI h'
    go_enter Try.func53, Try.ntmps53
    go_wp2_with fail
    go_at_call 72
    refine (W1.out _).mono ?_
    rintro e w1 ⟨rfl, rfl⟩
    go_wp2_with fail
    go_ret
    exact ⟨rfl, K.out⟩
  · have h' : 1 ≤ tr ∧ tr ≤ b := by simpa [attOk] using h
    have W1 := hide (fun W => WI.out W 1 b h'.1 h'.2)
    clear h WI h'
    go_enter Try.func53, Try.ntmps53
    go_wp2_with fail
    go_at_call 72
    refine (W1.out _).mono ?_
    rintro e w1 ⟨rfl, rfl⟩
    go_wp2_with fail
    go_ret
    exact ⟨rfl, K.out⟩
  · have h' : 1 ≤ tr ∧ tr ≤ b - 1 := by simpa [attOk] using h
    have W1 := hide (fun W => WI.out W 1 (b - 1) h'.1 h'.2)
    clear h WI h'
    go_enter Try.func53, Try.ntmps53
    go_wp2_with fail
    go_at_call 72
    refine (W1.out _).mono ?_
    rintro e w1 ⟨rfl, rfl⟩
    go_wp2_with fail
    go_ret
    exact ⟨rfl, K.out⟩
  · have h' : 1 ≤ tr ∧ tr ≤ b := by simpa [attOk] using h
    have W1 := hide (fun W => WI.out W 1 b h'.1 h'.2)
    clear h WI h'
    go_enter Try.func53, Try.ntmps53
    go_wp2_with fail
    go_at_call 72
    refine (W1.out _).mono ?_
    rintro e w1 ⟨rfl, rfl⟩
    go_wp2_with fail
    go_ret
    exact ⟨rfl, K.out⟩
  · have h' : tr = b ∨ sp = true ∧ 0 ≤ tr ∧ tr ≤ b := by simpa [attOk] using h
    by_cases hh : tr = b
    · subst hh
      clear h WI h'
      go_enter Try.func53, Try.ntmps53
      go_wp2_with fail
      go_ret
      exact ⟨rfl, K.out⟩
    · obtain ⟨rfl, h1, h2⟩ := h'.resolve_left hh
      have hh' : (tr == b) = false := by simpa using hh
      have W1 := hide (fun W => WI.out W 0 b h1 h2)
      clear h WI h' h1 h2 hh
      go_enter Try.func53, Try.ntmps53
      go_wp2_with fail
      go_at_call 72
      refine (W1.out _).mono ?_
      rintro e w1 ⟨rfl, rfl⟩
      go_wp2_with fail
      go_ret
      exact ⟨rfl, K.out⟩
  · have h' : tr = 0 := by simpa [attOk] using h
    subst h'
    clear h
    go_enter Try.func53, Try.ntmps53
    go_wp2_with fail
    go_ret
    exact ⟨rfl, K.out⟩
set_option maxRecDepth 100000 in
set_option maxHeartbeats 4000000 in
theorem outlooks_any {T : Nat → Prop} {w : World} {P G : Nat} {nm : ByteArray} {dl : Int} {s : Option Addr × Nat × Nat} {xs : List No} {R : Rs} (h : RunAt T w P G nm dl s xs R) (ho : OH (xs.map nx) (sts R.ps)) :
    Calls Try.prog 54 #[.pointer (some ⟨P, 0, none⟩)] w fun e w' => e = .returned (.bool true) ∧ Keep (fun _ => False) w w' := by
  have hn64 : xs.length ≤ 64 := h.val.1
  have HLN : Hid (R.ps.length = xs.length) := h.len
  obtain ⟨cc, _, _, _, _, c4⟩ := h.cells
  have PT := hide (fun (W : World) (k : Keep (fun _ => False) w W) i p (hp : R.ps[i]? = some p) => (h.new k).pts i p hp)
  have OL := hide (fun (W : World) (k : Keep (fun _ => False) w W) i x (hx : xs[i]? = some x) => outlookOf_any (h.new k) i x hx)
  have HO := hide ho
  clear h ho
  generalize hn : xs.length = n at *
  go_enter Try.func54, Try.ntmps54
  go_wp2_with fail
  clear c4
  go_loopw [13] (fun v13 wr => ∃ i : Nat, v13 = .int .i64 (i : Nat) ∧ i ≤ n ∧ Hid (Keep (fun _ => False) w wr)) (fun v13 _ => n - (intOf v13).toNat)
  case atStart => exact ⟨0, rfl, Nat.zero_le _, Keep.refl _ _⟩
  case round => as_aux_lemma =>
    obtain ⟨i, rfl, hi, HK⟩ := hrel
    by_cases hlt : i < n
    · have hx : xs[i]? = some (xs[i]'(by omega)) := List.getElem?_eq_getElem _
      generalize xs[i]'_ = x at hx
      have hp : R.ps[i]? = some (R.ps[i]'(by have := HLN.out; omega)) := List.getElem?_eq_getElem _
      generalize R.ps[i]'_ = p at hp
      obtain ⟨m, hm⟩ := PT.out wr HK.out i p hp
      obtain ⟨p0, p1, p2, p3, p4⟩ := hm.all
      have hoh := HO.out i (nx x) (nx_at hx)
      rw [sAt_sts hp] at hoh
      have kA := Keep.alloc (fun _ => False) wr (.cells #[.int .i64 p.st, .int .i64 p.tr, .int .i64 0, .int .i64 0, .slice m.1 m.2.1 m.2.2] 76)
      have HBA := hide (heap_alloc_new wr (.cells #[.int .i64 p.st, .int .i64 p.tr, .int .i64 0, .int .i64 0, .slice m.1 m.2.1 m.2.2] 76))
      have KA := hide (HK.out.more kA)
      have HOH := hide hoh
      have HX := hide hx
      clear hm hoh kA hp hx HK
      go_upto_region 4 with fail
      generalize wr.alloc (.cells #[.int .i64 p.st, .int .i64 p.tr, .int .i64 0, .int .i64 0, .slice m.1 m.2.1 m.2.2] 76) = wa at *
      generalize wr.heap.size = D at *
      have d0 := cell_blk HBA.out 0 (v := .int .i64 p.st) rfl
      clear p0 p1 p2 p3 p4
      go_quiet (fail)
      have KB := hide (KA.out.more (keep_drewN wa nq))
      have C1 := hide (OL.out _ KB.out i x HX.out)
      clear d0 KA HBA
      obtain ⟨o, ho⟩ : ∃ o, o = outl (sts R.ps) (nx x) := ⟨_, rfl⟩
      rw [← ho] at C1 HOH
      have hcs := outl_cases (sts R.ps) (nx x)
      rw [← ho] at hcs
      have HCS := hide hcs
      clear ho hcs
      go_wp2_with fail
      go_at_call 73
      refine C1.out.mono ?_
      rintro e wb ⟨rfl, kb⟩
      have KC := hide (KB.out.more kb)
      clear C1 kb KB
      rcases HCS.out with rfl | rfl | rfl
      · have h1 : p.st = 1 := HOH.out.2.2 rfl
        rw [h1]
        go_wp2_with fail
        go_roundw
        · exact ⟨i + 1, rfl, by omega, KC.out⟩
        · show n - ((i : Int) + 1).toNat < n - (i : Int).toNat
          omega
      · have h7 : (p.st == 7) = false := by
          have : p.st ≠ 7 := fun e => absurd (HOH.out.1.1 e) (by decide)
          simpa using this
        have h1 : (p.st == 1) = false := by
          have : p.st ≠ 1 := fun e => absurd (HOH.out.2.1 e) (by decide)
          simpa using this
        rw [h1, h7]
        go_wp2_with fail
        go_roundw
        · exact ⟨i + 1, rfl, by omega, KC.out⟩
        · show n - ((i : Int) + 1).toNat < n - (i : Int).toNat
          omega
      · have h7 : p.st = 7 := HOH.out.1.2 rfl
        rw [h7]
        go_wp2_with fail
        go_roundw
        · exact ⟨i + 1, rfl, by omega, KC.out⟩
        · show n - ((i : Int) + 1).toNat < n - (i : Int).toNat
          omega
    · obtain rfl : i = n := by omega
      go_wp2_with fail
      go_ret
      exact ⟨rfl, HK.out⟩
end Rn
end Go.Proofs.Ytiackejbpcjmeaa

/- Package run: may a run stand so? mayStand; a node's copy. -/
namespace Go.Proofs.Ytiackejbpcjmeaa
namespace Rn
open Go.RowKit Gr

set_option maxRecDepth 100000 in
set_option maxHeartbeats 8000000 in
theorem mayStand_any {T : Nat → Prop} {w : World} {P G : Nat} {nm : ByteArray} {dl : Int} {s : Option Addr × Nat × Nat} {xs : List No} {R : Rs} (h : RunAt T w P G nm dl s xs R) (hm : May (xs.map nx) R) (hb : ∀ x ∈ xs, -1000 ≤ x.q.bu ∧ x.q.bu ≤ 1000000) :
    Calls Try.prog 34 #[.pointer (some ⟨P, 0, none⟩)] w fun e w' => e = .returned (.bool true) ∧ Keep (fun _ => False) w w' := by
  have hn64 : xs.length ≤ 64 := h.val.1
  have HLN : Hid (R.ps.length = xs.length) := h.len
  have HSL : Hid (s.2.1 = xs.length) := h.pln.1
  have RA := hide (fun (W : World) (k : Keep (fun _ => False) w W) => h.new k)
  have HPS := hide hm.1
  have HMY := hide hm.2
  have HB := hide hb
  obtain ⟨sa, sn, sc⟩ := s
  obtain ⟨cc, _, _, _, _, c4⟩ := h.cells
  obtain ⟨st, ps⟩ := R
  simp only at *
  clear h hm hb
  generalize hn : xs.length = n at *
  have HN := hide hn
  clear hn
  go_enter Try.func34, Try.ntmps34
  go_wp2_with fail
  clear c4
  go_loopw [12] (fun v12 wr => ∃ i : Nat, v12 = .int .i64 (i : Nat) ∧ i ≤ n ∧ Hid (Keep (fun _ => False) w wr)) (fun v12 _ => n - (intOf v12).toNat)
  case atStart => exact ⟨0, rfl, Nat.zero_le _, Keep.refl _ _⟩
  case round => as_aux_lemma =>
    obtain ⟨i, rfl, hi, HK⟩ := hrel
    by_cases hlt : i < n
    · as_aux_lemma =>
      have hx : xs[i]? = some (xs[i]'(by have := HN.out; omega)) := List.getElem?_eq_getElem _
      generalize xs[i]'_ = x at hx
      have hp : ps[i]? = some (ps[i]'(by have := HLN.out; omega)) := List.getElem?_eq_getElem _
      generalize ps[i]'_ = p at hp
      obtain ⟨m, hm⟩ := (RA.out wr HK.out).pts i p hp
      obtain ⟨p0, p1, p2, p3, p4⟩ := hm.all
      have hml : m.2.1 = p.rs.length := hm.rd.1
      obtain ⟨hro, hat⟩ := HPS.out.2 i (nx x) p (nx_at hx) hp
      have hbx := HB.out x (List.mem_of_getElem? hx)
      have RH := hide (fun W : World => resultHolds_any p m hml hro W)
      have AH := hide (fun W : World => attempts_any p.st p.tr x.q.bu (stopped st) p.rs m W hat hbx)
      have IS := hide (fun W : World => isStopped_any st W)
      have kA := Keep.alloc (fun _ => False) wr (.cells #[.int .i64 p.st, .int .i64 p.tr, .int .i64 0, .int .i64 0, .slice m.1 m.2.1 m.2.2] 76)
      have HBA := hide (heap_alloc_new wr (.cells #[.int .i64 p.st, .int .i64 p.tr, .int .i64 0, .int .i64 0, .slice m.1 m.2.1 m.2.2] 76))
      have KA := hide (HK.out.more kA)
      have HX := hide hx
      have HLT := hide hlt
      clear hm kA hp hx HK hro hat hbx hml
      go_upto_region 4 with fail
      generalize wr.alloc (.cells #[.int .i64 p.st, .int .i64 p.tr, .int .i64 0, .int .i64 0, .slice m.1 m.2.1 m.2.2] 76) = wa at *
      generalize wr.heap.size = D at *
      clear p0 p1 p2 p3 p4
      have hra := RA.out wa KA.out
      obtain ⟨c', _, _, r2, r3, _⟩ := hra.cells
      obtain ⟨g, off, x', hs, _, hx', hN, _, _⟩ := hra.pln.at (i := i) (by have := HLT.out; have := HSL.out; show i < sn; omega)
      obtain rfl : x' = x := Option.some.inj (hx'.symm.trans HX.out)
      have hs : sa = some ⟨g, off, none⟩ := hs
      subst hs
      have n2 := hN.all.2.2.1
      have d0 := cell_blk HBA.out 0 (v := .int .i64 p.st) rfl
      have d1 := cell_blk HBA.out 1 (v := .int .i64 p.tr) rfl
      have d2 := cell_blk HBA.out 2 (v := .int .i64 0) rfl
      have d3 := cell_blk HBA.out 3 (v := .int .i64 0) rfl
      have d4 := cell_blk HBA.out 4 (v := .slice m.1 m.2.1 m.2.2) rfl
      haveI := behindNE wa
      have e0 := fun u : Behind wa => u.cell d0
      have e1 := fun u : Behind wa => u.cell d1
      have e2 := fun u : Behind wa => u.cell d2
      have e3 := fun u : Behind wa => u.cell d3
      have e4 := fun u : Behind wa => u.cell d4
      have f2 := fun u : Behind wa => u.cell r2
      have f3 := fun u : Behind wa => u.cell r3
      have f5 := fun u : Behind wa => u.cell n2
      have x4 : ¬ sn ≤ i := by have := HLT.out; have := HSL.out; omega
      have hsn : sn ≤ 64 := by have := HSL.out; omega
      clear hra hx' hN d0 d1 d2 d3 d4 r2 r3 n2
      refine quiet_behind (by kernel_rfl) (by kernel_rfl) ?_
      repeat (go_big_quiet_step (first
        | (go_at_call 52; exact calls_keepB _ (RH.out _))
        | (go_at_call 53; exact calls_keepB _ (AH.out _))
        | (go_at_call 51; exact (IS.out _).mono fun _ _ h => ⟨h.1, _, h.2⟩)))
      refine wpQuiet_nil ?_
      intro _ hw'
      obtain ⟨u, hw''⟩ := hw'
      subst hw''
      have KU := hide (KA.out.more u.keep)
      have hlt2 := HLT.out
      clear e0 e1 e2 e3 e4 f2 f3 f5 x4 KA HBA
      go_wp2
      go_roundw
      · exact ⟨i + 1, rfl, by omega, KU.out⟩
      · show n - ((i : Int) + 1).toNat < n - (i : Int).toNat
        omega
    · as_aux_lemma =>
      obtain rfl : i = n := by omega
      have AS := hide (allSet_any (RA.out wr HK.out))
      clear hlt hi
      go_wp2_with fail
      go_at_call 48
      refine AS.out.mono ?_
      rintro e w1 ⟨rfl, k1⟩
      have K1 := hide (HK.out.more k1)
      have AD := hide (allDone_any (RA.out w1 K1.out))
      clear AS k1 HK
      go_wp2_with fail
      go_at_call 48
      refine AD.out.mono ?_
      rintro e w2 ⟨rfl, k2⟩
      have K2 := hide (K1.out.more k2)
      have R2 := hide (RA.out w2 K2.out)
      obtain ⟨c', _, _, _, r3, _⟩ := R2.out.cells
      have r3 : w2.cell? ⟨P, 3, none⟩ = some (.int .i64 st) := r3
      clear AD k2 K1
      rcases HMY.out with ⟨h1, h2, h3⟩ | ⟨h1, h2⟩ | ⟨h1, h2, h3, h4⟩ | ⟨h1, h2, h3⟩
      · have h1 : st = 1 := h1
        subst h1
        have OL := hide (outlooks_any R2.out h3)
        rw [h2]
        clear h2 h3 HMY
        go_wp2_with fail
        go_at_call 54
        refine OL.out.mono ?_
        rintro e w3 ⟨rfl, k3⟩
        have K3 := hide (K2.out.more k3)
        clear k3
        go_wp2_with fail
        go_ret
        exact ⟨rfl, K3.out⟩
      · have h1 : st = 2 := h1
        subst h1
        rw [h2]
        clear h2 HMY
        go_wp2_with fail
        go_ret
        exact ⟨rfl, K2.out⟩
      · have h1 : st = 3 := h1
        subst h1
        have OL := hide (outlooks_any R2.out h4)
        rw [h2, h3]
        clear h2 h3 h4 HMY
        go_wp2_with fail
        go_at_call 54
        refine OL.out.mono ?_
        rintro e w3 ⟨rfl, k3⟩
        have K3 := hide (K2.out.more k3)
        clear k3
        go_wp2_with fail
        go_ret
        exact ⟨rfl, K3.out⟩
      · have IS := hide (isStopped_any st w2)
        have h45 : st = 4 ∨ st = 5 := by
          have : stopped st = true := h1
          simpa [stopped] using this
        have g1 : (st == 1) = false := by rcases h45 with h | h <;> subst h <;> rfl
        have g2 : (st == 2) = false := by rcases h45 with h | h <;> subst h <;> rfl
        have g3 : (st == 3) = false := by rcases h45 with h | h <;> subst h <;> rfl
        rw [show (decide (st = 4) || decide (st = 5)) = true from h1] at IS
        rw [h2, h3]
        clear h1 h2 h3 HMY h45
        go_wp2_with fail
        go_at_call 51
        refine IS.out.mono ?_
        rintro e w3 ⟨rfl, rfl⟩
        go_wp2_with fail
        go_ret
        exact ⟨rfl, K2.out⟩
end Rn
end Go.Proofs.Ytiackejbpcjmeaa
