/- Package disk: Spoil. -/
import Derived.Test.YtilpidioengnbaaDSyn
namespace Go.Proofs.Ytilpidioengnbaa
open Go.RowKit Go.Lib

theorem DIn.turned {S : Nat → Prop} {w : World} {p : Nat} {s : St} {bt bo : Nat} {val : Int → Value} (h : DIn S w p s bt bo val) (ok : Ok s) {k : Int} {l : List Nat} (ht : s.there k = some l) {g cap : Nat} (hv : val k = .slice (some ⟨g, 0, none⟩) l.length cap) (i m : Nat) (hi : i < l.length) (hm : m < 256) :
    DIn S (w.setCell ⟨g, i, none⟩ (.int .u8 ((l.getD i 0 ^^^ m : Nat) : Int))) p (s.turn k i m) bt bo val := by
  have hhe : s.held k = some l := by unfold St.held; rw [ht]
  have hg : (val k).ownBlock = some g := by rw [hv]; rfl
  obtain ⟨g1, g2, g3⟩ := h.gne hhe hg
  have kp := keep_cell w g i (.int .u8 ((l.getD i 0 ^^^ m : Nat) : Int))
  have hh : ∀ j, j ≠ k → (s.turn k i m).held j = s.held j := fun j e => by
    unfold St.held St.turn
    simp only [upd_other _ _ e]
  have hk : (s.turn k i m).held k = some (flip l i m) := by
    unfold St.held St.turn
    simp only [upd_same, ht, Option.map_some]
  have hn : ∀ j, (s.turn k i m).held j ≠ none → s.held j ≠ none := fun j e => by
    by_cases e' : j = k
    · subst e'; rw [hhe]; simp
    · rw [hh j e'] at e; exact e
  refine ⟨kp.blk h.blk (fun e => g1 e.symm), ?_, ?_, h.ne, fun j a ha => ?_, fun j j' g a b => h.one j j' g (hn j a) (hn j' b), fun j g a => h.own j g (hn j a), h.sp, h.st, h.so⟩
  · have e : (fun j => ((s.turn k i m).there j).map fun _ => val j) = fun j => (s.there j).map fun _ => val j := by
      funext j
      unfold St.turn
      by_cases e : j = k
      · subst e; simp only [upd_same, ht, Option.map_some]
      · simp only [upd_other _ _ e]
    rw [e]; exact h.mt.keep kp (fun e => g2 e.symm)
  · have e : (fun j => pastOf ((s.turn k i m).there j) ((s.turn k i m).safe j) (val j)) = fun j => pastOf (s.there j) (s.safe j) (val j) := by
      funext j
      unfold St.turn
      by_cases e : j = k
      · subst e
        simp only [upd_same, ht, Option.map_some]
        cases hs : s.safe j with
        | none => rfl
        | some m0 =>
          obtain ⟨p1, p2⟩ := ok.pre j l m0 ht hs
          simp only [Option.map_some]
          unfold pastOf
          by_cases hl : l = m0
          · subst hl; rw [if_pos rfl, if_pos rfl]
          · have hne : ¬ some (flip l i m) = some (flip m0 i m) := by
             intro e
             injection e with e
             have e1 : (flip l i m).length = (flip m0 i m).length := by rw [e]
             rw [flip_length, flip_length] at e1
             rw [← e1, List.take_length] at p2
             exact hl p2
            rw [if_neg hne, if_neg (by intro e; injection e with e; exact hl e)]
            show some (Value.agg #[.bool true, .int .i64 ((flip m0 i m).length : Nat), .slice none 0 0]) = some (.agg #[.bool true, .int .i64 (m0.length : Nat), .slice none 0 0])
            rw [flip_length]
      · simp only [upd_other _ _ e]
    rw [e]; exact h.mo.keep kp (fun e => g3 e.symm)
  · by_cases e : j = k
    · subst e
      rw [hk] at ha
      injection ha with ha; subst ha
      have := h.row j l hhe
      rw [hv] at this ⊢
      exact this.turn i m hi hm
    · rw [hh j e] at ha
      exact (h.row j a ha).keep kp fun g' hg' e' => e (h.one j k g' (by rw [ha]; simp) (by rw [hhe]; simp) hg' (by rw [e']; exact hg))

set_option maxRecDepth 10000 in
set_option maxHeartbeats 1000000 in
theorem spoil_ok (S : Nat → Prop) (w : World) (p : Nat) (s : St) (bt bo : Nat) (val : Int → Value) (k : Int) (i m : Nat) (l : List Nat) (h : DIn S w p s bt bo val) (ok : Ok s) (h1 : -9223372036854775808 ≤ k) (h2 : k ≤ 9223372036854775807)
    (hd : s.down = false) (ht : s.there k = some l) (hi : i < l.length) (hm : m < 256) :
    Calls Try.prog 33 #[.pointer (some ⟨p, 0, none⟩), .int .i64 k, .int .i64 i, .int .u8 m] w (Did S w p (0, s.turn k i m)) := by
  have HF := hide (find_any S w p s bt bo val k h h1 h2)
  have hfv : foundV s val k = val k := by simp [foundV, hd, ht]
  have hfc : s.find k = 0 := by simp [St.find, hd, ht]
  have hhe : s.held k = some l := by unfold St.held; rw [ht]
  have hrow := h.row k l hhe
  have hln := ok.len k l hhe
  rcases hrow.parts with ⟨_, e⟩ | ⟨g, cap, cur, hv, hg, hc1, hc2, hc3, hc4⟩
  · subst e; exact absurd hi (by simp)
  have HD := hide (h.turned ok ht hv i m hi hm)
  have hcell : w.cell? ⟨g, i, none⟩ = some (.int .u8 ((l.getD i 0 : Nat) : Int)) := by
    rw [hv] at hrow
    obtain ⟨a, c, e, hrd, _⟩ := hrow.rd (by omega)
    injection e with e _ _
    subst e
    have := hrd.cells i _ (B8_at l i hi)
    rw [Addr.add_lit, Nat.zero_add] at this
    exact this
  have hfz : w.frozen? ⟨g, i, none⟩ = false := frozen_blk hg i
  have hb : l.getD i 0 < 256 := by
    have : l.getD i 0 = l[i] := by simp [List.getD, hi]
    rw [this]
    exact hrow.2 _ (List.getElem_mem hi)
  rw [hfv, hfc, hv] at HF
  have HS : Hid (S g) := h.own k g (by rw [hhe]; simp) (by rw [hv]; rfl)
  have hx := xor_u8 hb hm
  obtain ⟨x, ex⟩ : ∃ x, x = l.getD i 0 := ⟨_, rfl⟩
  rw [← ex] at HD hcell hb hx
  have hi1 : ¬ ((i : Int) < 0) := by omega
  have hi2 : ¬ ((i : Int) ≥ (l.length : Int)) := by omega
  clear hfv hfc hhe hrow hln hg hc1 hc2 hc3 hc4 h ok hd ht ex
  go_enter Try.func33, Try.ntmps33
  go_wp2_with (go_at_call 49; refine HF.out.mono ?_; rintro e w1 ⟨rfl, rfl⟩)
  go_ret
  rw [u8_xor_nat x m hb hm]
  exact ⟨rfl, ⟨_, _, _, HD.out⟩, (keep_cell _ _ _ _).mono fun i e => e ▸ HS.out⟩

set_option maxRecDepth 10000 in
theorem spoil_no (S : Nat → Prop) (w : World) (p : Nat) (s : St) (bt bo : Nat) (val : Int → Value) (k i m : Int) (h : DIn S w p s bt bo val) (h1 : -9223372036854775808 ≤ k) (h2 : k ≤ 9223372036854775807)
    (c : Int) (hc : s.find k ≠ 0 ∧ c = s.find k ∨ s.find k = 0 ∧ (i < 0 ∨ ((s.bytes k).length : Int) ≤ i) ∧ c = 55) :
    Calls Try.prog 33 #[.pointer (some ⟨p, 0, none⟩), .int .i64 k, .int .i64 i, .int .u8 m] w (Did S w p (c, s)) := by
  have HF := hide (find_any S w p s bt bo val k h h1 h2)
  have H := hide h
  rcases hc with ⟨h0, rfl⟩ | ⟨h0, hi, rfl⟩
  · generalize foundV s val k = fv at HF
    generalize s.find k = fc at HF h0 ⊢
    clear h
    go_enter Try.func33, Try.ntmps33
    go_wp2_with (go_at_call 49; refine HF.out.mono ?_; rintro e w1 ⟨rfl, rfl⟩)
    go_ret
    exact ⟨rfl, ⟨_, _, _, H.out⟩, Keep.refl _ _⟩
  · have hd : s.down = false := by
      cases hd : s.down with
      | false => rfl
      | true => rw [St.find, if_pos hd] at h0; cases h0
    cases ht : s.there k with
    | none => rw [St.find, if_neg (by rw [hd]; decide), if_pos ht] at h0; cases h0
    | some l =>
      have hfv : foundV s val k = val k := by simp [foundV, hd, ht]
      have hhe : s.held k = some l := by unfold St.held; rw [ht]
      obtain ⟨av, cv, hv⟩ := ownsRow_shape (h.row k l hhe).1
      rw [hfv, h0, hv] at HF
      rw [St.bytes, ht, Option.getD_some] at hi
      clear h h0 hd ht hfv hhe hv
      by_cases hn : i < 0
      · clear hi
        go_enter Try.func33, Try.ntmps33
        go_wp2_with (go_at_call 49; refine HF.out.mono ?_; rintro e w1 ⟨rfl, rfl⟩)
        go_ret
        exact ⟨rfl, ⟨_, _, _, H.out⟩, Keep.refl _ _⟩
      · have hi2 : i ≥ (l.length : Int) := by omega
        clear hi
        go_enter Try.func33, Try.ntmps33
        go_wp2_with (go_at_call 49; refine HF.out.mono ?_; rintro e w1 ⟨rfl, rfl⟩)
        go_ret
        exact ⟨rfl, ⟨_, _, _, H.out⟩, Keep.refl _ _⟩

theorem spoil_any (S : Nat → Prop) (w : World) (p : Nat) (s : St) (k i : Int) (m : Nat) (h : DAt S w p s) (ok : Ok s) (h1 : -9223372036854775808 ≤ k) (h2 : k ≤ 9223372036854775807) (hm : m < 256) :
    Calls Try.prog 33 #[.pointer (some ⟨p, 0, none⟩), .int .i64 k, .int .i64 i, .int .u8 m] w (Did S w p (s.spoil k i m)) := by
  obtain ⟨bt, bo, val, h⟩ := h
  unfold St.spoil
  by_cases hd : s.down = true
  · rw [if_pos hd]
    exact spoil_no S w p s bt bo val k i m h h1 h2 56 (.inl (by simp [St.find, hd]))
  have hd' : s.down = false := by simpa using hd
  rw [if_neg hd]
  cases ht : s.there k with
  | none => exact spoil_no S w p s bt bo val k i m h h1 h2 53 (.inl (by simp [St.find, hd', ht]))
  | some l =>
    show Calls _ _ _ _ (Did S w p (if i < 0 ∨ (l.length : Int) ≤ i then (55, s) else (0, s.turn k i.toNat m)))
    by_cases hi : i < 0 ∨ (l.length : Int) ≤ i
    · rw [if_pos hi]
      exact spoil_no S w p s bt bo val k i m h h1 h2 55 (.inr ⟨by simp [St.find, hd', ht], by rw [St.bytes, ht]; exact hi, rfl⟩)
    · rw [if_neg hi]
      have := spoil_ok S w p s bt bo val k i.toNat m l h ok h1 h2 hd' ht (by omega) hm
      rw [show ((i.toNat : Nat) : Int) = i by omega] at this
      exact this

end Go.Proofs.Ytilpidioengnbaa
