/- Package disk: Sync, Read, Spoil. -/
import Derived.Test.YtilpidioengnbaaDRms
namespace Go.Proofs.Ytilpidioengnbaa
open Go.RowKit Go.Lib

theorem DIn.synced {S : Nat → Prop} {w w' : World} {p : Nat} {s : St} {bt bo : Nat} {val : Int → Value} (h : DIn S w p s bt bo val) (hk : Keep (fun i => i = bo) w w') (hm : MapIs w' bo (fun _ => none)) : DIn S w' p { s with safe := s.there } bt bo val := by
  have hh : ∀ k l, ({ s with safe := s.there } : St).held k = some l → s.held k = some l := fun k l e => by
    unfold St.held at e ⊢
    cases ht : s.there k with
    | none => simp only [ht] at e; cases e
    | some m => simp only [ht] at e; exact e
  have hn : ∀ k, ({ s with safe := s.there } : St).held k ≠ none → s.held k ≠ none := fun k e => by
    obtain ⟨l, hl⟩ := Option.ne_none_iff_exists'.1 e
    rw [hh k l hl]; simp
  refine ⟨hk.blk h.blk h.po, h.mt.keep hk h.ne, ?_, h.ne, fun k l hl => ?_, fun k k' g a b => h.one k k' g (hn k a) (hn k' b), fun k g a => h.own k g (hn k a), h.sp, h.st, h.so⟩
  · have e : (fun k => pastOf (s.there k) (s.there k) (val k)) = fun _ => none := by funext k; exact pastOf_none
    show MapIs w' bo (fun k => pastOf (s.there k) (s.there k) (val k))
    rw [e]; exact hm
  · exact (h.row k l (hh k l hl)).keep hk fun g hg e => (h.gne (hh k l hl) hg).2.2 e

theorem sync_eq {s : St} (hd : s.down = false) : (s.spend.1 = 0 → s.sync = (0, { s.spend.2 with safe := s.there }) ∧ s.spend.2.there = s.there) ∧ (¬ s.spend.1 = 0 → s.sync = s.spend) := by
  obtain ⟨c, u, t, sf, lf, d⟩ := s
  simp only at hd
  subst hd
  cases lf with
  | none => exact ⟨fun _ => ⟨rfl, rfl⟩, fun h => absurd rfl h⟩
  | some n =>
    cases n with
    | zero => exact ⟨fun h => (by cases h), fun _ => rfl⟩
    | succ n => exact ⟨fun _ => ⟨rfl, rfl⟩, fun h => absurd rfl h⟩

set_option maxRecDepth 10000 in
theorem sync_any (S : Nat → Prop) (w : World) (p : Nat) (s : St) (h : DAt S w p s) (ok : Ok s) :
    Calls Try.prog 26 #[.pointer (some ⟨p, 0, none⟩)] w (Did S w p s.sync) := by
  obtain ⟨bt, bo, val, h⟩ := h
  have H := hide h
  have c6 := h.c6
  have HSp := hide (spend_any S w p s bt bo val h ok.left)
  cases hd : s.down with
  | true =>
    rw [hd] at c6
    have HD := hide hd
    clear h ok hd
    go_enter Try.func26, Try.ntmps26
    go_wp2
    go_ret
    have e1 : s.sync = (56, s) := by unfold St.sync; rw [if_pos HD.out]
    exact ⟨by rw [e1]; rfl, by rw [e1]; exact ⟨_, _, _, H.out⟩, Keep.refl _ _⟩
  | false =>
    rw [hd] at c6
    have HD := hide hd
    by_cases hz : s.spend.1 = 0
    · have HZ : Hid (s.sync = (0, { s.spend.2 with safe := s.there }) ∧ s.spend.2.there = s.there) := (sync_eq hd).1 hz
      clear h ok hd
      go_enter Try.func26, Try.ntmps26
      go_wp2_with (first
        | (go_at_call 48
           refine HSp.out.mono ?_
           rintro e w1 ⟨rfl, h1, k1⟩
           rw [hz]
           have H1 := hide h1
           have K1 := hide k1
           have c3 := h1.c3
           obtain ⟨w2, hcl, m2, k2, _⟩ := h1.mo.clear mapO 0
           have M2 := hide m2
           have K2 := hide k2
           clear h1 k1 m2 k2))
      go_ret
      have e2 := H1.out.synced K2.out M2.out
      rw [HZ.out.2] at e2
      exact ⟨by rw [HZ.out.1]; rfl, by rw [HZ.out.1, HZ.out.2]; exact ⟨_, _, _, e2⟩, (K1.out.mono fun i e => e ▸ H.out.sp).more (K2.out.mono fun i e => e ▸ H.out.so)⟩
    · have HZ : Hid (s.sync = s.spend) := (sync_eq hd).2 hz
      clear h ok hd
      go_enter Try.func26, Try.ntmps26
      go_wp2_with (first
        | (go_at_call 48
           refine HSp.out.mono ?_
           rintro e w1 ⟨rfl, h1, k1⟩
           have H1 := hide h1
           have K1 := hide k1
           clear h1 k1))
      go_ret
      exact ⟨by rw [HZ.out]; rfl, by rw [HZ.out]; exact ⟨_, _, _, H1.out⟩, K1.out.mono fun i e => e ▸ H.out.sp⟩

/-- what Read answers -/
def ReadAs (w : World) (s : St) (k : Int) (e : Ending) (w' : World) : Prop :=
  ∃ v, e = .returned (.tuple #[v, .int .i64 (s.find k)]) ∧ Row w' v (if s.down then [] else s.bytes k) ∧ Keep (fun _ => False) w w' ∧ ∀ g, v.ownBlock = some g → w.heap.size ≤ g

set_option maxRecDepth 10000 in
theorem read_any (S : Nat → Prop) (w : World) (p : Nat) (s : St) (k : Int) (h : DAt S w p s) (ok : Ok s) (h1 : -9223372036854775808 ≤ k) (h2 : k ≤ 9223372036854775807) :
    Calls Try.prog 27 #[.pointer (some ⟨p, 0, none⟩), .int .i64 k] w (ReadAs w s k) := by
  obtain ⟨bt, bo, val, h⟩ := h
  have HF := hide (find_any S w p s bt bo val k h h1 h2)
  by_cases h0 : s.find k = 0
  · have hd : s.down = false := by
      cases hd : s.down with
      | false => rfl
      | true => rw [St.find, if_pos hd] at h0; cases h0
    cases ht : s.there k with
    | none => rw [St.find, if_neg (by rw [hd]; decide), if_pos ht] at h0; cases h0
    | some l =>
      have hfv : foundV s val k = val k := by simp [foundV, hd, ht]
      have hhe : s.held k = some l := by unfold St.held; rw [ht]
      have hln := ok.len k l hhe
      obtain ⟨a, c, hv, hrd, _, hlc, _⟩ := (h.row k l hhe).rd (by omega)
      rw [hfv, h0, hv] at HF
      have HL := hide (lay_any (.slice none 0 0) [] l a l.length c w (row_nil w) hrd (by simp; omega))
      have HB : Hid ((if s.down then [] else s.bytes k) = [] ++ l) := by show _ = _; rw [if_neg (by rw [hd]; decide), St.bytes, ht]; rfl
      have H0 := hide h0
      clear h ok h0 hd ht hfv hhe hv hrd
      go_enter Try.func27, Try.ntmps27
      go_wp2_with (first
        | (go_at_call 49; refine HF.out.mono ?_; rintro e w1 ⟨rfl, rfl⟩)
        | (go_at_call 29; refine HL.out.mono ?_; rintro e w1 ⟨v', rfl, hrow, hkp, hnew⟩))
      go_ret2
      exact ⟨v', by rw [H0.out]; rfl, by rw [HB.out]; exact hrow, (hkp.mono fun i e => by cases e), fun g e => hnew.elim (fun e' => by rw [e] at e'; cases e') fun e' => e' g e⟩
  · have HB : Hid ((if s.down then [] else s.bytes k) = []) := by
      show _ = _
      unfold St.find at h0
      split
      · rfl
      · rename_i hd
        rw [if_neg hd] at h0
        split at h0
        · rename_i ht; rw [St.bytes, ht]; rfl
        · exact absurd rfl h0
    generalize foundV s val k = fv at HF
    have HFC : Hid (∃ fc, fc = s.find k) := ⟨_, rfl⟩
    obtain ⟨fc, hfc⟩ := HFC.out
    have HC := hide hfc
    rw [← hfc] at HF h0
    clear h ok hfc
    go_enter Try.func27, Try.ntmps27
    go_wp2_with (go_at_call 49; refine HF.out.mono ?_; rintro e w1 ⟨rfl, rfl⟩)
    go_ret2
    exact ⟨_, by rw [← HC.out]; rfl, by rw [HB.out]; exact row_nil _, Keep.refl _ _, fun g e => by cases e⟩

theorem xor_u8 {a b : Nat} (ha : a < 256) (hb : b < 256) : a ^^^ b < 256 := Nat.xor_lt_two_pow (n := 8) ha hb

/-- a byte of a row turned -/
theorem Row.turn {w : World} {g cap : Nat} {l : List Nat} (h : Row w (.slice (some ⟨g, 0, none⟩) l.length cap) l) (i m : Nat) (hi : i < l.length) (hm : m < 256) :
    Row (w.setCell ⟨g, i, none⟩ (.int .u8 ((l.getD i 0 ^^^ m : Nat) : Int))) (.slice (some ⟨g, 0, none⟩) l.length cap) (flip l i m) := by
  rcases h.parts with ⟨e, _⟩ | ⟨g', cap', cur, e, h1, h2, h3, h4, h5⟩
  · cases e
  injection e with e1 _ e3
  injection e1 with e1
  injection e1 with e1
  subst e1 e3
  have h6 := set_blk h1 i (.int .u8 ((l.getD i 0 ^^^ m : Nat) : Int))
  have hb : l.getD i 0 < 256 := by
    have : l.getD i 0 = l[i] := by simp [List.getD, hi]
    rw [this]
    exact h.2 _ (List.getElem_mem hi)
  have := row_mk (l := flip l i m) (cap := cap) (cur := cur.set i (.int .u8 ((l.getD i 0 ^^^ m : Nat) : Int))) (by rw [h6]; simp) (by rw [flip_length]; exact h2) h3 (by simpa using h4) (by
    rw [flip_length, List.take_set, h5]
    unfold flip B8
    rw [List.map_set]) (fun d hd => by
    unfold flip at hd
    rcases List.mem_or_eq_of_mem_set hd with hd | rfl
    · exact h.2 d hd
    · exact xor_u8 hb hm)
  rw [flip_length] at this
  exact this

end Go.Proofs.Ytilpidioengnbaa
