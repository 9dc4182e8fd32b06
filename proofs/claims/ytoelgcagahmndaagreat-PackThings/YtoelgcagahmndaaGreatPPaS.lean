import Derived.Test.YtoelgcagahmndaaGreatPToA
import Derived.Test.YtoelgcagahmndaaGreatPWrM
import Derived.Test.YtoelgcagahmndaaGreatPWsM
/- PackParts: the mathematics: what a step lays, wherever it is laid; what is taken again. -/
namespace Go.Proofs.YtoelgcagahmndaaGreat
namespace Wm
open Go.RowKit Go.Deep

/-- what is laid is the same wherever there is room -/
def ULo (f : K.WS → K.WS) : Option (List Nat) → Prop
  | none => ∀ s : K.WS, s.fault = 0 → (f s).fault ≠ 0
  | some bs => ∀ s : K.WS, s.fault = 0 → s.laid.length ≤ s.most → (s.laid.length + bs.length ≤ s.most → f s = { s with laid := s.laid ++ bs }) ∧ (¬ s.laid.length + bs.length ≤ s.most → (f s).fault ≠ 0)
def UL (f : K.WS → K.WS) : Prop := ∃ o, ULo f o
theorem ul_lay (bs : List Nat) : UL (fun s => s.lay bs) := ⟨some bs, fun s hs _ => ⟨fun h => by show K.WS.lay s bs = _; unfold K.WS.lay; rw [if_pos h], fun h => by show (K.WS.lay s bs).fault ≠ 0; unfold K.WS.lay; rw [if_neg h]; exact fail_fault (by decide)⟩⟩
theorem ul_fail (e : Nat) (he : e ≠ 0) : UL (fun s => s.fail e) := ⟨none, fun _ _ => fail_fault he⟩
theorem ul_num (le mo x : Int) : UL (numW le mo x) := by
  by_cases h : x < le ∨ x < 0 ∨ mo < x
  · have : numW le mo x = fun s => s.fail 22 := by funext s; unfold numW; rw [if_pos h]
    rw [this]; exact ul_fail _ (by decide)
  · have : numW le mo x = fun s => s.lay (K.num x.toNat) := by funext s; unfold numW; rw [if_neg h]
    rw [this]; exact ul_lay _
theorem ul_text (mo : Int) (bs : List Nat) : UL (textW mo bs) := by
  by_cases h : mo < (bs.length : Int)
  · have : textW mo bs = fun s => s.fail 20 := by funext s; unfold textW; rw [if_pos h]
    rw [this]; exact ul_fail _ (by decide)
  · have : textW mo bs = fun s => s.lay (K.num bs.length ++ bs) := by funext s; unfold textW; rw [if_neg h]
    rw [this]; exact ul_lay _
theorem ul_word (X : Nat) : UL (wordW X) := ul_lay _
theorem ul_flag (b : Bool) : UL (flagW b) := ul_lay _
theorem ul_head (mo : Int) (n : Nat) : UL (headW mo n) := by
  by_cases h : mo < (n : Int) ∨ 16777216 < n
  · have : headW mo n = fun s => s.fail 20 := by funext s; unfold headW; rw [if_pos h]
    rw [this]; exact ul_fail _ (by decide)
  · have : headW mo n = fun s => s.lay (K.num n) := by funext s; unfold headW; rw [if_neg h]
    rw [this]; exact ul_lay _
theorem ul_seq {f : K.WS → K.WS} {fs : List (K.WS → K.WS)} (hf : UL f) (hg : UL (putsW fs)) : UL (fun s => putsW fs (putW f s)) := by
  obtain ⟨o1, h1⟩ := hf
  obtain ⟨o2, h2⟩ := hg
  have hp : ∀ s : K.WS, s.fault = 0 → putW f s = f s := fun s hs => if_pos hs
  cases o1 with
  | none =>
    refine ⟨none, fun s hs => ?_⟩
    show (putsW fs (putW f s)).fault ≠ 0
    have := h1 s hs
    rw [hp s hs, puts_fault fs _ this]
    exact this
  | some b1 =>
    cases o2 with
    | none =>
      refine ⟨none, fun s hs => ?_⟩
      show (putsW fs (putW f s)).fault ≠ 0
      rw [hp s hs]
      by_cases hz : (f s).fault = 0
      · exact h2 _ hz
      · rw [puts_fault fs _ hz]; exact hz
    | some b2 =>
      refine ⟨some (b1 ++ b2), fun s hs hl => ?_⟩
      have k := h1 s hs hl
      refine ⟨fun h => ?_, fun h => ?_⟩
      · rw [List.length_append] at h
        have e := k.1 (by omega)
        show putsW fs (putW f s) = _
        rw [hp s hs, e]
        have k2 := h2 { s with laid := s.laid ++ b1 } hs (by show (s.laid ++ b1).length ≤ s.most; rw [List.length_append]; omega)
        rw [k2.1 (by show (s.laid ++ b1).length + b2.length ≤ s.most; rw [List.length_append]; omega)]
        simp only [List.append_assoc]
      · rw [List.length_append] at h
        show (putsW fs (putW f s)).fault ≠ 0
        rw [hp s hs]
        by_cases h3 : s.laid.length + b1.length ≤ s.most
        · rw [k.1 h3]
          have k2 := h2 { s with laid := s.laid ++ b1 } hs (by show (s.laid ++ b1).length ≤ s.most; rw [List.length_append]; omega)
          exact k2.2 (by show ¬ (s.laid ++ b1).length + b2.length ≤ s.most; rw [List.length_append]; omega)
        · have := k.2 h3
          rw [puts_fault fs _ this]
          exact this
theorem ul_puts : ∀ (fs : List (K.WS → K.WS)), (∀ f ∈ fs, UL f) → UL (putsW fs)
  | [], _ => ⟨some [], fun s _ _ => ⟨fun _ => by show s = _; rw [List.append_nil], fun h => absurd h (by simpa using ‹s.laid.length ≤ s.most›)⟩⟩
  | f :: fs, h => by
    have := ul_seq (h f (by simp)) (ul_puts fs fun g hg => h g (by simp [hg]))
    exact this
theorem ul_congr {f g : K.WS → K.WS} (h : UL f) (he : ∀ s : K.WS, s.fault = 0 → g s = f s) : UL g := by
  obtain ⟨o, h1⟩ := h
  refine ⟨o, ?_⟩
  cases o with
  | none => exact fun s hs => by rw [he s hs]; exact h1 s hs
  | some bs => exact fun s hs hl => by rw [he s hs]; exact h1 s hs hl
theorem ul_list (mo : Int) (fs : List (K.WS → K.WS)) (h : ∀ f ∈ fs, UL f) (hg : ∀ f ∈ fs, Grow f) : UL (listW (min mo 16777216) fs) :=
  ul_congr (ul_seq (ul_head mo fs.length) (ul_puts fs h)) fun s hs => by
    have := list_puts mo fs hg s
    unfold putW at this
    rw [if_pos hs] at this
    rw [this]
    rfl
theorem ul_put {f : K.WS → K.WS} (h : UL f) : UL (putW f) := ul_congr h fun _ hs => if_pos hs
/-- what is laid of a step -/
theorem eff_ul (q : Sp) : UL q.eff := by
  unfold Sp.eff
  have hlt := pk_lt q.wh
  have hk : pk q.wh = 0 ∨ pk q.wh = 1 ∨ pk q.wh = 2 ∨ pk q.wh = 3 ∨ pk q.wh = 4 ∨ pk q.wh = 5 ∨ pk q.wh = 6 ∨ pk q.wh = 7 ∨ pk q.wh = 8 ∨ pk q.wh = 9 ∨ pk q.wh = 10 := by omega
  rcases hk with e | e | e | e | e | e | e | e | e | e | e <;> (rw [e])
  · exact ul_put (ul_num _ _ _)
  · exact ul_put (ul_word _)
  · exact ul_put (ul_flag _)
  · exact ul_put (ul_text _ _)
  · exact ul_put (ul_text _ _)
  · exact ul_put (ul_list _ _ (fun f hf => by obtain ⟨y, _, rfl⟩ := List.mem_map.1 hf; exact ul_num _ _ _) (fun f hf => by obtain ⟨y, _, rfl⟩ := List.mem_map.1 hf; exact grow_num _ _ _))
  · exact ul_put (ul_list _ _ (fun f hf => by obtain ⟨y, _, rfl⟩ := List.mem_map.1 hf; exact ul_text _ _) (fun f hf => by obtain ⟨y, _, rfl⟩ := List.mem_map.1 hf; exact grow_text _ _))
  · exact ul_put (ul_list _ _ (fun f hf => by obtain ⟨y, _, rfl⟩ := List.mem_map.1 hf; exact ul_list _ _ (fun f hf => by obtain ⟨z, _, rfl⟩ := List.mem_map.1 hf; exact ul_num _ _ _) (fun f hf => by obtain ⟨z, _, rfl⟩ := List.mem_map.1 hf; exact grow_num _ _ _)) (fun f hf => by obtain ⟨y, _, rfl⟩ := List.mem_map.1 hf; exact grow_list _ _ fun f hf => by obtain ⟨z, _, rfl⟩ := List.mem_map.1 hf; exact grow_num _ _ _))
  · exact ul_put (ul_list _ _ (fun f hf => by obtain ⟨y, _, rfl⟩ := List.mem_map.1 hf; exact ul_word _) (fun f hf => by obtain ⟨y, _, rfl⟩ := List.mem_map.1 hf; exact grow_word _))
  · exact ul_fail 22 (by decide)
  · exact ul_puts [] (fun f hf => by cases hf)
theorem listVal_map {α β : Type} (mo : Int) (g : K.RS → K.RS) (val : K.RS → α) (φ : α → β) (s : K.RS) : listVal mo g (fun s => φ (val s)) s = (listVal mo g val s).map φ := by
  unfold listVal
  split
  · unfold valsOf; rw [List.map_map]; rfl
  · rfl
/-- what is taken again, whatever stands behind -/
def Again (q : Sp) (bs : List Nat) : Prop := ∃ T, ∀ (s : K.RS) (tail : List Nat), s.fault = 0 → (∀ d ∈ s.data, d < 256) → rest s = bs ++ tail → q.rd s = s.go bs.length ∧ q.td s = T
theorem again_of {α : Type} {g : K.RS → K.RS} {val : K.RS → α} {f : α → K.WS → K.WS} (h : WR g val f) {q : Sp} (x : α) (he : ∀ s, q.eff s = putW (f x) s) (hrd : ∀ s, q.rd s = takeR g s) (T : Td) (htd : ∀ s, (takeR g s).fault = 0 → (∀ d ∈ s.data, d < 256) → val s = x → q.td s = T) (hz : (q.eff ⟨[], 16777216, 0⟩).fault = 0) :
    ∃ bs, q.eff ⟨[], 16777216, 0⟩ = ⟨bs, 16777216, 0⟩ ∧ Again q bs := by
  have e0 : q.eff ⟨[], 16777216, 0⟩ = f x ⟨[], 16777216, 0⟩ := by rw [he]; rfl
  rw [e0] at hz ⊢
  obtain ⟨bs, h1, h2, h3, h4⟩ := h x ⟨[], 16777216, 0⟩ rfl (Nat.zero_le _) (Nat.le_refl _) hz
  refine ⟨bs, h3, T, fun s tail hs hb hr => ?_⟩
  obtain ⟨h5, h6⟩ := h4 s tail hs hr
  have ht : takeR g s = s.go bs.length := by unfold takeR; rw [if_pos hs]; exact h5
  exact ⟨by rw [hrd, ht], htd s (by rw [ht]; exact hs) hb h6⟩
theorem sb_map_str (T : List ByteArray) : (T.map sb).map str = T := by
  rw [List.map_map]
  conv => rhs; rw [← List.map_id T]
  exact List.map_congr_left fun t _ => str_sb t
theorem step_again (q : Sp) (hmo : q.mo ≤ 9223372036854775807) (hnn : q.nn ≤ 9223372036854775807) (hX : q.X < 18446744073709551616) (hz : (q.eff ⟨[], 16777216, 0⟩).fault = 0) : ∃ bs, q.eff ⟨[], 16777216, 0⟩ = ⟨bs, 16777216, 0⟩ ∧ Again q bs := by
  have hlt := pk_lt q.wh
  have hk : pk q.wh = 0 ∨ pk q.wh = 1 ∨ pk q.wh = 2 ∨ pk q.wh = 3 ∨ pk q.wh = 4 ∨ pk q.wh = 5 ∨ pk q.wh = 6 ∨ pk q.wh = 7 ∨ pk q.wh = 8 ∨ pk q.wh = 9 ∨ pk q.wh = 10 := by omega
  rcases hk with e | e | e | e | e | e | e | e | e | e | e
  · exact again_of (wr_num q.le q.mo hmo) (q := q) q.nn (fun s => by unfold Sp.eff; rw [e]; rfl) (fun s => by unfold Sp.rd; rw [e]; rfl) { td0 with N := q.nn } (fun s h _ hv => by unfold Sp.td; rw [e]; show ({ td0 with N := okR _ s _ _ } : Td) = _; rw [okR_yes h, hv]) hz
  · exact again_of wr_word (q := q) ⟨q.X, hX⟩ (fun s => by unfold Sp.eff; rw [e]; rfl) (fun s => by unfold Sp.rd; rw [e]; rfl) { td0 with W := q.X } (fun s h hb hv => by
      have h1 := wordV_lt hb
      have h2 := congrArg Fin.val hv
      simp only [Fin.ofNat] at h2
      rw [Nat.mod_eq_of_lt h1] at h2
      unfold Sp.td; rw [e]; show ({ td0 with W := okR _ s _ _ } : Td) = _; rw [okR_yes h, h2]) hz
  · exact again_of wr_flag (q := q) q.F (fun s => by unfold Sp.eff; rw [e]; rfl) (fun s => by unfold Sp.rd; rw [e]; rfl) { td0 with F := q.F } (fun s h _ hv => by unfold Sp.td; rw [e]; show ({ td0 with F := okR _ s _ _ } : Td) = _; rw [okR_yes h, hv]) hz
  · exact again_of (wr_text q.mo) (q := q) (sb q.st) (fun s => by unfold Sp.eff; rw [e]; rfl) (fun s => by unfold Sp.rd; rw [e]; rfl) { td0 with S := str (sb q.st) } (fun s h _ hv => by unfold Sp.td; rw [e]; show ({ td0 with S := okR _ s _ _ } : Td) = _; rw [okR_yes h, hv]) hz
  · exact again_of (wr_text q.mo) (q := q) q.lB (fun s => by unfold Sp.eff; rw [e]; rfl) (fun s => by unfold Sp.rd; rw [e]; rfl) { td0 with S := str q.lB } (fun s h _ hv => by unfold Sp.td; rw [e]; show ({ td0 with S := str (okR _ s _ _) } : Td) = _; rw [okR_yes h, hv]) hz
  · exact again_of (wr_list (wr_num q.le 9223372036854775807 (by decide)) (min q.mo 16777216)) (q := q) q.L (fun s => by unfold Sp.eff; rw [e]; rfl) (fun s => by unfold Sp.rd; rw [e]; rfl) { td0 with L := q.L } (fun s h _ hv => by unfold Sp.td; rw [e]; show ({ td0 with L := okR _ s _ _ } : Td) = _; rw [okR_yes h, hv]) hz
  · exact again_of (wr_list (wr_text q.nn) (min q.mo 16777216)) (q := q) (q.T.map sb) (fun s => by unfold Sp.eff; rw [e]; show putW (listW _ _) s = putW (listW _ _) s; rw [List.map_map]; rfl) (fun s => by unfold Sp.rd; rw [e]; rfl) { td0 with T := q.T } (fun s h _ hv => by
      unfold Sp.td; rw [e]; show ({ td0 with T := okR _ s (listVal _ _ (fun s => str (rowV q.nn s)) s) _ } : Td) = _; rw [okR_yes h, listVal_map _ _ (fun s => rowV q.nn s) str, hv, sb_map_str]) hz
  · exact again_of (wr_list (wr_list (wr_num 0 q.nn hnn) (min q.le 16777216)) (min q.mo 16777216)) (q := q) q.ls (fun s => by unfold Sp.eff; rw [e]; rfl) (fun s => by unfold Sp.rd; rw [e]; rfl) { td0 with D := q.ls } (fun s h _ hv => by unfold Sp.td; rw [e]; show ({ td0 with D := okR _ s _ _ } : Td) = _; rw [okR_yes h, hv]) hz
  · refine again_of (wr_list wr_word (min q.mo 16777216)) (q := q) (q.L.map fun y => (⟨wd y, wd_lt y⟩ : W64)) (fun s => by unfold Sp.eff; rw [e]; show putW (listW _ _) s = putW (listW _ _) s; rw [List.map_map]; rfl) (fun s => by unfold Sp.rd; rw [e]; rfl) { td0 with L := (q.L.map wd).map sg } (fun s h hb hv => ?_) hz
    have h1 : (listVal (min q.mo 16777216) wordR wordV s) = q.L.map wd := by
      have h2 := congrArg (List.map Fin.val) hv
      rw [← listVal_map, List.map_map] at h2
      have h3 : listVal (min q.mo 16777216) wordR (fun s => (Fin.ofNat 18446744073709551616 (wordV s) : W64).val) s = listVal (min q.mo 16777216) wordR wordV s := by
        unfold listVal
        split
        · unfold valsOf
          refine List.map_congr_left fun i _ => ?_
          show wordV _ % 18446744073709551616 = _
          exact Nat.mod_eq_of_lt (wordV_lt (by rw [kp_all kp_word]; exact hb))
        · rfl
      rw [h3] at h2
      exact h2
    unfold Sp.td; rw [e]; show ({ td0 with L := List.map sg (okR _ s _ _) } : Td) = _; rw [okR_yes h, h1]
  · exfalso
    have : q.eff ⟨[], 16777216, 0⟩ = K.WS.fail ⟨[], 16777216, 0⟩ 22 := by unfold Sp.eff; rw [e]; rfl
    rw [this] at hz
    exact fail_fault (by decide) hz
  · refine ⟨[], by unfold Sp.eff; rw [e]; rfl, td0, fun s tail _ _ _ => ⟨by unfold Sp.rd; rw [e]; rfl, by unfold Sp.td; rw [e]; rfl⟩⟩
end Wm
end Go.Proofs.YtoelgcagahmndaaGreat

/- PackParts: what is laid by all steps; a writer and a row of bytes in memory. -/
namespace Go.Proofs.YtoelgcagahmndaaGreat
namespace Wm
open Go.RowKit Go.Deep

def s00 : K.WS := ⟨[], 16777216, 0⟩
/-- all that was laid -/
def acc1 (L : List Nat) (q : Sp) : List Nat := if (q.eff s00).fault = 0 ∧ L.length + (q.eff s00).laid.length ≤ 16777216 then L ++ (q.eff s00).laid else L
def acc (qs : List Sp) : List Nat := qs.foldl acc1 []
theorem acc_succ {qs : List Sp} {i : Nat} {q : Sp} (h : qs[i]? = some q) : acc (qs.take (i + 1)) = acc1 (acc (qs.take i)) q := by
  unfold acc
  rw [List.take_add_one, h, Option.toList_some, List.foldl_append]
  rfl
theorem acc1_le {L : List Nat} (q : Sp) (h : L.length ≤ 16777216) : (acc1 L q).length ≤ 16777216 := by
  unfold acc1
  split
  · rename_i h1; rw [List.length_append]; exact h1.2
  · exact h
theorem fold_le (qs : List Sp) : ∀ L : List Nat, L.length ≤ 16777216 → (qs.foldl acc1 L).length ≤ 16777216 := by
  induction qs with
  | nil => exact fun L h => h
  | cons q qs ih => exact fun L h => ih _ (acc1_le q h)
theorem acc_le (qs : List Sp) : (acc qs).length ≤ 16777216 := fold_le qs [] (Nat.zero_le _)
theorem fold_pre (qs : List Sp) : ∀ L : List Nat, ∃ t, qs.foldl acc1 L = L ++ t := by
  induction qs with
  | nil => exact fun L => ⟨[], by simp⟩
  | cons q qs ih =>
    intro L
    obtain ⟨t, ht⟩ := ih (acc1 L q)
    show ∃ t, qs.foldl acc1 (acc1 L q) = L ++ t
    rw [ht]
    unfold acc1
    split
    · exact ⟨_, by rw [List.append_assoc]⟩
    · exact ⟨t, rfl⟩
/-- what was laid by the first ones begins all -/
theorem acc_pre (qs : List Sp) (i : Nat) : ∃ t, acc qs = acc (qs.take i) ++ t := by
  obtain ⟨t, ht⟩ := fold_pre (qs.drop i) (acc (qs.take i))
  refine ⟨t, ?_⟩
  rw [← ht]
  unfold acc
  rw [← List.foldl_append, List.take_append_drop]
/-- a step that is laid in a writer of its own is laid behind others, too -/
theorem eff_more {q : Sp} {L : List Nat} (h1 : (q.eff s00).fault = 0) (h2 : L.length + (q.eff s00).laid.length ≤ 16777216) : q.eff ⟨L, 16777216, 0⟩ = ⟨L ++ (q.eff s00).laid, 16777216, 0⟩ := by
  obtain ⟨o, ho⟩ := eff_ul q
  cases o with
  | none => exact absurd h1 (ho s00 rfl)
  | some bs =>
    have k0 := ho s00 rfl (Nat.zero_le _)
    by_cases hb : s00.laid.length + bs.length ≤ s00.most
    · have e0 := k0.1 hb
      have e1 : (q.eff s00).laid = bs := by rw [e0]; rfl
      rw [e1] at h2 ⊢
      exact (ho ⟨L, 16777216, 0⟩ rfl (by show L.length ≤ 16777216; omega)).1 h2
    · exact absurd h1 (k0.2 hb)
theorem ownsRow_keepS {w w' : World} {b : Nat} {e : TypeId} {size : Nat} {v : Value} {n : Nat} {xs : List Value} (h : w.ownsRow b e size v n xs) {S : Nat → Prop} (k : Keep S w w') (hS : ∀ i, S i → v.ownBlock ≠ some i) : w'.ownsRow b e size v n xs := by
  refine ⟨h.1, ?_⟩
  rcases h.2 with h' | ⟨g, cap, cur, h1, h2, h3, h4⟩
  · exact .inl h'
  · subst h1
    exact .inr ⟨g, cap, cur, rfl, h2, k.blk h3 (fun hs => hS g hs rfl), h4⟩
theorem rd_out2 {w : World} {b : Nat} {a : Option Addr} {n c : Nat} {l : List Nat} (h : w.ownsRow b 5 1 (.slice a n c) l.length (B8 l)) (hd : ∀ d ∈ l, d < 256) (hs : l.length < 281474976710656) : Rd w a n l ∧ (a = none → c = 0) := by
  obtain ⟨a', c', e, h1, h2, _⟩ := ownsRow_rd h hd hs
  injection e with e1 e2 e3
  subst e1 e2 e3
  exact ⟨h1, h2⟩
theorem fresh_any (w : World) : Calls Tryz.prog 30 #[.int .i64 16777216] w fun en w' => en = .returned (.pointer (some ⟨w.heap.size, 0, none⟩)) ∧ WAt (fun k => w.heap.size ≤ k) w w.heap.size s00 w' := NewWriter_any 16777216 w
theorem acc1_no {L : List Nat} {q : Sp} (h : ¬ ((q.eff s00).fault = 0 ∧ L.length + (q.eff s00).laid.length ≤ 16777216)) : acc1 L q = L := if_neg h
theorem acc1_yes {L : List Nat} {q : Sp} (h : (q.eff s00).fault = 0 ∧ L.length + (q.eff s00).laid.length ≤ 16777216) : acc1 L q = L ++ (q.eff s00).laid := if_pos h
/-- a writer, and a row of bytes of the call's own -/
structure S1 (w0 w : World) (p : Nat) (vW : Value) (L : List Nat) (v : Value) : Prop where
  wr : Wr w p vW ⟨L, 16777216, 0⟩
  row : w.ownsRow w0.heap.size 5 1 v L.length (B8 L)
  ne : ∀ k, Wset p vW k → v.ownBlock ≠ some k
  gw : ∀ k, Wset p vW k → w0.heap.size ≤ k
  bl : Below w0.heap.size w0 w
theorem S1.new {w0 w w' : World} {p : Nat} {vW v : Value} {L : List Nat} (h : S1 w0 w p vW L v) (b : Below w.heap.size w w') : S1 w0 w' p vW L v :=
  ⟨h.wr.keep (S := fun _ => False) (Keep.ofBelow b (Nat.le_refl _)) fun _ _ f => f, ownsRow_keepB h.row b, h.ne, h.gw, h.bl.trans (b.mono h.bl.size)⟩
theorem S1.atW {w0 w : World} {p : Nat} {vW v : Value} {L : List Nat} (h : S1 w0 w p vW L v) : WAt (Wset p vW) w p ⟨L, 16777216, 0⟩ w := ⟨Keep.refl _ _, vW, h.wr, fun _ hk => .inl hk⟩
theorem S1.dW {w0 w : World} {p : Nat} {vW v : Value} {L : List Nat} (h : S1 w0 w p vW L v) : ∀ k, k < w0.heap.size → (¬ Wset p vW k ∧ k < w.heap.size) := fun k hk => ⟨fun h1 => by have := h.gw k h1; omega, Nat.lt_of_lt_of_le hk h.bl.size⟩
theorem S1.begin {w0 w1 w2 : World} {p : Nat} (hb : Below w0.heap.size w0 w1) (h1 : WAt (fun k => w1.heap.size ≤ k) w1 p s00 w2) : ∃ v, S1 w0 w2 p v [] (.slice none 0 0) := by
  obtain ⟨v, hv, hs⟩ := h1.wr
  have lv : ∀ k, Wset p v k → w1.heap.size ≤ k := fun k hk => (hs k hk).elim id id
  exact ⟨v, hv, World.ownsRow_nil _ _ _ _, (fun _ _ e => by cases e), fun k hk => Nat.le_trans hb.size (lv k hk), hb.trans (h1.keep.below hb.size fun i hi => Nat.le_trans hb.size hi)⟩
/-- a step was put, its bytes appended -/
theorem S1.step {w0 w w5 w6 : World} {p : Nat} {vW v v' : Value} {L bs : List Nat} (h : S1 w0 w p vW L v) (a : WAt (Wset p vW) w p ⟨L ++ bs, 16777216, 0⟩ w5) (hr : w6.ownsRow w0.heap.size 5 1 v' (L ++ bs).length (B8 (L ++ bs))) (hg : w5.grownBy w6 v.ownBlock) (hn : NewBlk w5 v v') : ∃ u, S1 w0 w6 p u (L ++ bs) v' := by
  obtain ⟨u, hu, hs⟩ := a.wr
  have hsz := a.keep.size
  have hlt : ∀ k, v.ownBlock = some k → k < w.heap.size := fun k e => (h.row.lt k e).2
  have hune : ∀ k, Wset p u k → v.ownBlock ≠ some k := fun k hk e => by
    rcases hs k hk with h1 | h1
    · exact h.ne k h1 e
    · have := hlt k e; omega
  have hk6 : Keep (fun k => v.ownBlock = some k) w5 w6 := Keep.grown hg fun k e => e
  refine ⟨u, hu.keep hk6 fun k hk e => hune k hk e, hr, fun k hk e => ?_, fun k hk => ?_, ?_⟩
  · rcases hn with hn | hn
    · rw [hn] at e; exact hune k hk e
    · have h1 := hn k e
      have h2 := wset_ltW hu hk
      omega
  · rcases hs k hk with h1 | h1
    · exact h.gw k h1
    · exact Nat.le_trans h.bl.size h1
  · have hb5 := h.bl.trans (a.keep.below h.bl.size h.gw)
    exact hb5.trans (hk6.below hb5.size fun i e => (h.row.lt i e).1)
/-- whatever is done in blocks made since -/
theorem S1.keepW {w0 w w' : World} {p : Nat} {vW v : Value} {L : List Nat} (h : S1 w0 w p vW L v) (k : Keep (fun k => w.heap.size ≤ k) w w') : S1 w0 w' p vW L v := h.new (k.below (Nat.le_refl _) fun _ h => h)
theorem at_any (q : Nat) (s : K.RS) (w : World) (h : Rr w q s) : Calls Tryz.prog 26 #[.pointer (some ⟨q, 0, none⟩)] w fun en w' => en = .returned (.int .i64 (s.taken : Nat)) ∧ w' = w := by
  obtain ⟨a, c, hb, _⟩ := h.ex
  have c1 : w.cell? ⟨q, 1, none⟩ = some (.int .i64 (s.taken : Nat)) := by rw [cell_of_row _ _ _ _ _ _ hb]; rfl
  go_enter Tryz.func26, Tryz.ntmps26
  go_wp2
  go_ret
  exact ⟨rfl, rfl⟩
theorem err_any (q : Nat) (s : K.RS) (w : World) (h : Rr w q s) : Calls Tryz.prog 27 #[.pointer (some ⟨q, 0, none⟩)] w fun en w' => en = .returned (.int .i64 (s.fault : Nat)) ∧ w' = w := by
  obtain ⟨a, c, hb, _⟩ := h.ex
  have c1 : w.cell? ⟨q, 2, none⟩ = some (.int .i64 (s.fault : Nat)) := by rw [cell_of_row _ _ _ _ _ _ hb]; rfl
  go_enter Tryz.func27, Tryz.ntmps27
  go_wp2
  go_ret
  exact ⟨rfl, rfl⟩
end Wm
end Go.Proofs.YtoelgcagahmndaaGreat
