/- Codec: what is put of an operation is read back; what is read is put as it was (mathematics). -/
import Derived.Test.YtbjcckfhfbjchaaGreatCEq
namespace Go.Proofs.YtbjcckfhfbjchaaGreat
namespace Cd
open Go.RowKit

theorem word_getD (X k : Nat) (hk : k < 8) : (word X).getD k 0 = wbyte X k := by
  unfold word
  rw [List.getD_eq_getElem?_getD, List.getElem?_map, List.getElem?_range hk]
  rfl
theorem wval_word (X : Nat) : ∀ k, k ≤ 8 → wval (word X) k = X % 256 ^ k
  | 0, _ => by simp [wval, Nat.mod_one]
  | k + 1, hk => by
    simp only [wval]
    rw [wval_word X k (by omega), word_getD X k (by omega), Nat.mod_pow_succ, Nat.mul_comm]
    rfl
theorem word_take {l : List Nat} (h : 8 ≤ l.length) (hd : ∀ d ∈ l, d < 256) : word (wval (l.take 8) 8) = l.take 8 := by
  obtain ⟨b0, l, rfl⟩ : ∃ b t, l = b :: t := List.exists_cons_of_length_pos (by omega)
  obtain ⟨b1, l, rfl⟩ : ∃ b t, l = b :: t := List.exists_cons_of_length_pos (by simp at h; omega)
  obtain ⟨b2, l, rfl⟩ : ∃ b t, l = b :: t := List.exists_cons_of_length_pos (by simp at h; omega)
  obtain ⟨b3, l, rfl⟩ : ∃ b t, l = b :: t := List.exists_cons_of_length_pos (by simp at h; omega)
  obtain ⟨b4, l, rfl⟩ : ∃ b t, l = b :: t := List.exists_cons_of_length_pos (by simp at h; omega)
  obtain ⟨b5, l, rfl⟩ : ∃ b t, l = b :: t := List.exists_cons_of_length_pos (by simp at h; omega)
  obtain ⟨b6, l, rfl⟩ : ∃ b t, l = b :: t := List.exists_cons_of_length_pos (by simp at h; omega)
  obtain ⟨b7, l, rfl⟩ : ∃ b t, l = b :: t := List.exists_cons_of_length_pos (by simp at h; omega)
  have h0 := hd b0 (by simp)
  have h1 := hd b1 (by simp)
  have h2 := hd b2 (by simp)
  have h3 := hd b3 (by simp)
  have h4 := hd b4 (by simp)
  have h5 := hd b5 (by simp)
  have h6 := hd b6 (by simp)
  have h7 := hd b7 (by simp)
  have e : wval ((b0 :: b1 :: b2 :: b3 :: b4 :: b5 :: b6 :: b7 :: l).take 8) 8 = b0 + 256 * (b1 + 256 * (b2 + 256 * (b3 + 256 * (b4 + 256 * (b5 + 256 * (b6 + 256 * b7)))))) := by
    simp only [wval, List.take_succ_cons, List.take_zero, List.getD_cons_zero, List.getD_cons_succ]
    omega
  rw [e]
  have r : word (b0 + 256 * (b1 + 256 * (b2 + 256 * (b3 + 256 * (b4 + 256 * (b5 + 256 * (b6 + 256 * b7))))))) = [wbyte (b0 + 256 * (b1 + 256 * (b2 + 256 * (b3 + 256 * (b4 + 256 * (b5 + 256 * (b6 + 256 * b7))))))) 0, wbyte (b0 + 256 * (b1 + 256 * (b2 + 256 * (b3 + 256 * (b4 + 256 * (b5 + 256 * (b6 + 256 * b7))))))) 1, wbyte (b0 + 256 * (b1 + 256 * (b2 + 256 * (b3 + 256 * (b4 + 256 * (b5 + 256 * (b6 + 256 * b7))))))) 2, wbyte (b0 + 256 * (b1 + 256 * (b2 + 256 * (b3 + 256 * (b4 + 256 * (b5 + 256 * (b6 + 256 * b7))))))) 3, wbyte (b0 + 256 * (b1 + 256 * (b2 + 256 * (b3 + 256 * (b4 + 256 * (b5 + 256 * (b6 + 256 * b7))))))) 4, wbyte (b0 + 256 * (b1 + 256 * (b2 + 256 * (b3 + 256 * (b4 + 256 * (b5 + 256 * (b6 + 256 * b7))))))) 5, wbyte (b0 + 256 * (b1 + 256 * (b2 + 256 * (b3 + 256 * (b4 + 256 * (b5 + 256 * (b6 + 256 * b7))))))) 6, wbyte (b0 + 256 * (b1 + 256 * (b2 + 256 * (b3 + 256 * (b4 + 256 * (b5 + 256 * (b6 + 256 * b7))))))) 7] := rfl
  rw [r]
  have p0 : wbyte (b0 + 256 * (b1 + 256 * (b2 + 256 * (b3 + 256 * (b4 + 256 * (b5 + 256 * (b6 + 256 * b7))))))) 0 = b0 := by
    unfold wbyte; show _ / 1 % 256 = _; omega
  have p1 : wbyte (b0 + 256 * (b1 + 256 * (b2 + 256 * (b3 + 256 * (b4 + 256 * (b5 + 256 * (b6 + 256 * b7))))))) 1 = b1 := by
    unfold wbyte; show _ / 256 % 256 = _; omega
  have p2 : wbyte (b0 + 256 * (b1 + 256 * (b2 + 256 * (b3 + 256 * (b4 + 256 * (b5 + 256 * (b6 + 256 * b7))))))) 2 = b2 := by
    unfold wbyte; show _ / 65536 % 256 = _; omega
  have p3 : wbyte (b0 + 256 * (b1 + 256 * (b2 + 256 * (b3 + 256 * (b4 + 256 * (b5 + 256 * (b6 + 256 * b7))))))) 3 = b3 := by
    unfold wbyte; show _ / 16777216 % 256 = _; omega
  have p4 : wbyte (b0 + 256 * (b1 + 256 * (b2 + 256 * (b3 + 256 * (b4 + 256 * (b5 + 256 * (b6 + 256 * b7))))))) 4 = b4 := by
    unfold wbyte; show _ / 4294967296 % 256 = _; omega
  have p5 : wbyte (b0 + 256 * (b1 + 256 * (b2 + 256 * (b3 + 256 * (b4 + 256 * (b5 + 256 * (b6 + 256 * b7))))))) 5 = b5 := by
    unfold wbyte; show _ / 1099511627776 % 256 = _; omega
  have p6 : wbyte (b0 + 256 * (b1 + 256 * (b2 + 256 * (b3 + 256 * (b4 + 256 * (b5 + 256 * (b6 + 256 * b7))))))) 6 = b6 := by
    unfold wbyte; show _ / 281474976710656 % 256 = _; omega
  have p7 : wbyte (b0 + 256 * (b1 + 256 * (b2 + 256 * (b3 + 256 * (b4 + 256 * (b5 + 256 * (b6 + 256 * b7))))))) 7 = b7 := by
    unfold wbyte; show _ / 72057594037927936 % 256 = _; omega
  rw [p0, p1, p2, p3, p4, p5, p6, p7]
  rfl
theorem rw_word : RW wordR (fun s => wordW (wordV s)) := by
  intro s hb hz ht hg
  unfold wordR at hg ⊢
  by_cases h8 : 8 ≤ (rest s).length
  · rw [if_pos h8]
    refine ⟨8, by decide, h8, rfl, fun s0 h0 hr => ?_⟩
    show s0.lay (word (wval ((rest s).take 8) 8)) = _
    rw [word_take h8 hb.rest]
    exact lay_fits (by rw [List.length_take]; omega)
  · rw [if_neg h8] at hg
    exact (fail_fault (by decide) hg hz).elim
/-- part j of d, set in e -/
def setP (e d : Ov) : Nat → Ov
  | 0 => { e with pl := d.pl }
  | 1 => { e with ky := d.ky }
  | 2 => { e with la := d.la }
  | 3 => { e with wo := d.wo }
  | 4 => { e with tk := d.tk }
  | 5 => { e with ry := d.ry }
  | 6 => { e with ru := d.ru }
  | 7 => { e with lu := d.lu }
  | _ => { e with ti := d.ti }
/-- what WR says of one value -/
def WR1 {α : Type} (g : K.RS → K.RS) (val : K.RS → α) (f : K.WS → K.WS) (x : α) : Prop :=
  ∀ (s0 : K.WS), s0.fault = 0 → s0.laid.length ≤ s0.most → s0.most ≤ 16777216 → (f s0).fault = 0 →
    ∃ bs : List Nat, 1 ≤ bs.length ∧ s0.laid.length + bs.length ≤ s0.most ∧ f s0 = { s0 with laid := s0.laid ++ bs } ∧ ∀ (s : K.RS) (tail : List Nat), s.fault = 0 → rest s = bs ++ tail → g s = s.go bs.length ∧ val s = x
theorem WR1.to {α β : Type} {g : K.RS → K.RS} {val : K.RS → α} {f : K.WS → K.WS} {x : α} (h : WR1 g val f x) {v2 : K.RS → β} {y : β} (hv : ∀ s, val s = x → v2 s = y) : WR1 g v2 f y := by
  intro s0 hz hl ht hf
  obtain ⟨bs, b1, b2, b3, b4⟩ := h s0 hz hl ht hf
  exact ⟨bs, b1, b2, b3, fun s tail hs hr => ⟨(b4 s tail hs hr).1, hv s (b4 s tail hs hr).2⟩⟩
theorem part_wr (d : Ov) (hlu : d.lu < 18446744073709551616) (j : Nat) (hm : j = 0 → may d.pl = true) : WR1 (partR j) (fun s => fun e => partV s e j) (partW d j) (fun e => setP e d j) := by
  match j with
  | 0 =>
    have h : WR1 (chkR may planR planVal) planVal (planW d.pl) d.pl := by
      intro s0 hz hl ht hf
      obtain ⟨bs, b1, b2, b3, b4⟩ := wr_plan d.pl s0 hz hl ht hf
      refine ⟨bs, b1, b2, b3, fun s tail hs hr => ?_⟩
      obtain ⟨d1, d2⟩ := b4 s tail hs hr
      refine ⟨?_, d2⟩
      unfold chkR
      rw [d2, hm rfl, if_neg (by simp), d1]
    exact h.to fun s e => by funext x; show { x with pl := planVal s } = { x with pl := d.pl }; rw [e]
  | 1 => exact WR1.to (fun s0 => wr_text 40 d.ky s0) fun s e => by funext x; show { x with ky := rowV 40 s } = { x with ky := d.ky }; rw [e]
  | 2 => exact WR1.to (fun s0 => wI 0 15 (by decide) d.la s0) fun s e => by funext x; show { x with la := iV s } = { x with la := d.la }; rw [e]
  | 3 => exact WR1.to (fun s0 => wI 0 1099511627776 (by decide) d.wo s0) fun s e => by funext x; show { x with wo := iV s } = { x with wo := d.wo }; rw [e]
  | 4 => exact WR1.to (fun s0 => wI 1 1099511627776 (by decide) d.tk s0) fun s e => by funext x; show { x with tk := iV s } = { x with tk := d.tk }; rw [e]
  | 5 => exact WR1.to (fun s0 => wr_text 64 d.ry s0) fun s e => by funext x; show { x with ry := rowV 64 s } = { x with ry := d.ry }; rw [e]
  | 6 => exact WR1.to (fun s0 => wI 1 1099511627776 (by decide) d.ru s0) fun s e => by funext x; show { x with ru := iV s } = { x with ru := d.ru }; rw [e]
  | 7 =>
    have h : WR1 wordR wordV (wordW d.lu) d.lu := by
      intro s0 hz hl ht hf
      unfold wordW at hf ⊢
      have hfit := lay_ok hz hf
      refine ⟨word d.lu, by rw [word_len]; decide, hfit, lay_fits hfit, fun s tail hs hr => ?_⟩
      have hlen : (rest s).length = 8 + tail.length := by rw [hr, List.length_append, word_len]
      constructor
      · unfold wordR
        rw [if_pos (by omega)]
        rfl
      · have ht8 : (rest s).take 8 = word d.lu := by rw [hr, List.take_append_of_le_length (by rw [word_len]; exact Nat.le_refl _), List.take_of_length_le (by rw [word_len]; exact Nat.le_refl _)]
        unfold wordV
        rw [ht8, wval_word _ 8 (Nat.le_refl _)]
        exact Nat.mod_eq_of_lt (Nat.lt_of_lt_of_eq hlu (by decide))
    exact h.to fun s e => by funext x; show { x with lu := wordV s } = { x with lu := d.lu }; rw [e]
  | n + 8 => exact WR1.to (fun s0 => wI 0 4611686018427387904 (by decide) d.ti s0) fun s e => by funext x; show { x with ti := iV s } = { x with ti := d.ti }; rw [e]
/-- parts of d, set in e -/
def setAll (d : Ov) : List Nat → Ov → Ov
  | [], e => e
  | j :: r, e => setAll d r (setP e d j)
theorem putW_stick {f : K.WS → K.WS} {s : K.WS} (h : s.fault ≠ 0) : putW f s = s := by unfold putW; rw [if_neg h]
theorem putW_run {f : K.WS → K.WS} {s : K.WS} (h : s.fault = 0) : putW f s = f s := by unfold putW; rw [if_pos h]
theorem takeR_run {f : K.RS → K.RS} {s : K.RS} (h : s.fault = 0) : takeR f s = f s := by unfold takeR; rw [if_pos h]
theorem takeR_stick {f : K.RS → K.RS} {s : K.RS} (h : s.fault ≠ 0) : takeR f s = s := by unfold takeR; rw [if_neg h]
theorem allPW_stick (d : Ov) : ∀ (ps : List Nat) (s : K.WS), s.fault ≠ 0 → allPW d ps s = s
  | [], _, _ => rfl
  | j :: r, s, h => by show allPW d r (putW _ s) = s; rw [putW_stick h]; exact allPW_stick d r s h
theorem allPR_stick : ∀ (ps : List Nat) (s : K.RS), s.fault ≠ 0 → allPR ps s = s
  | [], _, _ => rfl
  | j :: r, s, h => by show allPR r (takeR _ s) = s; rw [takeR_stick h]; exact allPR_stick r s h
theorem all_wr (d : Ov) (hlu : d.lu < 18446744073709551616) : ∀ (ps : List Nat), (0 ∈ ps → may d.pl = true) → ∀ s0 : K.WS, s0.fault = 0 → s0.laid.length ≤ s0.most → s0.most ≤ 16777216 → (allPW d ps s0).fault = 0 →
    ∃ bs : List Nat, s0.laid.length + bs.length ≤ s0.most ∧ allPW d ps s0 = { s0 with laid := s0.laid ++ bs } ∧ ∀ (s : K.RS) (tail : List Nat), s.fault = 0 → rest s = bs ++ tail → allPR ps s = s.go bs.length ∧ ∀ e, allPV ps s e = setAll d ps e
  | [], _, s0, _, hl, _, _ => ⟨[], by simpa using hl, by show s0 = _; simp, fun s tail hs hr => ⟨rfl, fun _ => rfl⟩⟩
  | j :: r, hm, s0, hz, hl, ht, hf => by
    have hf : (allPW d r (putW (partW d j) s0)).fault = 0 := hf
    rw [putW_run hz] at hf
    have hf1 : (partW d j s0).fault = 0 := by
      by_cases h0 : (partW d j s0).fault = 0
      · exact h0
      · rw [allPW_stick d r _ h0] at hf; exact absurd hf h0
    obtain ⟨bs, b1, b2, b3, b4⟩ := part_wr d hlu j (fun e => hm (by simp [e])) s0 hz hl ht hf1
    rw [b3] at hf
    obtain ⟨cs, c1, c2, c3⟩ := all_wr d hlu r (fun h => hm (by simp [h])) { s0 with laid := s0.laid ++ bs } hz (by simp; omega) ht hf
    simp only [List.length_append] at c1
    refine ⟨bs ++ cs, by simp; omega, ?_, fun s tail hs hr => ?_⟩
    · show allPW d r (putW (partW d j) s0) = _
      rw [putW_run hz, b3, c2]
      simp
    · rw [List.append_assoc] at hr
      obtain ⟨d1, d2⟩ := b4 s _ hs hr
      have hr2 : rest (s.go bs.length) = cs ++ tail := by rw [rest_go, hr]; simp
      obtain ⟨e1, e2⟩ := c3 (s.go bs.length) tail hs hr2
      refine ⟨?_, fun e => ?_⟩
      · show allPR r (takeR (partR j) s) = _
        rw [takeR_run hs, d1, e1]
        simp [K.RS.go, Nat.add_assoc]
      · show allPV r (takeR (partR j) s) (partV s e j) = setAll d r (setP e d j)
        rw [takeR_run hs, d1, e2, show partV s e j = setP e d j from congrFun d2 e]
/-- an operation with the parts of its kind alone -/
def nf (d : Ov) : Ov := setAll d (prts d.ki) (ov0 d.ki)
theorem op_wr (d : Ov) (hlu : d.lu < 18446744073709551616) (hm : d.ki = 1 → may d.pl = true) : WR1 opR opVal (opW d) (nf d) := by
  intro s0 hz hl ht hf
  have hf : (allPW d (prts d.ki) (putW (numW 1 9 d.ki) s0)).fault = 0 := hf
  rw [putW_run hz] at hf
  have hf1 : (numW 1 9 d.ki s0).fault = 0 := by
    by_cases h0 : (numW 1 9 d.ki s0).fault = 0
    · exact h0
    · rw [allPW_stick d _ _ h0] at hf; exact absurd hf h0
  obtain ⟨bs, b1, b2, b3, b4⟩ := wI 1 9 (by decide) d.ki s0 hz hl ht hf1
  have b3 : numW 1 9 d.ki s0 = { s0 with laid := s0.laid ++ bs } := b3
  rw [b3] at hf
  obtain ⟨cs, c1, c2, c3⟩ := all_wr d hlu (prts d.ki) (fun h => hm (by obtain ⟨i, hi⟩ := List.getElem?_of_mem h; exact prts_zero hi)) { s0 with laid := s0.laid ++ bs } hz (by simp; omega) ht hf
  simp only [List.length_append] at c1
  refine ⟨bs ++ cs, by simp; omega, by simp; omega, ?_, fun s tail hs hr => ?_⟩
  · show allPW d (prts d.ki) (putW (numW 1 9 d.ki) s0) = _
    rw [putW_run hz, b3, c2]
    simp
  · rw [List.append_assoc] at hr
    obtain ⟨d1, d2⟩ := b4 s _ hs hr
    have hr2 : rest (s.go bs.length) = cs ++ tail := by rw [rest_go, hr]; simp
    obtain ⟨e1, e2⟩ := c3 (s.go bs.length) tail hs hr2
    have hk : kd s = d.ki := by unfold kd; rw [d1, if_pos (show (s.go bs.length).fault = 0 from hs), d2]
    refine ⟨?_, ?_⟩
    · show allPR (prts (kd s)) (numR 1 9 s) = _
      rw [hk, d1, e1]
      simp [K.RS.go, Nat.add_assoc]
    · show allPV (prts (kd s)) (numR 1 9 s) (ov0 (kd s)) = _
      rw [hk, d1, e2]
      rfl
end Cd
end Go.Proofs.YtbjcckfhfbjchaaGreat
