import Derived.Test.YtbjcckfhfbjchaaGreatCEz
/- Codec: what is put of an operation is read back; what is read is put as it was (mathematics). -/
namespace Go.Proofs.YtbjcckfhfbjchaaGreat
namespace Cd
open Go.RowKit

theorem word_getD (X k : Nat) (hk : k < 8) : (word X).getD k 0 = wbyte X k := by
  unfold word
  rw [List.getD_eq_getElem?_getD, List.getElem?_map, List.getElem?_range hk]
  rfl
theorem wval_word (X : Nat) : ∀ k, k ≤ 8 → wval (word X) k = X % 256 ^ k
  | 0, _ => by simp [wval, Nat.mod_one]
  | k + 1, hk => by
    simp only [wval]
    rw [wval_word X k (by omega), word_getD X k (by omega), Nat.mod_pow_succ, Nat.mul_comm]
    rfl
theorem word_take {l : List Nat} (h : 8 ≤ l.length) (hd : ∀ d ∈ l, d < 256) : word (wval (l.take 8) 8) = l.take 8 := by
  obtain ⟨b0, l, rfl⟩ : ∃ b t, l = b :: t := List.exists_cons_of_length_pos (by omega)
  obtain ⟨b1, l, rfl⟩ : ∃ b t, l = b :: t := List.exists_cons_of_length_pos (by simp at h; omega)
  obtain ⟨b2, l, rfl⟩ : ∃ b t, l = b :: t := List.exists_cons_of_length_pos (by simp at h; omega)
  obtain ⟨b3, l, rfl⟩ : ∃ b t, l = b :: t := List.exists_cons_of_length_pos (by simp at h; omega)
  obtain ⟨b4, l, rfl⟩ : ∃ b t, l = b :: t := List.exists_cons_of_length_pos (by simp at h; omega)
  obtain ⟨b5, l, rfl⟩ : ∃ b t, l = b :: t := List.exists_cons_of_length_pos (by simp at h; omega)
  obtain ⟨b6, l, rfl⟩ : ∃ b t, l = b :: t := List.exists_cons_of_length_pos (by simp at h; omega)
  obtain ⟨b7, l, rfl⟩ : ∃ b t, l = b :: t := List.exists_cons_of_length_pos (by simp at h; omega)
  have h0 := hd b0 (by simp)
  have h1 := hd b1 (by simp)
  have h2 := hd b2 (by simp)
  have h3 := hd b3 (by simp)
  have h4 := hd b4 (by simp)
  have h5 := hd b5 (by simp)
  have h6 := hd b6 (by simp)
  have h7 := hd b7 (by simp)
  have e : wval ((b0 :: b1 :: b2 :: b3 :: b4 :: b5 :: b6 :: b7 :: l).take 8) 8 = b0 + 256 * (b1 + 256 * (b2 + 256 * (b3 + 256 * (b4 + 256 * (b5 + 256 * (b6 + 256 * b7)))))) := by
    simp only [wval, List.take_succ_cons, List.take_zero, List.getD_cons_zero, List.getD_cons_succ]
    omega
  rw [e]
  have r : word (b0 + 256 * (b1 + 256 * (b2 + 256 * (b3 + 256 * (b4 + 256 * (b5 + 256 * (b6 + 256 * b7))))))) = [wbyte (b0 + 256 * (b1 + 256 * (b2 + 256 * (b3 + 256 * (b4 + 256 * (b5 + 256 * (b6 + 256 * b7))))))) 0, wbyte (b0 + 256 * (b1 + 256 * (b2 + 256 * (b3 + 256 * (b4 + 256 * (b5 + 256 * (b6 + 256 * b7))))))) 1, wbyte (b0 + 256 * (b1 + 256 * (b2 + 256 * (b3 + 256 * (b4 + 256 * (b5 + 256 * (b6 + 256 * b7))))))) 2, wbyte (b0 + 256 * (b1 + 256 * (b2 + 256 * (b3 + 256 * (b4 + 256 * (b5 + 256 * (b6 + 256 * b7))))))) 3, wbyte (b0 + 256 * (b1 + 256 * (b2 + 256 * (b3 + 256 * (b4 + 256 * (b5 + 256 * (b6 + 256 * b7))))))) 4, wbyte (b0 + 256 * (b1 + 256 * (b2 + 256 * (b3 + 256 * (b4 + 256 * (b5 + 256 * (b6 + 256 * b7))))))) 5, wbyte (b0 + 256 * (b1 + 256 * (b2 + 256 * (b3 + 256 * (b4 + 256 * (b5 + 256 * (b6 + 256 * b7))))))) 6, wbyte (b0 + 256 * (b1 + 256 * (b2 + 256 * (b3 + 256 * (b4 + 256 * (b5 + 256 * (b6 + 256 * b7))))))) 7] := rfl
  rw [r]
  have p0 : wbyte (b0 + 256 * (b1 + 256 * (b2 + 256 * (b3 + 256 * (b4 + 256 * (b5 + 256 * (b6 + 256 * b7))))))) 0 = b0 := by
    unfold wbyte; show _ / 1 % 256 = _; omega
  have p1 : wbyte (b0 + 256 * (b1 + 256 * (b2 + 256 * (b3 + 256 * (b4 + 256 * (b5 + 256 * (b6 + 256 * b7))))))) 1 = b1 := by
    unfold wbyte; show _ / 256 % 256 = _; omega
  have p2 : wbyte (b0 + 256 * (b1 + 256 * (b2 + 256 * (b3 + 256 * (b4 + 256 * (b5 + 256 * (b6 + 256 * b7))))))) 2 = b2 := by
    unfold wbyte; show _ / 65536 % 256 = _; omega
  have p3 : wbyte (b0 + 256 * (b1 + 256 * (b2 + 256 * (b3 + 256 * (b4 + 256 * (b5 + 256 * (b6 + 256 * b7))))))) 3 = b3 := by
    unfold wbyte; show _ / 16777216 % 256 = _; omega
  have p4 : wbyte (b0 + 256 * (b1 + 256 * (b2 + 256 * (b3 + 256 * (b4 + 256 * (b5 + 256 * (b6 + 256 * b7))))))) 4 = b4 := by
    unfold wbyte; show _ / 4294967296 % 256 = _; omega
  have p5 : wbyte (b0 + 256 * (b1 + 256 * (b2 + 256 * (b3 + 256 * (b4 + 256 * (b5 + 256 * (b6 + 256 * b7))))))) 5 = b5 := by
    unfold wbyte; show _ / 1099511627776 % 256 = _; omega
  have p6 : wbyte (b0 + 256 * (b1 + 256 * (b2 + 256 * (b3 + 256 * (b4 + 256 * (b5 + 256 * (b6 + 256 * b7))))))) 6 = b6 := by
    unfold wbyte; show _ / 281474976710656 % 256 = _; omega
  have p7 : wbyte (b0 + 256 * (b1 + 256 * (b2 + 256 * (b3 + 256 * (b4 + 256 * (b5 + 256 * (b6 + 256 * b7))))))) 7 = b7 := by
    unfold wbyte; show _ / 72057594037927936 % 256 = _; omega
  rw [p0, p1, p2, p3, p4, p5, p6, p7]
  rfl
theorem rw_word : RW wordR (fun s => wordW (wordV s)) := by
  intro s hb hz ht hg
  unfold wordR at hg ⊢
  by_cases h8 : 8 ≤ (rest s).length
  · rw [if_pos h8]
    refine ⟨8, by decide, h8, rfl, fun s0 h0 hr => ?_⟩
    show s0.lay (word (wval ((rest s).take 8) 8)) = _
    rw [word_take h8 hb.rest]
    exact lay_fits (by rw [List.length_take]; omega)
  · rw [if_neg h8] at hg
    exact (fail_fault (by decide) hg hz).elim
/-- part j of d, set in e -/
def setP (e d : Ov) : Nat → Ov
  | 0 => { e with pl := d.pl }
  | 1 => { e with ky := d.ky }
  | 2 => { e with la := d.la }
  | 3 => { e with wo := d.wo }
  | 4 => { e with tk := d.tk }
  | 5 => { e with ry := d.ry }
  | 6 => { e with ru := d.ru }
  | 7 => { e with lu := d.lu }
  | _ => { e with ti := d.ti }
/-- what WR says of one value -/
def WR1 {α : Type} (g : K.RS → K.RS) (val : K.RS → α) (f : K.WS → K.WS) (x : α) : Prop :=
  ∀ (s0 : K.WS), s0.fault = 0 → s0.laid.length ≤ s0.most → s0.most ≤ 16777216 → (f s0).fault = 0 →
    ∃ bs : List Nat, 1 ≤ bs.length ∧ s0.laid.length + bs.length ≤ s0.most ∧ f s0 = { s0 with laid := s0.laid ++ bs } ∧ ∀ (s : K.RS) (tail : List Nat), s.fault = 0 → rest s = bs ++ tail → g s = s.go bs.length ∧ val s = x
theorem WR1.to {α β : Type} {g : K.RS → K.RS} {val : K.RS → α} {f : K.WS → K.WS} {x : α} (h : WR1 g val f x) {v2 : K.RS → β} {y : β} (hv : ∀ s, val s = x → v2 s = y) : WR1 g v2 f y := by
  intro s0 hz hl ht hf
  obtain ⟨bs, b1, b2, b3, b4⟩ := h s0 hz hl ht hf
  exact ⟨bs, b1, b2, b3, fun s tail hs hr => ⟨(b4 s tail hs hr).1, hv s (b4 s tail hs hr).2⟩⟩
theorem part_wr (d : Ov) (hlu : d.lu < 18446744073709551616) (j : Nat) (hm : j = 0 → may d.pl = true) : WR1 (partR j) (fun s => fun e => partV s e j) (partW d j) (fun e => setP e d j) := by
  match j with
  | 0 =>
    have h : WR1 (chkR may planR planVal) planVal (planW d.pl) d.pl := by
      intro s0 hz hl ht hf
      obtain ⟨bs, b1, b2, b3, b4⟩ := wr_plan d.pl s0 hz hl ht hf
      refine ⟨bs, b1, b2, b3, fun s tail hs hr => ?_⟩
      obtain ⟨d1, d2⟩ := b4 s tail hs hr
      refine ⟨?_, d2⟩
      unfold chkR
      rw [d2, hm rfl, if_neg (by simp), d1]
    exact h.to fun s e => by funext x; show { x with pl := planVal s } = { x with pl := d.pl }; rw [e]
  | 1 => exact WR1.to (fun s0 => wr_text 40 d.ky s0) fun s e => by funext x; show { x with ky := rowV 40 s } = { x with ky := d.ky }; rw [e]
  | 2 => exact WR1.to (fun s0 => wI 0 15 (by decide) d.la s0) fun s e => by funext x; show { x with la := iV s } = { x with la := d.la }; rw [e]
  | 3 => exact WR1.to (fun s0 => wI 0 1099511627776 (by decide) d.wo s0) fun s e => by funext x; show { x with wo := iV s } = { x with wo := d.wo }; rw [e]
  | 4 => exact WR1.to (fun s0 => wI 1 1099511627776 (by decide) d.tk s0) fun s e => by funext x; show { x with tk := iV s } = { x with tk := d.tk }; rw [e]
  | 5 => exact WR1.to (fun s0 => wr_text 64 d.ry s0) fun s e => by funext x; show { x with ry := rowV 64 s } = { x with ry := d.ry }; rw [e]
  | 6 => exact WR1.to (fun s0 => wI 1 1099511627776 (by decide) d.ru s0) fun s e => by funext x; show { x with ru := iV s } = { x with ru := d.ru }; rw [e]
  | 7 =>
    have h : WR1 wordR wordV (wordW d.lu) d.lu := by
      intro s0 hz hl ht hf
      unfold wordW at hf ⊢
      have hfit := lay_ok hz hf
      refine ⟨word d.lu, by rw [word_len]; decide, hfit, lay_fits hfit, fun s tail hs hr => ?_⟩
      have hlen : (rest s).length = 8 + tail.length := by rw [hr, List.length_append, word_len]
      constructor
      · unfold wordR
        rw [if_pos (by omega)]
        rfl
      · have ht8 : (rest s).take 8 = word d.lu := by rw [hr, List.take_append_of_le_length (by rw [word_len]; exact Nat.le_refl _), List.take_of_length_le (by rw [word_len]; exact Nat.le_refl _)]
        unfold wordV
        rw [ht8, wval_word _ 8 (Nat.le_refl _)]
        exact Nat.mod_eq_of_lt (Nat.lt_of_lt_of_eq hlu (by decide))
    exact h.to fun s e => by funext x; show { x with lu := wordV s } = { x with lu := d.lu }; rw [e]
  | n + 8 => exact WR1.to (fun s0 => wI 0 4611686018427387904 (by decide) d.ti s0) fun s e => by funext x; show { x with ti := iV s } = { x with ti := d.ti }; rw [e]
/-- parts of d, set in e -/
def setAll (d : Ov) : List Nat → Ov → Ov
  | [], e => e
  | j :: r, e => setAll d r (setP e d j)
theorem putW_stick {f : K.WS → K.WS} {s : K.WS} (h : s.fault ≠ 0) : putW f s = s := by unfold putW; rw [if_neg h]
theorem putW_run {f : K.WS → K.WS} {s : K.WS} (h : s.fault = 0) : putW f s = f s := by unfold putW; rw [if_pos h]
theorem takeR_run {f : K.RS → K.RS} {s : K.RS} (h : s.fault = 0) : takeR f s = f s := by unfold takeR; rw [if_pos h]
theorem takeR_stick {f : K.RS → K.RS} {s : K.RS} (h : s.fault ≠ 0) : takeR f s = s := by unfold takeR; rw [if_neg h]
theorem allPW_stick (d : Ov) : ∀ (ps : List Nat) (s : K.WS), s.fault ≠ 0 → allPW d ps s = s
  | [], _, _ => rfl
  | j :: r, s, h => by show allPW d r (putW _ s) = s; rw [putW_stick h]; exact allPW_stick d r s h
theorem allPR_stick : ∀ (ps : List Nat) (s : K.RS), s.fault ≠ 0 → allPR ps s = s
  | [], _, _ => rfl
  | j :: r, s, h => by show allPR r (takeR _ s) = s; rw [takeR_stick h]; exact allPR_stick r s h
theorem all_wr (d : Ov) (hlu : d.lu < 18446744073709551616) : ∀ (ps : List Nat), (0 ∈ ps → may d.pl = true) → ∀ s0 : K.WS, s0.fault = 0 → s0.laid.length ≤ s0.most → s0.most ≤ 16777216 → (allPW d ps s0).fault = 0 →
    ∃ bs : List Nat, s0.laid.length + bs.length ≤ s0.most ∧ allPW d ps s0 = { s0 with laid := s0.laid ++ bs } ∧ ∀ (s : K.RS) (tail : List Nat), s.fault = 0 → rest s = bs ++ tail → allPR ps s = s.go bs.length ∧ ∀ e, allPV ps s e = setAll d ps e
  | [], _, s0, _, hl, _, _ => ⟨[], by simpa using hl, by show s0 = _; simp, fun s tail hs hr => ⟨rfl, fun _ => rfl⟩⟩
  | j :: r, hm, s0, hz, hl, ht, hf => by
    have hf : (allPW d r (putW (partW d j) s0)).fault = 0 := hf
    rw [putW_run hz] at hf
    have hf1 : (partW d j s0).fault = 0 := by
      by_cases h0 : (partW d j s0).fault = 0
      · exact h0
      · rw [allPW_stick d r _ h0] at hf; exact absurd hf h0
    obtain ⟨bs, b1, b2, b3, b4⟩ := part_wr d hlu j (fun e => hm (by simp [e])) s0 hz hl ht hf1
    rw [b3] at hf
    obtain ⟨cs, c1, c2, c3⟩ := all_wr d hlu r (fun h => hm (by simp [h])) { s0 with laid := s0.laid ++ bs } hz (by simp; omega) ht hf
    simp only [List.length_append] at c1
    refine ⟨bs ++ cs, by simp; omega, ?_, fun s tail hs hr => ?_⟩
    · show allPW d r (putW (partW d j) s0) = _
      rw [putW_run hz, b3, c2]
      simp
    · rw [List.append_assoc] at hr
      obtain ⟨d1, d2⟩ := b4 s _ hs hr
      have hr2 : rest (s.go bs.length) = cs ++ tail := by rw [rest_go, hr]; simp
      obtain ⟨e1, e2⟩ := c3 (s.go bs.length) tail hs hr2
      refine ⟨?_, fun e => ?_⟩
      · show allPR r (takeR (partR j) s) = _
        rw [takeR_run hs, d1, e1]
        simp [K.RS.go, Nat.add_assoc]
      · show allPV r (takeR (partR j) s) (partV s e j) = setAll d r (setP e d j)
        rw [takeR_run hs, d1, e2, show partV s e j = setP e d j from congrFun d2 e]
/-- an operation with the parts of its kind alone -/
def nf (d : Ov) : Ov := setAll d (prts d.ki) (ov0 d.ki)
theorem op_wr (d : Ov) (hlu : d.lu < 18446744073709551616) (hm : d.ki = 1 → may d.pl = true) : WR1 opR opVal (opW d) (nf d) := by
  intro s0 hz hl ht hf
  have hf : (allPW d (prts d.ki) (putW (numW 1 9 d.ki) s0)).fault = 0 := hf
  rw [putW_run hz] at hf
  have hf1 : (numW 1 9 d.ki s0).fault = 0 := by
    by_cases h0 : (numW 1 9 d.ki s0).fault = 0
    · exact h0
    · rw [allPW_stick d _ _ h0] at hf; exact absurd hf h0
  obtain ⟨bs, b1, b2, b3, b4⟩ := wI 1 9 (by decide) d.ki s0 hz hl ht hf1
  have b3 : numW 1 9 d.ki s0 = { s0 with laid := s0.laid ++ bs } := b3
  rw [b3] at hf
  obtain ⟨cs, c1, c2, c3⟩ := all_wr d hlu (prts d.ki) (fun h => hm (by obtain ⟨i, hi⟩ := List.getElem?_of_mem h; exact prts_zero hi)) { s0 with laid := s0.laid ++ bs } hz (by simp; omega) ht hf
  simp only [List.length_append] at c1
  refine ⟨bs ++ cs, by simp; omega, by simp; omega, ?_, fun s tail hs hr => ?_⟩
  · show allPW d (prts d.ki) (putW (numW 1 9 d.ki) s0) = _
    rw [putW_run hz, b3, c2]
    simp
  · rw [List.append_assoc] at hr
    obtain ⟨d1, d2⟩ := b4 s _ hs hr
    have hr2 : rest (s.go bs.length) = cs ++ tail := by rw [rest_go, hr]; simp
    obtain ⟨e1, e2⟩ := c3 (s.go bs.length) tail hs hr2
    have hk : kd s = d.ki := by unfold kd; rw [d1, if_pos (show (s.go bs.length).fault = 0 from hs), d2]
    refine ⟨?_, ?_⟩
    · show allPR (prts (kd s)) (numR 1 9 s) = _
      rw [hk, d1, e1]
      simp [K.RS.go, Nat.add_assoc]
    · show allPV (prts (kd s)) (numR 1 9 s) (ov0 (kd s)) = _
      rw [hk, d1, e2]
      rfl
end Cd
end Go.Proofs.YtbjcckfhfbjchaaGreat

/- Codec: what is read of an operation is put as it was (mathematics). -/
namespace Go.Proofs.YtbjcckfhfbjchaaGreat
namespace Cd
open Go.RowKit

theorem RW.congr {g : K.RS → K.RS} {W W2 : K.RS → K.WS → K.WS} (h : RW g W) (he : ∀ s, s.fault = 0 → (g s).fault = 0 → W s = W2 s) : RW g W2 := by
  intro s hb hz ht hg
  obtain ⟨z, z1, z2, z3, z4⟩ := h s hb hz ht hg
  exact ⟨z, z1, z2, z3, fun s0 h0 hr => by rw [← he s hz hg]; exact z4 s0 h0 hr⟩
theorem rw_listv {α : Type} {g : K.RS → K.RS} {v : K.RS → α} {F : α → K.WS → K.WS} (m : Int) (h : RW g (fun s => F (v s))) : RW (listR m g) (fun s => listW m ((listVal m g v s).map F)) := by
  refine RW.congr (rw_list h m) fun s hz hg => ?_
  unfold listPut listVal
  unfold listR at hg
  cases hc : cnt m (rest s) with
  | error e => rw [hc] at hg; exact (fail_fault (cnt_err hc) hg hz).elim
  | ok r =>
    obtain ⟨n, z⟩ := r
    show listW m (putsOf g (fun s => F (v s)) n (s.go z)) = listW m ((valsOf g v n (s.go z)).map F)
    unfold putsOf valsOf
    rw [List.map_map]
    rfl
theorem rI (least most : Int) : RW (numR least most) (fun s => numW least most (iV s)) := rw_num least most
theorem rL : RW (listR 64 (numR 0 63)) (fun s => listW 64 (zW 0 63 (lV s))) := rw_listv 64 (rI 0 63)
theorem rw10 {R1 R2 R3 R4 R5 R6 R7 R8 R9 R0 g2 g3 g4 g5 g6 g7 g8 g9 g0 : K.RS → K.RS} {f1 f2 f3 f4 f5 f6 f7 f8 f9 f0 : K.RS → K.WS → K.WS}
    (h1 : RW R1 f1) (h2 : RW g2 f2) (h3 : RW g3 f3) (h4 : RW g4 f4) (h5 : RW g5 f5) (h6 : RW g6 f6) (h7 : RW g7 f7) (h8 : RW g8 f8) (h9 : RW g9 f9) (h0 : RW g0 f0)
    (e2 : R2 = seqR R1 g2) (e3 : R3 = seqR R2 g3) (e4 : R4 = seqR R3 g4) (e5 : R5 = seqR R4 g5) (e6 : R6 = seqR R5 g6) (e7 : R7 = seqR R6 g7) (e8 : R8 = seqR R7 g8) (e9 : R9 = seqR R8 g9) (e0 : R0 = seqR R9 g0) :
    RW R0 (fun s => seqW (seqW (seqW (seqW (seqW (seqW (seqW (seqW (seqW (f1 s) (f2 (R1 s))) (f3 (R2 s))) (f4 (R3 s))) (f5 (R4 s))) (f6 (R5 s))) (f7 (R6 s))) (f8 (R7 s))) (f9 (R8 s))) (f0 (R9 s))) := by
  subst e2 e3 e4 e5 e6 e7 e8 e9 e0
  exact rw_seq (rw_seq (rw_seq (rw_seq (rw_seq (rw_seq (rw_seq (rw_seq (rw_seq h1 h2) h3) h4) h5) h6) h7) h8) h9) h0
theorem rw3 {R1 R2 R3 g2 g3 : K.RS → K.RS} {f1 f2 f3 : K.RS → K.WS → K.WS} (h1 : RW R1 f1) (h2 : RW g2 f2) (h3 : RW g3 f3) (e2 : R2 = seqR R1 g2) (e3 : R3 = seqR R2 g3) :
    RW R3 (fun s => seqW (seqW (f1 s) (f2 (R1 s))) (f3 (R2 s))) := by
  subst e2 e3
  exact rw_seq (rw_seq h1 h2) h3
theorem rw_node : RW nodeR (fun s => nodeW (nodeVal s)) := by
  have h := rw10 (R1 := Rn1) (R2 := Rn2) (R3 := Rn3) (R4 := Rn4) (R5 := Rn5) (R6 := Rn6) (R7 := Rn7) (R8 := Rn8) (R9 := Rn9) (R0 := nodeR) (rw_text 40) (rI 0 15) (rI 1 100) (rI 1 1099511627776) (rI 0 1099511627776) (rI 1 1099511627776) (rI 1 1099511627776) (rI 0 1099511627776) rL rL rfl rfl rfl rfl rfl rfl rfl rfl rfl
  have e : (fun s => nodeW (nodeVal s)) = (fun s => seqW (seqW (seqW (seqW (seqW (seqW (seqW (seqW (seqW (textW 40 (rowV 40 s)) (numW 0 15 (iV (Rn1 s)))) (numW 1 100 (iV (Rn2 s)))) (numW 1 1099511627776 (iV (Rn3 s)))) (numW 0 1099511627776 (iV (Rn4 s)))) (numW 1 1099511627776 (iV (Rn5 s)))) (numW 1 1099511627776 (iV (Rn6 s)))) (numW 0 1099511627776 (iV (Rn7 s)))) (listW 64 (zW 0 63 (lV (Rn8 s))))) (listW 64 (zW 0 63 (lV (Rn9 s))))) := by funext s; simp only [nodeW, nodeVal]
  rw [e]
  exact h
theorem rNs : RW (listR 64 nodeR) (fun s => listW 64 ((nVs s).map nodeW)) := rw_listv 64 rw_node
theorem rw_plan : RW planR (fun s => planW (planVal s)) := by
  have h := rw3 (R1 := Pn1) (R2 := Pn2) (R3 := planR) (rw_text 40) (rI 1 1099511627776) rNs rfl rfl
  have e : (fun s => planW (planVal s)) = (fun s => seqW (seqW (textW 40 (rowV 40 s)) (numW 1 1099511627776 (iV (Pn1 s)))) (listW 64 ((nVs (Pn2 s)).map nodeW))) := by funext s; simp only [planW, planVal]
  rw [e]
  exact h
theorem part_rw (e : Ov) (j : Nat) : RW (partR j) (fun s => partW (partV s e j) j) := by
  match j with
  | 0 => exact rw_chk may rw_plan
  | 1 => exact rw_text 40
  | 2 => exact rI 0 15
  | 3 => exact rI 0 1099511627776
  | 4 => exact rI 1 1099511627776
  | 5 => exact rw_text 64
  | 6 => exact rI 1 1099511627776
  | 7 => exact rw_word
  | n + 8 => exact rI 0 4611686018427387904
/-- d's parts are those that are read -/
def Mt (d : Ov) : List Nat → K.RS → Prop
  | [], _ => True
  | j :: r, s => partW d j = partW (partV s (ov0 0) j) j ∧ Mt d r (takeR (partR j) s)
theorem all_rw (d : Ov) : ∀ (ps : List Nat) (s : K.RS), Byt s → s.fault = 0 → s.taken ≤ s.data.length → (allPR ps s).fault = 0 → Mt d ps s →
    ∃ z, z ≤ (rest s).length ∧ allPR ps s = s.go z ∧ ∀ s0 : K.WS, s0.fault = 0 → s0.laid.length + z ≤ s0.most → allPW d ps s0 = { s0 with laid := s0.laid ++ (rest s).take z }
  | [], s, _, _, _, _, _ => ⟨0, Nat.zero_le _, rfl, fun s0 _ _ => by show s0 = _; simp⟩
  | j :: r, s, hb, hz, ht, hg, hm => by
    have hg : (allPR r (takeR (partR j) s)).fault = 0 := hg
    obtain ⟨hm1, hm2⟩ : partW d j = partW (partV s (ov0 0) j) j ∧ Mt d r (takeR (partR j) s) := hm
    rw [takeR_run hz] at hg hm2
    have hg1 : (partR j s).fault = 0 := by
      by_cases h0 : (partR j s).fault = 0
      · exact h0
      · rw [allPR_stick r _ h0] at hg; exact absurd hg h0
    obtain ⟨z, z1, z2, z3, z4⟩ := part_rw (ov0 0) j s hb hz ht hg1
    have hrl : (rest s).length = s.data.length - s.taken := by simp [rest]
    obtain ⟨y, y1, y2, y3⟩ := all_rw d r (partR j s) (by rw [z3]; exact hb) hg1 (by rw [z3]; show s.taken + z ≤ s.data.length; omega) hg hm2
    rw [z3, rest_go] at y1 y3
    simp only [List.length_drop] at y1
    refine ⟨z + y, by omega, ?_, fun s0 h0 hr => ?_⟩
    · show allPR r (takeR (partR j) s) = _
      rw [takeR_run hz, y2, z3]
      simp [K.RS.go, Nat.add_assoc]
    · show allPW d r (putW (partW d j) s0) = _
      rw [putW_run h0, hm1]
      have hw := z4 s0 h0 (by omega)
      have hw : partW (partV s (ov0 0) j) j s0 = { s0 with laid := s0.laid ++ (rest s).take z } := hw
      have hl : (s0.laid ++ List.take z (rest s)).length + y ≤ s0.most := by rw [List.length_append, List.length_take]; omega
      rw [hw, y3 { s0 with laid := s0.laid ++ (rest s).take z } h0 hl, List.take_add, List.append_assoc]
theorem mt_two (d : Ov) (i j : Nat) (s : K.RS) (h1 : partW d i = partW (partV s (ov0 0) i) i) (h2 : partW d j = partW (partV (takeR (partR i) s) (ov0 0) j) j) : Mt d [i, j] s := ⟨h1, h2, trivial⟩
theorem mt_one (d : Ov) (i : Nat) (s : K.RS) (h1 : partW d i = partW (partV s (ov0 0) i) i) : Mt d [i] s := ⟨h1, trivial⟩
theorem mt_1 (s : K.RS) : Mt (allPV [0, 1] s (ov0 1)) [0, 1] s := by
  refine mt_two _ 0 1 s ?_ ?_
  · show planW (planVal s) = planW (planVal s); rfl
  · show textW 40 (rowV 40 (takeR (partR 0) s)) = textW 40 (rowV 40 (takeR (partR 0) s)); rfl
theorem mt_2 (s : K.RS) : Mt (allPV [2, 3] s (ov0 2)) [2, 3] s := by
  refine mt_two _ 2 3 s ?_ ?_
  · show numW 0 15 (iV s) = numW 0 15 (iV s); rfl
  · show numW 0 1099511627776 (iV (takeR (partR 2) s)) = numW 0 1099511627776 (iV (takeR (partR 2) s)); rfl
theorem mt_3 (s : K.RS) : Mt (allPV [4] s (ov0 3)) [4] s := by
  refine mt_one _ 4 s ?_
  show numW 1 1099511627776 (iV s) = numW 1 1099511627776 (iV s); rfl
theorem mt_4 (s : K.RS) : Mt (allPV [4, 5] s (ov0 4)) [4, 5] s := by
  refine mt_two _ 4 5 s ?_ ?_
  · show numW 1 1099511627776 (iV s) = numW 1 1099511627776 (iV s); rfl
  · show textW 64 (rowV 64 (takeR (partR 4) s)) = textW 64 (rowV 64 (takeR (partR 4) s)); rfl
theorem mt_5 (s : K.RS) : Mt (allPV [4] s (ov0 5)) [4] s := by
  refine mt_one _ 4 s ?_
  show numW 1 1099511627776 (iV s) = numW 1 1099511627776 (iV s); rfl
theorem mt_6 (s : K.RS) : Mt (allPV [6] s (ov0 6)) [6] s := by
  refine mt_one _ 6 s ?_
  show numW 1 1099511627776 (iV s) = numW 1 1099511627776 (iV s); rfl
theorem mt_7 (s : K.RS) : Mt (allPV [6] s (ov0 7)) [6] s := by
  refine mt_one _ 6 s ?_
  show numW 1 1099511627776 (iV s) = numW 1 1099511627776 (iV s); rfl
theorem mt_8 (s : K.RS) : Mt (allPV [7] s (ov0 8)) [7] s := by
  refine mt_one _ 7 s ?_
  show wordW (wordV s) = wordW (wordV s); rfl
theorem mt_9 (s : K.RS) : Mt (allPV [8] s (ov0 9)) [8] s := by
  refine mt_one _ 8 s ?_
  show numW 0 4611686018427387904 (iV s) = numW 0 4611686018427387904 (iV s); rfl
theorem prts_none {k : Int} (hk : ¬ (1 ≤ k ∧ k ≤ 9)) : prts k = [] := by
  unfold prts; simp only [show ¬ k = 1 by omega, show ¬ k = 2 by omega, show ¬ k = 3 by omega, show ¬ k = 4 by omega, show ¬ k = 5 by omega, show ¬ k = 6 by omega, show ¬ k = 7 by omega, show ¬ k = 8 by omega, show ¬ k = 9 by omega, if_false]
theorem mt_op (k : Int) (s : K.RS) : Mt (allPV (prts k) s (ov0 k)) (prts k) s := by
  by_cases hk : 1 ≤ k ∧ k ≤ 9
  · rcases (by omega : k = 1 ∨ k = 2 ∨ k = 3 ∨ k = 4 ∨ k = 5 ∨ k = 6 ∨ k = 7 ∨ k = 8 ∨ k = 9) with rfl | rfl | rfl | rfl | rfl | rfl | rfl | rfl | rfl
    · exact (show prts 1 = [0, 1] from rfl) ▸ mt_1 s
    · exact (show prts 2 = [2, 3] from rfl) ▸ mt_2 s
    · exact (show prts 3 = [4] from rfl) ▸ mt_3 s
    · exact (show prts 4 = [4, 5] from rfl) ▸ mt_4 s
    · exact (show prts 5 = [4] from rfl) ▸ mt_5 s
    · exact (show prts 6 = [6] from rfl) ▸ mt_6 s
    · exact (show prts 7 = [6] from rfl) ▸ mt_7 s
    · exact (show prts 8 = [7] from rfl) ▸ mt_8 s
    · exact (show prts 9 = [8] from rfl) ▸ mt_9 s
  · rw [prts_none hk]
    trivial
theorem ki_setP (e d : Ov) (j : Nat) : (setP e d j).ki = e.ki := by
  match j with
  | 0 => rfl
  | 1 => rfl
  | 2 => rfl
  | 3 => rfl
  | 4 => rfl
  | 5 => rfl
  | 6 => rfl
  | 7 => rfl
  | n + 8 => rfl
theorem ki_partV (s : K.RS) (e : Ov) (j : Nat) : (partV s e j).ki = e.ki := by
  match j with
  | 0 => simp only [partV]
  | 1 => simp only [partV]
  | 2 => simp only [partV]
  | 3 => simp only [partV]
  | 4 => simp only [partV]
  | 5 => simp only [partV]
  | 6 => simp only [partV]
  | 7 => simp only [partV]
  | n + 8 => simp only [partV]
theorem ki_allPV : ∀ (ps : List Nat) (s : K.RS) (e : Ov), (allPV ps s e).ki = e.ki
  | [], _, _ => rfl
  | j :: r, s, e => (ki_allPV r _ _).trans (ki_partV s e j)
theorem ki_opVal (s : K.RS) : (opVal s).ki = kd s := ki_allPV _ _ _
theorem nf_1 (t : K.RS) : setAll (allPV [0, 1] t (ov0 1)) [0, 1] (ov0 1) = allPV [0, 1] t (ov0 1) := by
  simp only [allPV, setAll, setP, partV, ov0]
theorem nf_2 (t : K.RS) : setAll (allPV [2, 3] t (ov0 2)) [2, 3] (ov0 2) = allPV [2, 3] t (ov0 2) := by
  simp only [allPV, setAll, setP, partV, ov0]
theorem nf_3 (t : K.RS) : setAll (allPV [4] t (ov0 3)) [4] (ov0 3) = allPV [4] t (ov0 3) := by
  simp only [allPV, setAll, setP, partV, ov0]
theorem nf_4 (t : K.RS) : setAll (allPV [4, 5] t (ov0 4)) [4, 5] (ov0 4) = allPV [4, 5] t (ov0 4) := by
  simp only [allPV, setAll, setP, partV, ov0]
theorem nf_5 (t : K.RS) : setAll (allPV [4] t (ov0 5)) [4] (ov0 5) = allPV [4] t (ov0 5) := by
  simp only [allPV, setAll, setP, partV, ov0]
theorem nf_6 (t : K.RS) : setAll (allPV [6] t (ov0 6)) [6] (ov0 6) = allPV [6] t (ov0 6) := by
  simp only [allPV, setAll, setP, partV, ov0]
theorem nf_7 (t : K.RS) : setAll (allPV [6] t (ov0 7)) [6] (ov0 7) = allPV [6] t (ov0 7) := by
  simp only [allPV, setAll, setP, partV, ov0]
theorem nf_8 (t : K.RS) : setAll (allPV [7] t (ov0 8)) [7] (ov0 8) = allPV [7] t (ov0 8) := by
  simp only [allPV, setAll, setP, partV, ov0]
theorem nf_9 (t : K.RS) : setAll (allPV [8] t (ov0 9)) [8] (ov0 9) = allPV [8] t (ov0 9) := by
  simp only [allPV, setAll, setP, partV, ov0]
theorem nf_k (k : Int) (t : K.RS) : setAll (allPV (prts k) t (ov0 k)) (prts k) (ov0 k) = allPV (prts k) t (ov0 k) := by
  by_cases hk : 1 ≤ k ∧ k ≤ 9
  · rcases (by omega : k = 1 ∨ k = 2 ∨ k = 3 ∨ k = 4 ∨ k = 5 ∨ k = 6 ∨ k = 7 ∨ k = 8 ∨ k = 9) with rfl | rfl | rfl | rfl | rfl | rfl | rfl | rfl | rfl
    · exact (show prts 1 = [0, 1] from rfl) ▸ nf_1 t
    · exact (show prts 2 = [2, 3] from rfl) ▸ nf_2 t
    · exact (show prts 3 = [4] from rfl) ▸ nf_3 t
    · exact (show prts 4 = [4, 5] from rfl) ▸ nf_4 t
    · exact (show prts 5 = [4] from rfl) ▸ nf_5 t
    · exact (show prts 6 = [6] from rfl) ▸ nf_6 t
    · exact (show prts 7 = [6] from rfl) ▸ nf_7 t
    · exact (show prts 8 = [7] from rfl) ▸ nf_8 t
    · exact (show prts 9 = [8] from rfl) ▸ nf_9 t
  · rw [prts_none hk]
    rfl
theorem nf_opVal (s : K.RS) : nf (opVal s) = opVal s := by
  unfold nf
  rw [ki_opVal]
  exact nf_k _ _
theorem op_rw : RW opR (fun s => opW (opVal s)) := by
  intro s hb hz ht hg
  have hg : (allPR (prts (kd s)) (numR 1 9 s)).fault = 0 := hg
  have hg1 : (numR 1 9 s).fault = 0 := by
    by_cases h0 : (numR 1 9 s).fault = 0
    · exact h0
    · rw [allPR_stick _ _ h0] at hg; exact absurd hg h0
  have hk : kd s = iV s := by unfold kd; rw [if_pos hg1]
  obtain ⟨z, z1, z2, z3, z4⟩ := rI 1 9 s hb hz ht hg1
  have hrl : (rest s).length = s.data.length - s.taken := by simp [rest]
  obtain ⟨y, y1, y2, y3⟩ := all_rw (opVal s) (prts (kd s)) (numR 1 9 s) (by rw [z3]; exact hb) hg1 (by rw [z3]; show s.taken + z ≤ s.data.length; omega) hg (mt_op _ _)
  rw [z3, rest_go] at y1 y3
  simp only [List.length_drop] at y1
  refine ⟨z + y, by omega, by omega, ?_, fun s0 h0 hr => ?_⟩
  · show allPR (prts (kd s)) (numR 1 9 s) = _
    rw [y2, z3]
    simp [K.RS.go, Nat.add_assoc]
  · show allPW (opVal s) (prts (opVal s).ki) (putW (numW 1 9 (opVal s).ki) s0) = _
    rw [ki_opVal, putW_run h0, hk]
    have hw : numW 1 9 (iV s) s0 = { s0 with laid := s0.laid ++ (rest s).take z } := z4 s0 h0 (by omega)
    have hl : (s0.laid ++ List.take z (rest s)).length + y ≤ s0.most := by rw [List.length_append, List.length_take]; omega
    rw [hw, ← hk, y3 { s0 with laid := s0.laid ++ (rest s).take z } h0 hl, List.take_add, List.append_assoc]
end Cd
end Go.Proofs.YtbjcckfhfbjchaaGreat
