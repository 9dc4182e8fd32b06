import Derived.Test.YtbjcckfhfbjchaaGreatCGb
/- Codec: what may be has room (mathematics). -/
namespace Go.Proofs.YtbjcckfhfbjchaaGreat
namespace Cd
open Go.RowKit

/-- a put that lays at least one byte and at most B, wherever there is room for B -/
def Fit (f : K.WS → K.WS) (B : Nat) : Prop := ∀ s : K.WS, s.fault = 0 → s.laid.length + B ≤ s.most → ∃ bs : List Nat, 1 ≤ bs.length ∧ bs.length ≤ B ∧ f s = { s with laid := s.laid ++ bs }
theorem Fit.mono {f : K.WS → K.WS} {B C : Nat} (h : Fit f B) (hC : B ≤ C) : Fit f C := fun s hz hr => by
  obtain ⟨bs, h1, h2, h3⟩ := h s hz (by omega)
  exact ⟨bs, h1, by omega, h3⟩
theorem Fit.run {f : K.WS → K.WS} {B : Nat} (h : Fit f B) {s : K.WS} (hz : s.fault = 0) (hr : s.laid.length + B ≤ s.most) : (f s).fault = 0 ∧ (f s).most = s.most ∧ (f s).laid.length ≤ s.laid.length + B := by
  obtain ⟨bs, h1, h2, h3⟩ := h s hz hr
  rw [h3]
  exact ⟨hz, rfl, by simp; omega⟩
theorem fit_lay {bs : List Nat} (h : 1 ≤ bs.length) : Fit (fun s => s.lay bs) bs.length := fun _ _ hr => ⟨bs, h, Nat.le_refl _, lay_fits hr⟩
theorem fit_num (least most x : Int) (k : Nat) (h1 : least ≤ x) (h2 : 0 ≤ x) (h3 : x ≤ most) (h4 : x < ((128 ^ (k + 1) : Nat) : Int)) : Fit (numW least most x) (k + 1) := by
  have e : numW least most x = fun s => s.lay (K.num x.toNat) := by funext s; unfold numW; rw [if_neg (by omega)]
  rw [e]
  exact (fit_lay (K.num_pos _)).mono (K.num_len k _ (by omega))
theorem fit_text (m : Int) (bs : List Nat) (h1 : (bs.length : Int) ≤ m) (h2 : bs.length < 128) : Fit (textW m bs) (1 + bs.length) := by
  have e : textW m bs = fun s => s.lay (K.num bs.length ++ bs) := by funext s; unfold textW; rw [if_neg (by omega)]
  rw [e]
  have hl : (K.num bs.length ++ bs).length = 1 + bs.length := by rw [K.num_small h2]; simp; omega
  exact hl ▸ fit_lay (by omega)
theorem fit_word (X : Nat) : Fit (wordW X) 8 := fit_lay (bs := word X) (by rw [word_len]; decide)
theorem fit_seq {f g : K.WS → K.WS} {A B : Nat} (h1 : Fit f A) (h2 : Fit g B) : Fit (seqW f g) (A + B) := fun s hz hr => by
  obtain ⟨bs, b1, b2, b3⟩ := h1 s hz (by omega)
  obtain ⟨cs, c1, c2, c3⟩ := h2 { s with laid := s.laid ++ bs } hz (by simp; omega)
  refine ⟨bs ++ cs, by simp; omega, by simp; omega, ?_⟩
  show putW g (f s) = _
  rw [b3, putW_run (s := { s with laid := s.laid ++ bs }) hz, c3]
  simp
theorem fit_all : ∀ (fs : List (K.WS → K.WS)) (b : Nat → Nat) (_ : ∀ (i : Nat) f, fs[i]? = some f → Fit f (b i)) (s : K.WS), s.fault = 0 → s.laid.length + ((List.range fs.length).map b).sum ≤ s.most →
    ∃ bs : List Nat, bs.length ≤ ((List.range fs.length).map b).sum ∧ allW fs s = { s with laid := s.laid ++ bs }
  | [], _, _, s, _, _ => ⟨[], Nat.zero_le _, by show s = _; simp⟩
  | f :: r, b, h, s, hz, hr => by
    rw [List.length_cons, List.range_succ_eq_map, List.map_cons, List.sum_cons, List.map_map] at hr ⊢
    obtain ⟨bs, b1, b2, b3⟩ := h 0 f rfl s hz (by omega)
    have e : (b ∘ Nat.succ) = fun i => b (i + 1) := rfl
    rw [e] at hr ⊢
    obtain ⟨cs, c1, c2⟩ := fit_all r (fun i => b (i + 1)) (fun i g hg => h (i + 1) g (by simpa using hg)) { s with laid := s.laid ++ bs } hz (by simp; omega)
    refine ⟨bs ++ cs, by rw [List.length_append]; exact Nat.add_le_add b2 c1, ?_⟩
    rw [allW_cons]
    have ht : thingW f s = { s with laid := s.laid ++ bs } := by
      unfold thingW
      rw [if_pos hz, b3, if_neg (by show ¬ (s.laid ++ bs).length = s.laid.length; rw [List.length_append]; omega)]
    rw [ht, c2]
    simp
theorem fit_list (m : Int) (fs : List (K.WS → K.WS)) (b : Nat → Nat) (h : ∀ (i : Nat) f, fs[i]? = some f → Fit f (b i)) (hm : (fs.length : Int) ≤ m) (h8 : fs.length < 128) : Fit (listW m fs) (1 + ((List.range fs.length).map b).sum) := fun s hz hr => by
  have hn : K.num fs.length = [fs.length] := K.num_small h8
  obtain ⟨cs, c1, c2⟩ := fit_all fs b h { s with laid := s.laid ++ [fs.length] } hz (by simp; omega)
  refine ⟨fs.length :: cs, by simp, by simp; omega, ?_⟩
  unfold listW
  rw [if_neg (by omega), hn, lay_fits (by simp; omega), c2]
  simp
theorem sum_const (c : Nat) : ∀ n, ((List.range n).map fun _ => c).sum = n * c
  | 0 => by simp
  | n + 1 => by rw [List.range_succ, List.map_append, List.sum_append, sum_const c n]; simp [Nat.add_mul]
theorem fit_ints (z : List Int) (h : z.length ≤ 64) (hz : ∀ x ∈ z, 0 ≤ x ∧ x ≤ 63) : Fit (listW 64 (zW 0 63 z)) (1 + z.length) := by
  have hl : (zW 0 63 z).length = z.length := by simp [zW]
  have h1 := fit_list 64 (zW 0 63 z) (fun _ => 1) (fun i f hf => by
    unfold zW at hf
    rw [List.getElem?_map] at hf
    obtain ⟨x, hx, rfl⟩ := Option.map_eq_some_iff.1 hf
    have := hz x (List.mem_of_getElem? hx)
    exact fit_num 0 63 x 0 (by omega) (by omega) (by omega) (by simp; omega)) (by omega) (by omega)
  rw [sum_const, hl, Nat.mul_one] at h1
  exact h1
/-- the bounds of a node that may be, of n -/
def NvB (d : Nv) (n : Nat) : Prop := d.1.1.1.1.1.1.1.1.1.length ≤ 40 ∧ (0 ≤ d.1.1.1.1.1.1.1.1.2 ∧ d.1.1.1.1.1.1.1.1.2 ≤ 15) ∧ (1 ≤ d.1.1.1.1.1.1.1.2 ∧ d.1.1.1.1.1.1.1.2 ≤ 100) ∧ (1 ≤ d.1.1.1.1.1.1.2 ∧ d.1.1.1.1.1.1.2 ≤ 1099511627776) ∧ (0 ≤ d.1.1.1.1.1.2 ∧ d.1.1.1.1.1.2 ≤ 1099511627776) ∧ (1 ≤ d.1.1.1.1.2 ∧ d.1.1.1.1.2 ≤ 1099511627776) ∧ (1 ≤ d.1.1.1.2 ∧ d.1.1.1.2 ≤ 1099511627776) ∧ (0 ≤ d.1.1.2 ∧ d.1.1.2 ≤ 1099511627776) ∧ (d.1.2.length ≤ n ∧ ∀ x ∈ d.1.2, 0 ≤ x ∧ x < n) ∧ d.2.length ≤ n ∧ ∀ x ∈ d.2, 0 ≤ x ∧ x < n
theorem fit_node (d : Nv) (n : Nat) (hn : n ≤ 64) (h : NvB d n) : Fit (nodeW d) (75 + d.1.2.length + d.2.length) := by
  obtain ⟨⟨⟨⟨⟨⟨⟨⟨⟨nm, la⟩, bu⟩, cl⟩, be⟩, ba⟩, ca⟩, ji⟩, nl⟩, al⟩ := d
  obtain ⟨h1, h2, h3, h4, h5, h6, h7, h8, h9, h10, h11⟩ := h
  simp only at h1 h2 h3 h4 h5 h6 h7 h8 h9 h10 h11 ⊢
  have t1 := (fit_text 40 nm (by omega) (by omega)).mono (show 1 + nm.length ≤ 41 by omega)
  have t2 := fit_num 0 15 la 0 (by omega) (by omega) (by omega) (by simp; omega)
  have t3 := fit_num 1 100 bu 0 (by omega) (by omega) (by omega) (by simp; omega)
  have t4 := fit_num 1 1099511627776 cl 5 (by omega) (by omega) (by omega) (by simp; omega)
  have t5 := fit_num 0 1099511627776 be 5 (by omega) (by omega) (by omega) (by simp; omega)
  have t6 := fit_num 1 1099511627776 ba 5 (by omega) (by omega) (by omega) (by simp; omega)
  have t7 := fit_num 1 1099511627776 ca 5 (by omega) (by omega) (by omega) (by simp; omega)
  have t8 := fit_num 0 1099511627776 ji 5 (by omega) (by omega) (by omega) (by simp; omega)
  have t9 := fit_ints nl (by omega) (fun x hx => by have := h9.2 x hx; omega)
  have t10 := fit_ints al (by omega) (fun x hx => by have := h11 x hx; omega)
  have t := fit_seq (fit_seq (fit_seq (fit_seq (fit_seq (fit_seq (fit_seq (fit_seq (fit_seq t1 t2) t3) t4) t5) t6) t7) t8) t9) t10
  simp only [nodeW]
  exact t.mono (by omega)
theorem fit_plan (d : Pv) (h1 : d.1.1.length ≤ 40) (h2 : 1 ≤ d.1.2 ∧ d.1.2 ≤ 1099511627776) (h3 : d.2.length ≤ 64) (h4 : ∀ e ∈ d.2, NvB e d.2.length) (h5 : ((d.2.map fun e => e.1.2.length + e.2.length)).sum ≤ 256) : Fit (planW d) 5104 := by
  obtain ⟨⟨nm, dl⟩, ns⟩ := d
  simp only at h1 h2 h3 h4 h5
  have hl : (ns.map nodeW).length = ns.length := by simp
  have t1 := (fit_text 40 nm (by omega) (by omega)).mono (show 1 + nm.length ≤ 41 by omega)
  have t2 := fit_num 1 1099511627776 dl 5 (by omega) (by omega) (by omega) (by simp; omega)
  have t3 := fit_list 64 (ns.map nodeW) (fun i => match ns[i]? with | some e => 75 + (e.1.2.length + e.2.length) | none => 0) (fun i f hf => by
    rw [List.getElem?_map] at hf
    obtain ⟨x, hx, rfl⟩ := Option.map_eq_some_iff.1 hf
    show Fit (nodeW x) (match ns[i]? with | some e => 75 + (e.1.2.length + e.2.length) | none => 0)
    rw [hx]
    exact (fit_node x _ h3 (h4 x (List.mem_of_getElem? hx))).mono (by show _ ≤ 75 + (x.1.2.length + x.2.length); omega)) (by omega) (by omega)
  have hs : ((List.range (ns.map nodeW).length).map fun i => match ns[i]? with | some e => 75 + (e.1.2.length + e.2.length) | none => 0).sum = 75 * ns.length + (ns.map fun e => e.1.2.length + e.2.length).sum := by
    rw [hl]
    clear t1 t2 t3 h1 h2 h3 h4 h5 hl
    induction ns with
    | nil => rfl
    | cons x ns ih =>
      rw [List.length_cons, List.range_succ_eq_map, List.map_cons, List.sum_cons, List.map_map, List.map_cons, List.sum_cons]
      have e : ((fun i => match (x :: ns)[i]? with | some e => 75 + (e.1.2.length + e.2.length) | none => 0) ∘ Nat.succ) = fun i => match ns[i]? with | some e => 75 + (e.1.2.length + e.2.length) | none => 0 := by
        funext i
        show (match (x :: ns)[i + 1]? with | some e => 75 + (e.1.2.length + e.2.length) | none => 0) = _
        rw [List.getElem?_cons_succ]
      rw [e, ih]
      show 75 + (x.1.2.length + x.2.length) + _ = _
      omega
  rw [hs] at t3
  simp only [planW]
  exact (fit_seq (fit_seq t1 t2) t3).mono (by omega)
/-- what may be has room -/
theorem may_bd {d : Pv} (h : may d = true) : d.1.1.length ≤ 40 ∧ (1 ≤ d.1.2 ∧ d.1.2 ≤ 1099511627776) ∧ (1 ≤ d.2.length ∧ d.2.length ≤ 64) ∧ (∀ e ∈ d.2, NvB e d.2.length) ∧ ((d.2.map fun e => e.1.2.length + e.2.length)).sum ≤ 256 := by
  obtain ⟨⟨nm, dl⟩, ns⟩ := d
  unfold may at h
  have h := of_decide_eq_true h
  obtain ⟨h1, h2, h3, h4, _⟩ := Gr.chk_ok h
  simp only at h1 h2 h3 h4 ⊢
  rw [List.length_map] at h2 h3
  have hle : ∀ {b : ByteArray}, Gr.isNm b = true → b.size ≤ 40 := Gr.nm_size
  have hw : Gr.isNm (str nm) = true ∧ Gr.wI dl 1 1099511627776 = true ∧ ns.length ≤ 64 ∧ Gr.edges (ns.map toNo) ≤ 256 := by
    have hl := (Gr.cW_len h1).2
    rw [List.length_map] at hl
    unfold Gr.cW at h1
    split at h1
    · cases h1
    · rename_i c1
      split at h1
      · cases h1
      · rename_i c2
        split at h1
        · cases h1
        · rename_i c3
          simp only [Bool.not_eq_true', Bool.not_eq_false, Bool.or_eq_true, decide_eq_true_eq, not_or] at c1 c2 c3
          exact ⟨c1, c2, hl, by omega⟩
  obtain ⟨w1, w2, w3, w4⟩ := hw
  have s1 := hle w1
  rw [str_size] at s1
  unfold Gr.wI at w2
  simp only [Bool.and_eq_true, decide_eq_true_eq] at w2
  refine ⟨s1, w2, ⟨h3, w3⟩, fun e he => ?_, ?_⟩
  · obtain ⟨i, hi⟩ := List.getElem?_of_mem he
    have hx : (ns.map toNo)[i]? = some (toNo e) := by rw [List.getElem?_map, hi]; rfl
    obtain ⟨k1, k2, k3⟩ := Gr.cN_ok h2 i (toNo e) hx
    have n1 := hle k1
    have n1 : (str e.1.1.1.1.1.1.1.1.1).size ≤ 40 := n1
    rw [str_size] at n1
    have hin : ∀ (ah own : Int) (z : List Int), -1 ≤ ah → Gr.lOk ah z own (ns.length : Int) = true → ((z.length : Int) ≤ ns.length - 1 - ah ∨ z = []) ∧ ∀ x ∈ z, 0 ≤ x ∧ x < (ns.length : Int) := by
      intro ah own z
      induction z generalizing ah with
      | nil => intro _ _; exact ⟨.inr rfl, fun x hx => by cases hx⟩
      | cons y z ih =>
        intro ha hz
        unfold Gr.lOk at hz
        simp only [Bool.and_eq_true, Bool.not_eq_true', Bool.or_eq_false_iff, decide_eq_false_iff_not] at hz
        obtain ⟨⟨⟨z1, z2⟩, z3⟩, z4⟩ := hz
        obtain ⟨i1, i2⟩ := ih y (by omega) z4
        refine ⟨.inl ?_, fun x hx => ?_⟩
        · rw [List.length_cons]
          rcases i1 with i1 | rfl
          · omega
          · simp; omega
        · rcases List.mem_cons.1 hx with rfl | hx
          · omega
          · exact i2 x hx
    unfold Gr.eOk at k3
    simp only [Bool.and_eq_true] at k3
    have e1 := hin (-1) _ (toNo e).nl (by decide) k3.1.1
    have e2 := hin (-1) _ (toNo e).al (by decide) k3.1.2
    have e1 : ((e.1.2.length : Int) ≤ ns.length - 1 - -1 ∨ e.1.2 = []) ∧ ∀ x ∈ e.1.2, 0 ≤ x ∧ x < (ns.length : Int) := e1
    have e2 : ((e.2.length : Int) ≤ ns.length - 1 - -1 ∨ e.2 = []) ∧ ∀ x ∈ e.2, 0 ≤ x ∧ x < (ns.length : Int) := e2
    unfold Gr.fOk Gr.wI at k2
    simp only [Bool.and_eq_true, decide_eq_true_eq] at k2
    obtain ⟨⟨⟨⟨⟨⟨f1, f2⟩, f3⟩, f4⟩, f5⟩, f6⟩, f7⟩ := k2
    have f1 : (0 : Int) ≤ e.1.1.1.1.1.1.1.1.2 ∧ e.1.1.1.1.1.1.1.1.2 ≤ 15 := f1
    have f2 : (1 : Int) ≤ e.1.1.1.1.1.1.1.2 ∧ e.1.1.1.1.1.1.1.2 ≤ 100 := f2
    have f3 : (1 : Int) ≤ e.1.1.1.1.1.1.2 ∧ e.1.1.1.1.1.1.2 ≤ 1099511627776 := f3
    have f4 : (0 : Int) ≤ e.1.1.1.1.1.2 ∧ e.1.1.1.1.1.2 ≤ 1099511627776 := f4
    have f5 : (1 : Int) ≤ e.1.1.1.2 ∧ e.1.1.1.2 ≤ 1099511627776 := f5
    have f6 : (1 : Int) ≤ e.1.1.1.1.2 ∧ e.1.1.1.1.2 ≤ e.1.1.1.2 := f6
    have f7 : (0 : Int) ≤ e.1.1.2 ∧ e.1.1.2 ≤ 1099511627776 := f7
    refine ⟨n1, f1, f2, f3, f4, ⟨f6.1, by omega⟩, f5, f7, ⟨?_, e1.2⟩, ?_, e2.2⟩
    · rcases e1.1 with h | h
      · omega
      · rw [h]; simp
    · rcases e2.1 with h | h
      · omega
      · rw [h]; simp
  · unfold Gr.edges at w4
    rw [List.map_map] at w4
    exact w4
theorem fit_may (d : Pv) (h : may d = true) : Fit (planW d) 5104 := by
  obtain ⟨h1, h2, h3, h4, h5⟩ := may_bd h
  exact fit_plan d h1 h2 h3.2 h4 h5
/-- a part that may be -/
def PtOk (d : Ov) : Nat → Prop
  | 0 => may d.pl = true
  | 1 => d.ky.length ≤ 40
  | 2 => 0 ≤ d.la ∧ d.la ≤ 15
  | 3 => 0 ≤ d.wo ∧ d.wo ≤ 1099511627776
  | 4 => 1 ≤ d.tk ∧ d.tk ≤ 1099511627776
  | 5 => d.ry.length ≤ 64
  | 6 => 1 ≤ d.ru ∧ d.ru ≤ 1099511627776
  | 7 => True
  | _ => 0 ≤ d.ti ∧ d.ti ≤ 4611686018427387904
theorem fit_part (d : Ov) (j : Nat) (h : PtOk d j) : Fit (partW d j) (if j = 0 then 5104 else 65) := by
  match j with
  | 0 => exact fit_may d.pl h
  | 1 => exact (fit_text 40 d.ky (by have h : d.ky.length ≤ 40 := h; omega) (by have h : d.ky.length ≤ 40 := h; omega)).mono (by have h : d.ky.length ≤ 40 := h; simp; omega)
  | 2 => have h : 0 ≤ d.la ∧ d.la ≤ 15 := h; exact (fit_num 0 15 d.la 0 h.1 h.1 h.2 (by simp; omega)).mono (by decide)
  | 3 => have h : 0 ≤ d.wo ∧ d.wo ≤ 1099511627776 := h; exact (fit_num 0 1099511627776 d.wo 5 h.1 h.1 h.2 (by simp; omega)).mono (by decide)
  | 4 => have h : 1 ≤ d.tk ∧ d.tk ≤ 1099511627776 := h; exact (fit_num 1 1099511627776 d.tk 5 h.1 (by omega) h.2 (by simp; omega)).mono (by decide)
  | 5 => have h : d.ry.length ≤ 64 := h; exact (fit_text 64 d.ry (by omega) (by omega)).mono (by simp; omega)
  | 6 => have h : 1 ≤ d.ru ∧ d.ru ≤ 1099511627776 := h; exact (fit_num 1 1099511627776 d.ru 5 h.1 (by omega) h.2 (by simp; omega)).mono (by decide)
  | 7 => exact (fit_word d.lu).mono (by decide)
  | n + 8 => have h : 0 ≤ d.ti ∧ d.ti ≤ 4611686018427387904 := h; exact (fit_num 0 4611686018427387904 d.ti 8 h.1 h.1 h.2 (by simp; omega)).mono (by simp)
/-- an operation that may be -/
structure OpOk (d : Ov) : Prop where
  ki : 1 ≤ d.ki ∧ d.ki ≤ 9
  nf : nf d = d
  pt : ∀ j ∈ prts d.ki, PtOk d j
  lu : d.lu < 18446744073709551616
theorem fit_op (d : Ov) (h : OpOk d) : Fit (opW d) 5170 := by
  have t0 := fit_num 1 9 d.ki 0 h.ki.1 (by have := h.ki; omega) h.ki.2 (by have := h.ki; simp; omega)
  have hp := h.pt
  intro s hz hr
  have key : ∀ (ps : List Nat) (B : Nat), (∀ j ∈ ps, PtOk d j) → (ps.map fun j => if j = 0 then 5104 else 65).sum ≤ B → ∀ s : K.WS, s.fault = 0 → s.laid.length + B ≤ s.most → ∃ bs : List Nat, bs.length ≤ B ∧ allPW d ps s = { s with laid := s.laid ++ bs } := by
    intro ps
    induction ps with
    | nil => intro B _ _ s _ _; exact ⟨[], Nat.zero_le _, by show s = _; simp⟩
    | cons j r ih =>
      intro B hp hB s hz hr
      rw [List.map_cons, List.sum_cons] at hB
      obtain ⟨bs, b1, b2, b3⟩ := fit_part d j (hp j (by simp)) s hz (by omega)
      obtain ⟨cs, c1, c2⟩ := ih (B - bs.length) (fun i hi => hp i (by simp [hi])) (by omega) { s with laid := s.laid ++ bs } hz (by simp; omega)
      refine ⟨bs ++ cs, by simp; omega, ?_⟩
      show allPW d r (putW (partW d j) s) = _
      rw [putW_run hz, b3, c2]
      simp
  obtain ⟨bs, b1, b2, b3⟩ := t0 s hz (by omega)
  have hB : ((prts d.ki).map fun j => if j = 0 then 5104 else 65).sum ≤ 5169 := by
    unfold prts
    repeat' split
    all_goals decide
  obtain ⟨cs, c1, c2⟩ := key (prts d.ki) 5169 hp hB { s with laid := s.laid ++ bs } hz (by simp; omega)
  refine ⟨bs ++ cs, by simp; omega, by simp; omega, ?_⟩
  show allPW d (prts d.ki) (putW (numW 1 9 d.ki) s) = _
  rw [putW_run hz, b3, c2]
  simp
/-- what is read may be -/
theorem numR_ok {l m : Int} {s : K.RS} (hz : s.fault = 0) (h : (numR l m s).fault = 0) : l ≤ iV s ∧ iV s ≤ m ∧ 0 ≤ iV s := by
  unfold numR at h
  cases hp : K.pk (rest s) with
  | error e => rw [hp] at h; exact (fail_fault (by have := pk_err hp; omega) h hz).elim
  | ok r =>
    obtain ⟨n, z⟩ := r
    rw [hp] at h
    have e : iV s = n := by unfold iV numV; rw [hp]
    by_cases hb : (n : Int) < l ∨ m < (n : Int)
    · simp only [if_pos hb] at h
      exact (fail_fault (by decide) h hz).elim
    · rw [e]; omega
theorem part_ok (e : Ov) (j : Nat) (s : K.RS) (hz : s.fault = 0) (h : (partR j s).fault = 0) : PtOk (partV s e j) j := by
  match j with
  | 0 => exact (chkR_ok (p := may) (g := planR) (v := planVal) h).2.1
  | 1 => exact rowV_len 40 s
  | 2 => have := numR_ok (l := 0) (m := 15) hz h; exact ⟨this.1, this.2.1⟩
  | 3 => have := numR_ok (l := 0) (m := 1099511627776) hz h; exact ⟨this.1, this.2.1⟩
  | 4 => have := numR_ok (l := 1) (m := 1099511627776) hz h; exact ⟨this.1, this.2.1⟩
  | 5 => exact rowV_len 64 s
  | 6 => have := numR_ok (l := 1) (m := 1099511627776) hz h; exact ⟨this.1, this.2.1⟩
  | 7 => exact trivial
  | n + 8 => have := numR_ok (l := 0) (m := 4611686018427387904) hz h; exact ⟨this.1, this.2.1⟩
theorem all_ok : ∀ (ps : List Nat) (s : K.RS), s.fault = 0 → (allPR ps s).fault = 0 → ∀ (i j : Nat), ps[i]? = some j → (allPR (ps.take i) s).fault = 0 ∧ (partR j (allPR (ps.take i) s)).fault = 0
  | [], _, _, _, i, j, h => by simp at h
  | j0 :: r, s, hz, hg, i, j, h => by
    have hg : (allPR r (takeR (partR j0) s)).fault = 0 := hg
    rw [takeR_run hz] at hg
    have hg1 : (partR j0 s).fault = 0 := by
      by_cases h0 : (partR j0 s).fault = 0
      · exact h0
      · rw [allPR_stick r _ h0] at hg; exact absurd hg h0
    cases i with
    | zero =>
      obtain rfl : j0 = j := by simpa using h
      exact ⟨hz, hg1⟩
    | succ i =>
      have := all_ok r (partR j0 s) hg1 hg i j (by simpa using h)
      rw [List.take_succ_cons]
      show (allPR (r.take i) (takeR (partR j0) s)).fault = 0 ∧ (partR j (allPR (r.take i) (takeR (partR j0) s))).fault = 0
      rw [takeR_run hz]
      exact this
theorem wordV_lt8 {s : K.RS} (hb : Byt s) : wordV s < 18446744073709551616 := by
  unfold wordV
  have h := wval_lt (l := (rest s).take 8) (fun i => by
    rw [List.getD_eq_getElem?_getD]
    cases hx : ((rest s).take 8)[i]? with
    | none => decide
    | some x => exact hb.rest x (List.mem_of_mem_take (List.mem_of_getElem? hx))) 8
  exact Nat.lt_of_lt_of_eq h (by decide)
theorem dk_part (j : Nat) : Dk (partR j) := by
  match j with
  | 0 =>
    intro s
    show (chkR may planR planVal s).data = _
    unfold chkR
    split
    · rw [fail_data]; exact dk_plan s
    · exact dk_plan s
  | 1 => exact dk_row 40
  | 2 => exact dk_num _ _
  | 3 => exact dk_num _ _
  | 4 => exact dk_num _ _
  | 5 => exact dk_row 64
  | 6 => exact dk_num _ _
  | 7 => intro s; show (wordR s).data = _; unfold wordR; split; · rfl
         · exact fail_data _ _
  | n + 8 => exact dk_num _ _
theorem lu_part {s : K.RS} {e : Ov} (hb : Byt s) (he : e.lu < 18446744073709551616) (j : Nat) : (partV s e j).lu < 18446744073709551616 := by
  match j with
  | 0 => simp only [partV]; exact he
  | 1 => simp only [partV]; exact he
  | 2 => simp only [partV]; exact he
  | 3 => simp only [partV]; exact he
  | 4 => simp only [partV]; exact he
  | 5 => simp only [partV]; exact he
  | 6 => simp only [partV]; exact he
  | 7 => simp only [partV]; exact wordV_lt8 hb
  | n + 8 => simp only [partV]; exact he
theorem lu_all : ∀ (ps : List Nat) (s : K.RS) (e : Ov), Byt s → e.lu < 18446744073709551616 → (allPV ps s e).lu < 18446744073709551616
  | [], _, _, _, he => he
  | j :: r, s, e, hb, he => lu_all r (takeR (partR j) s) (partV s e j) (byt_of (dk_take (dk_part j)) hb) (lu_part hb he j)
theorem pt_k (k : Int) (t : K.RS) (hz : t.fault = 0) (hg : (allPR (prts k) t).fault = 0) : ∀ j ∈ prts k, PtOk (allPV (prts k) t (ov0 k)) j := by
  have ha := all_ok (prts k) t hz hg
  by_cases hk : 1 ≤ k ∧ k ≤ 9
  · rcases (by omega : k = 1 ∨ k = 2 ∨ k = 3 ∨ k = 4 ∨ k = 5 ∨ k = 6 ∨ k = 7 ∨ k = 8 ∨ k = 9) with rfl | rfl | rfl | rfl | rfl | rfl | rfl | rfl | rfl
    · intro j hj
      rcases (show j = 0 ∨ j = 1 by have hj : j ∈ [0, 1] := hj; simpa using hj) with rfl | rfl
      · exact part_ok (ov0 1) 0 t (ha 0 0 rfl).1 (ha 0 0 rfl).2
      · exact part_ok (partV t (ov0 1) 0) 1 (takeR (partR 0) t) (ha 1 1 rfl).1 (ha 1 1 rfl).2
    · intro j hj
      rcases (show j = 2 ∨ j = 3 by have hj : j ∈ [2, 3] := hj; simpa using hj) with rfl | rfl
      · exact part_ok (ov0 2) 2 t (ha 0 2 rfl).1 (ha 0 2 rfl).2
      · exact part_ok (partV t (ov0 2) 2) 3 (takeR (partR 2) t) (ha 1 3 rfl).1 (ha 1 3 rfl).2
    · intro j hj
      obtain rfl : j = 4 := by have hj : j ∈ [4] := hj; simpa using hj
      exact part_ok (ov0 3) 4 t (ha 0 4 rfl).1 (ha 0 4 rfl).2
    · intro j hj
      rcases (show j = 4 ∨ j = 5 by have hj : j ∈ [4, 5] := hj; simpa using hj) with rfl | rfl
      · exact part_ok (ov0 4) 4 t (ha 0 4 rfl).1 (ha 0 4 rfl).2
      · exact part_ok (partV t (ov0 4) 4) 5 (takeR (partR 4) t) (ha 1 5 rfl).1 (ha 1 5 rfl).2
    · intro j hj
      obtain rfl : j = 4 := by have hj : j ∈ [4] := hj; simpa using hj
      exact part_ok (ov0 5) 4 t (ha 0 4 rfl).1 (ha 0 4 rfl).2
    · intro j hj
      obtain rfl : j = 6 := by have hj : j ∈ [6] := hj; simpa using hj
      exact part_ok (ov0 6) 6 t (ha 0 6 rfl).1 (ha 0 6 rfl).2
    · intro j hj
      obtain rfl : j = 6 := by have hj : j ∈ [6] := hj; simpa using hj
      exact part_ok (ov0 7) 6 t (ha 0 6 rfl).1 (ha 0 6 rfl).2
    · intro j hj
      obtain rfl : j = 7 := by have hj : j ∈ [7] := hj; simpa using hj
      exact part_ok (ov0 8) 7 t (ha 0 7 rfl).1 (ha 0 7 rfl).2
    · intro j hj
      obtain rfl : j = 8 := by have hj : j ∈ [8] := hj; simpa using hj
      exact part_ok (ov0 9) 8 t (ha 0 8 rfl).1 (ha 0 8 rfl).2
  · intro j hj
    have e : prts k = [] := by unfold prts; simp only [show ¬ k = 1 by omega, show ¬ k = 2 by omega, show ¬ k = 3 by omega, show ¬ k = 4 by omega, show ¬ k = 5 by omega, show ¬ k = 6 by omega, show ¬ k = 7 by omega, show ¬ k = 8 by omega, show ¬ k = 9 by omega, if_false]
    rw [e] at hj
    cases hj
theorem opVal_ok {s : K.RS} (hb : Byt s) (hz : s.fault = 0) (h : (opR s).fault = 0) : OpOk (opVal s) := by
  have hg : (allPR (prts (kd s)) (numR 1 9 s)).fault = 0 := h
  have hg1 : (numR 1 9 s).fault = 0 := by
    by_cases h0 : (numR 1 9 s).fault = 0
    · exact h0
    · rw [allPR_stick _ _ h0] at hg; exact absurd hg h0
  have hk : kd s = iV s := by unfold kd; rw [if_pos hg1]
  have hr := numR_ok hz hg1
  refine ⟨by rw [ki_opVal, hk]; exact ⟨hr.1, hr.2.1⟩, nf_opVal s, ?_, lu_all _ _ _ (byt_of (dk_num _ _) hb) (by show (0 : Nat) < _; decide)⟩
  rw [ki_opVal]
  exact pt_k (kd s) (numR 1 9 s) hg1 hg
end Cd
end Go.Proofs.YtbjcckfhfbjchaaGreat

/- Codec: what was read can be put: an operation, a plan in memory. -/
namespace Go.Proofs.YtbjcckfhfbjchaaGreat
namespace Cd
open Go.RowKit Go.Deep

/-- what a value in memory must be to be handed on -/
structure OvK (d : Ov) : Prop where
  ok : OpOk d
  pl : PvK d.pl
  ky : ∀ x ∈ d.ky, x < 256
  ry : ∀ x ∈ d.ry, x < 256
  kyn : d.ky.length ≤ 64
  ryn : d.ry.length ≤ 64
  la : d.la ≤ 9223372036854775807
  wo : d.wo ≤ 9223372036854775807
  tk : d.tk ≤ 9223372036854775807
  ru : d.ru ≤ 9223372036854775807
  ti : d.ti ≤ 9223372036854775807
structure OvB (d : Ov) : Prop where
  pl : PvK d.pl
  ky : ∀ x ∈ d.ky, x < 256
  ry : ∀ x ∈ d.ry, x < 256
  kyn : d.ky.length ≤ 64
  ryn : d.ry.length ≤ 64
  la : d.la ≤ 9223372036854775807
  wo : d.wo ≤ 9223372036854775807
  tk : d.tk ≤ 9223372036854775807
  ru : d.ru ≤ 9223372036854775807
  ti : d.ti ≤ 9223372036854775807
theorem pvK_nil : PvK (([], 0), []) := ⟨by decide, (fun x hx => by cases hx), by decide, by decide, fun e he => by cases he⟩
theorem ovB_zero (k : Int) : OvB (ov0 k) := ⟨pvK_nil, (fun x hx => by cases hx), (fun x hx => by cases hx), by show ([] : List Nat).length ≤ 64; decide, by show ([] : List Nat).length ≤ 64; decide, by show (0 : Int) ≤ _; decide, by show (0 : Int) ≤ _; decide, by show (0 : Int) ≤ _; decide, by show (0 : Int) ≤ _; decide, by show (0 : Int) ≤ _; decide⟩
theorem ovB_part {s : K.RS} {e : Ov} (hb : Byt s) (he : OvB e) (j : Nat) : OvB (partV s e j) := by
  match j with
  | 0 => simp only [partV]; exact ⟨planVal_k hb, he.ky, he.ry, he.kyn, he.ryn, he.la, he.wo, he.tk, he.ru, he.ti⟩
  | 1 => simp only [partV]; exact ⟨he.pl, rowV_byt hb, he.ry, Nat.le_trans (rowV_len 40 s) (by decide), he.ryn, he.la, he.wo, he.tk, he.ru, he.ti⟩
  | 2 => simp only [partV]; exact ⟨he.pl, he.ky, he.ry, he.kyn, he.ryn, iV_le hb, he.wo, he.tk, he.ru, he.ti⟩
  | 3 => simp only [partV]; exact ⟨he.pl, he.ky, he.ry, he.kyn, he.ryn, he.la, iV_le hb, he.tk, he.ru, he.ti⟩
  | 4 => simp only [partV]; exact ⟨he.pl, he.ky, he.ry, he.kyn, he.ryn, he.la, he.wo, iV_le hb, he.ru, he.ti⟩
  | 5 => simp only [partV]; exact ⟨he.pl, he.ky, rowV_byt hb, he.kyn, rowV_len 64 s, he.la, he.wo, he.tk, he.ru, he.ti⟩
  | 6 => simp only [partV]; exact ⟨he.pl, he.ky, he.ry, he.kyn, he.ryn, he.la, he.wo, he.tk, iV_le hb, he.ti⟩
  | 7 => simp only [partV]; exact ⟨he.pl, he.ky, he.ry, he.kyn, he.ryn, he.la, he.wo, he.tk, he.ru, he.ti⟩
  | n + 8 => simp only [partV]; exact ⟨he.pl, he.ky, he.ry, he.kyn, he.ryn, he.la, he.wo, he.tk, he.ru, iV_le hb⟩
theorem ovB_all : ∀ (ps : List Nat) (s : K.RS) (e : Ov), Byt s → OvB e → OvB (allPV ps s e)
  | [], _, _, _, he => he
  | j :: r, s, e, hb, he => ovB_all r (takeR (partR j) s) (partV s e j) (byt_of (dk_take (dk_part j)) hb) (ovB_part hb he j)
theorem opVal_b {s : K.RS} (hb : Byt s) : OvB (opVal s) := ovB_all _ _ _ (byt_of (dk_num _ _) hb) (ovB_zero _)
theorem opVal_k {s : K.RS} (hb : Byt s) (hz : s.fault = 0) (h : (opR s).fault = 0) : OvK (opVal s) :=
  ⟨opVal_ok hb hz h, (opVal_b hb).pl, (opVal_b hb).ky, (opVal_b hb).ry, (opVal_b hb).kyn, (opVal_b hb).ryn, (opVal_b hb).la, (opVal_b hb).wo, (opVal_b hb).tk, (opVal_b hb).ru, (opVal_b hb).ti⟩
theorem nil_toList : (str []).toList = [] := by kernel_rfl
theorem emp0 : ((str []).toList.isEmpty && (0 : Int) == 0 && (((0 : Nat) : Int)) == 0) = true := by rw [nil_toList]; rfl
theorem emp1 : (str []).toList.isEmpty = true := by rw [nil_toList]; rfl
theorem oe_1 (d : Ov) : oE (emps (str (setAll d [0, 1] (ov0 1)).pl.1.1) (setAll d [0, 1] (ov0 1)).pl.1.2 (setAll d [0, 1] (ov0 1)).pl.2.length (str (setAll d [0, 1] (ov0 1)).ky) (setAll d [0, 1] (ov0 1)).la (setAll d [0, 1] (ov0 1)).wo (setAll d [0, 1] (ov0 1)).tk (setAll d [0, 1] (ov0 1)).ry.length (setAll d [0, 1] (ov0 1)).ru ((setAll d [0, 1] (ov0 1)).lu : Int) (setAll d [0, 1] (ov0 1)).ti) [0, 1] = true := by
  refine oE_true fun i hi => ?_
  rcases (by omega : i = 0 ∨ i = 1 ∨ i = 2 ∨ i = 3 ∨ i = 4 ∨ i = 5 ∨ i = 6 ∨ i = 7 ∨ i = 8) with rfl | rfl | rfl | rfl | rfl | rfl | rfl | rfl | rfl
  · exact .inr (by simp)
  · exact .inr (by simp)
  · exact .inl rfl
  · exact .inl rfl
  · exact .inl rfl
  · exact .inl rfl
  · exact .inl rfl
  · exact .inl rfl
  · exact .inl rfl
theorem oe_2 (d : Ov) : oE (emps (str (setAll d [2, 3] (ov0 2)).pl.1.1) (setAll d [2, 3] (ov0 2)).pl.1.2 (setAll d [2, 3] (ov0 2)).pl.2.length (str (setAll d [2, 3] (ov0 2)).ky) (setAll d [2, 3] (ov0 2)).la (setAll d [2, 3] (ov0 2)).wo (setAll d [2, 3] (ov0 2)).tk (setAll d [2, 3] (ov0 2)).ry.length (setAll d [2, 3] (ov0 2)).ru ((setAll d [2, 3] (ov0 2)).lu : Int) (setAll d [2, 3] (ov0 2)).ti) [2, 3] = true := by
  refine oE_true fun i hi => ?_
  rcases (by omega : i = 0 ∨ i = 1 ∨ i = 2 ∨ i = 3 ∨ i = 4 ∨ i = 5 ∨ i = 6 ∨ i = 7 ∨ i = 8) with rfl | rfl | rfl | rfl | rfl | rfl | rfl | rfl | rfl
  · exact .inl (congrArg some emp0)
  · exact .inl (congrArg some emp1)
  · exact .inr (by simp)
  · exact .inr (by simp)
  · exact .inl rfl
  · exact .inl rfl
  · exact .inl rfl
  · exact .inl rfl
  · exact .inl rfl
theorem oe_3 (d : Ov) : oE (emps (str (setAll d [4] (ov0 3)).pl.1.1) (setAll d [4] (ov0 3)).pl.1.2 (setAll d [4] (ov0 3)).pl.2.length (str (setAll d [4] (ov0 3)).ky) (setAll d [4] (ov0 3)).la (setAll d [4] (ov0 3)).wo (setAll d [4] (ov0 3)).tk (setAll d [4] (ov0 3)).ry.length (setAll d [4] (ov0 3)).ru ((setAll d [4] (ov0 3)).lu : Int) (setAll d [4] (ov0 3)).ti) [4] = true := by
  refine oE_true fun i hi => ?_
  rcases (by omega : i = 0 ∨ i = 1 ∨ i = 2 ∨ i = 3 ∨ i = 4 ∨ i = 5 ∨ i = 6 ∨ i = 7 ∨ i = 8) with rfl | rfl | rfl | rfl | rfl | rfl | rfl | rfl | rfl
  · exact .inl (congrArg some emp0)
  · exact .inl (congrArg some emp1)
  · exact .inl rfl
  · exact .inl rfl
  · exact .inr (by simp)
  · exact .inl rfl
  · exact .inl rfl
  · exact .inl rfl
  · exact .inl rfl
theorem oe_4 (d : Ov) : oE (emps (str (setAll d [4, 5] (ov0 4)).pl.1.1) (setAll d [4, 5] (ov0 4)).pl.1.2 (setAll d [4, 5] (ov0 4)).pl.2.length (str (setAll d [4, 5] (ov0 4)).ky) (setAll d [4, 5] (ov0 4)).la (setAll d [4, 5] (ov0 4)).wo (setAll d [4, 5] (ov0 4)).tk (setAll d [4, 5] (ov0 4)).ry.length (setAll d [4, 5] (ov0 4)).ru ((setAll d [4, 5] (ov0 4)).lu : Int) (setAll d [4, 5] (ov0 4)).ti) [4, 5] = true := by
  refine oE_true fun i hi => ?_
  rcases (by omega : i = 0 ∨ i = 1 ∨ i = 2 ∨ i = 3 ∨ i = 4 ∨ i = 5 ∨ i = 6 ∨ i = 7 ∨ i = 8) with rfl | rfl | rfl | rfl | rfl | rfl | rfl | rfl | rfl
  · exact .inl (congrArg some emp0)
  · exact .inl (congrArg some emp1)
  · exact .inl rfl
  · exact .inl rfl
  · exact .inr (by simp)
  · exact .inr (by simp)
  · exact .inl rfl
  · exact .inl rfl
  · exact .inl rfl
theorem oe_5 (d : Ov) : oE (emps (str (setAll d [4] (ov0 5)).pl.1.1) (setAll d [4] (ov0 5)).pl.1.2 (setAll d [4] (ov0 5)).pl.2.length (str (setAll d [4] (ov0 5)).ky) (setAll d [4] (ov0 5)).la (setAll d [4] (ov0 5)).wo (setAll d [4] (ov0 5)).tk (setAll d [4] (ov0 5)).ry.length (setAll d [4] (ov0 5)).ru ((setAll d [4] (ov0 5)).lu : Int) (setAll d [4] (ov0 5)).ti) [4] = true := by
  refine oE_true fun i hi => ?_
  rcases (by omega : i = 0 ∨ i = 1 ∨ i = 2 ∨ i = 3 ∨ i = 4 ∨ i = 5 ∨ i = 6 ∨ i = 7 ∨ i = 8) with rfl | rfl | rfl | rfl | rfl | rfl | rfl | rfl | rfl
  · exact .inl (congrArg some emp0)
  · exact .inl (congrArg some emp1)
  · exact .inl rfl
  · exact .inl rfl
  · exact .inr (by simp)
  · exact .inl rfl
  · exact .inl rfl
  · exact .inl rfl
  · exact .inl rfl
theorem oe_6 (d : Ov) : oE (emps (str (setAll d [6] (ov0 6)).pl.1.1) (setAll d [6] (ov0 6)).pl.1.2 (setAll d [6] (ov0 6)).pl.2.length (str (setAll d [6] (ov0 6)).ky) (setAll d [6] (ov0 6)).la (setAll d [6] (ov0 6)).wo (setAll d [6] (ov0 6)).tk (setAll d [6] (ov0 6)).ry.length (setAll d [6] (ov0 6)).ru ((setAll d [6] (ov0 6)).lu : Int) (setAll d [6] (ov0 6)).ti) [6] = true := by
  refine oE_true fun i hi => ?_
  rcases (by omega : i = 0 ∨ i = 1 ∨ i = 2 ∨ i = 3 ∨ i = 4 ∨ i = 5 ∨ i = 6 ∨ i = 7 ∨ i = 8) with rfl | rfl | rfl | rfl | rfl | rfl | rfl | rfl | rfl
  · exact .inl (congrArg some emp0)
  · exact .inl (congrArg some emp1)
  · exact .inl rfl
  · exact .inl rfl
  · exact .inl rfl
  · exact .inl rfl
  · exact .inr (by simp)
  · exact .inl rfl
  · exact .inl rfl
theorem oe_7 (d : Ov) : oE (emps (str (setAll d [6] (ov0 7)).pl.1.1) (setAll d [6] (ov0 7)).pl.1.2 (setAll d [6] (ov0 7)).pl.2.length (str (setAll d [6] (ov0 7)).ky) (setAll d [6] (ov0 7)).la (setAll d [6] (ov0 7)).wo (setAll d [6] (ov0 7)).tk (setAll d [6] (ov0 7)).ry.length (setAll d [6] (ov0 7)).ru ((setAll d [6] (ov0 7)).lu : Int) (setAll d [6] (ov0 7)).ti) [6] = true := by
  refine oE_true fun i hi => ?_
  rcases (by omega : i = 0 ∨ i = 1 ∨ i = 2 ∨ i = 3 ∨ i = 4 ∨ i = 5 ∨ i = 6 ∨ i = 7 ∨ i = 8) with rfl | rfl | rfl | rfl | rfl | rfl | rfl | rfl | rfl
  · exact .inl (congrArg some emp0)
  · exact .inl (congrArg some emp1)
  · exact .inl rfl
  · exact .inl rfl
  · exact .inl rfl
  · exact .inl rfl
  · exact .inr (by simp)
  · exact .inl rfl
  · exact .inl rfl
theorem oe_8 (d : Ov) : oE (emps (str (setAll d [7] (ov0 8)).pl.1.1) (setAll d [7] (ov0 8)).pl.1.2 (setAll d [7] (ov0 8)).pl.2.length (str (setAll d [7] (ov0 8)).ky) (setAll d [7] (ov0 8)).la (setAll d [7] (ov0 8)).wo (setAll d [7] (ov0 8)).tk (setAll d [7] (ov0 8)).ry.length (setAll d [7] (ov0 8)).ru ((setAll d [7] (ov0 8)).lu : Int) (setAll d [7] (ov0 8)).ti) [7] = true := by
  refine oE_true fun i hi => ?_
  rcases (by omega : i = 0 ∨ i = 1 ∨ i = 2 ∨ i = 3 ∨ i = 4 ∨ i = 5 ∨ i = 6 ∨ i = 7 ∨ i = 8) with rfl | rfl | rfl | rfl | rfl | rfl | rfl | rfl | rfl
  · exact .inl (congrArg some emp0)
  · exact .inl (congrArg some emp1)
  · exact .inl rfl
  · exact .inl rfl
  · exact .inl rfl
  · exact .inl rfl
  · exact .inl rfl
  · exact .inr (by simp)
  · exact .inl rfl
theorem oe_9 (d : Ov) : oE (emps (str (setAll d [8] (ov0 9)).pl.1.1) (setAll d [8] (ov0 9)).pl.1.2 (setAll d [8] (ov0 9)).pl.2.length (str (setAll d [8] (ov0 9)).ky) (setAll d [8] (ov0 9)).la (setAll d [8] (ov0 9)).wo (setAll d [8] (ov0 9)).tk (setAll d [8] (ov0 9)).ry.length (setAll d [8] (ov0 9)).ru ((setAll d [8] (ov0 9)).lu : Int) (setAll d [8] (ov0 9)).ti) [8] = true := by
  refine oE_true fun i hi => ?_
  rcases (by omega : i = 0 ∨ i = 1 ∨ i = 2 ∨ i = 3 ∨ i = 4 ∨ i = 5 ∨ i = 6 ∨ i = 7 ∨ i = 8) with rfl | rfl | rfl | rfl | rfl | rfl | rfl | rfl | rfl
  · exact .inl (congrArg some emp0)
  · exact .inl (congrArg some emp1)
  · exact .inl rfl
  · exact .inl rfl
  · exact .inl rfl
  · exact .inl rfl
  · exact .inl rfl
  · exact .inl rfl
  · exact .inr (by simp)
/-- an operation that may be passes Check -/
theorem oe_nf {d : Ov} (h : nf d = d) (hk : 1 ≤ d.ki ∧ d.ki ≤ 9) : oE (emps (str d.pl.1.1) d.pl.1.2 d.pl.2.length (str d.ky) d.la d.wo d.tk d.ry.length d.ru (d.lu : Int) d.ti) (prts d.ki) = true := by
  unfold nf at h
  rcases (by omega : d.ki = 1 ∨ d.ki = 2 ∨ d.ki = 3 ∨ d.ki = 4 ∨ d.ki = 5 ∨ d.ki = 6 ∨ d.ki = 7 ∨ d.ki = 8 ∨ d.ki = 9) with e | e | e | e | e | e | e | e | e
  · rw [e, show prts 1 = [0, 1] from rfl] at h
    have t := oe_1 d
    rw [h] at t
    rw [e, show prts 1 = [0, 1] from rfl]
    exact t
  · rw [e, show prts 2 = [2, 3] from rfl] at h
    have t := oe_2 d
    rw [h] at t
    rw [e, show prts 2 = [2, 3] from rfl]
    exact t
  · rw [e, show prts 3 = [4] from rfl] at h
    have t := oe_3 d
    rw [h] at t
    rw [e, show prts 3 = [4] from rfl]
    exact t
  · rw [e, show prts 4 = [4, 5] from rfl] at h
    have t := oe_4 d
    rw [h] at t
    rw [e, show prts 4 = [4, 5] from rfl]
    exact t
  · rw [e, show prts 5 = [4] from rfl] at h
    have t := oe_5 d
    rw [h] at t
    rw [e, show prts 5 = [4] from rfl]
    exact t
  · rw [e, show prts 6 = [6] from rfl] at h
    have t := oe_6 d
    rw [h] at t
    rw [e, show prts 6 = [6] from rfl]
    exact t
  · rw [e, show prts 7 = [6] from rfl] at h
    have t := oe_7 d
    rw [h] at t
    rw [e, show prts 7 = [6] from rfl]
    exact t
  · rw [e, show prts 8 = [7] from rfl] at h
    have t := oe_8 d
    rw [h] at t
    rw [e, show prts 8 = [7] from rfl]
    exact t
  · rw [e, show prts 9 = [8] from rfl] at h
    have t := oe_9 d
    rw [h] at t
    rw [e, show prts 9 = [8] from rfl]
    exact t
theorem hld_ok {d : Ov} (h : OpOk d) : hldB d (prts d.ki) = true := by
  have key : ∀ (ps : List Nat), (∀ j ∈ ps, PtOk d j) → ∀ s : K.WS, s.fault = 0 → s.laid.length + ps.length * 65 ≤ s.most → (hldW d ps s).fault = 0 := by
    intro ps
    induction ps with
    | nil => intro _ s hz _; exact hz
    | cons j r ih =>
      intro hp s hz hr
      have e : j :: r = [j] ++ r := rfl
      rw [e, hldW_app]
      rw [List.length_cons] at hr
      have hp2 : ∀ i ∈ r, PtOk d i := fun i hi => hp i (by simp [hi])
      by_cases hj : j = 0
      · have e1 : hldW d [j] s = s := by
          have := hldW_succ d (ps := [j]) (k := 0) (j := j) rfl s
          simp only [List.take_succ_cons, List.take_zero, List.take_nil] at this
          rw [this, if_pos hj]
          rfl
        rw [e1]
        exact ih hp2 s hz (by omega)
      · have e1 : hldW d [j] s = partW d j s := by
          have := hldW_succ d (ps := [j]) (k := 0) (j := j) rfl s
          simp only [List.take_succ_cons, List.take_zero, List.take_nil] at this
          rw [this, if_neg hj]
          exact putW_run hz
        have hf := fit_part d j (hp j (by simp))
        rw [if_neg hj] at hf
        obtain ⟨f1, f2, f3⟩ := hf.run hz (by omega)
        rw [e1]
        exact ih hp2 _ f1 (by omega)
  have hl : (prts d.ki).length ≤ 2 := by
    unfold prts
    repeat' split
    all_goals decide
  have h8 : room 8192 = 8192 := by decide
  have := key (prts d.ki) h.pt ⟨[], room 8192, 0⟩ rfl (by show 0 + _ ≤ room 8192; omega)
  unfold hldB
  rw [this]
  rfl
theorem prts_some {k : Int} (h : 1 ≤ k ∧ k ≤ 9) : (prts k).length ≠ 0 := by
  rcases (by omega : k = 1 ∨ k = 2 ∨ k = 3 ∨ k = 4 ∨ k = 5 ∨ k = 6 ∨ k = 7 ∨ k = 8 ∨ k = 9) with rfl | rfl | rfl | rfl | rfl | rfl | rfl | rfl | rfl
  all_goals decide
theorem prts_one {j : Nat} (h : j = 0) : j ∈ prts 1 := by subst h; decide
theorem chk_ok12 {d : Ov} (h : OpOk d) (xs : List Gr.No) (hx : d.ki = 1 → (Gr.chk (str d.pl.1.1) d.pl.1.2 xs).2 = 0) :
    opChk (str d.pl.1.1) d.pl.1.2 d.pl.2.length (str d.ky) d.la d.wo d.tk d.ry.length d.ru (d.lu : Int) d.ti d xs = 0 := by
  unfold opChk
  rw [oe_nf h.nf h.ki, hld_ok h, if_neg (fun c => c.elim (prts_some h.ki) fun c => c.elim (fun c => by cases c) (fun c => by cases c))]
  split
  · exact hx (by assumption)
  · rfl
theorem pok_of {d : Pv} {xs : List Gr.No} (hk : PvK d) (h : xs.map er = d.2.map toNo) : POk (str d.1.1) d.1.2 xs := by
  have hl : xs.length = d.2.length := by simpa using congrArg List.length h
  refine ⟨by rw [str_size]; have := hk.nm; omega, hk.dl, by have := hk.len; omega, fun x hx => ?_⟩
  have h1 : er x ∈ d.2.map toNo := by rw [← h]; exact List.mem_map_of_mem hx
  obtain ⟨e, he, h2⟩ := List.mem_map.1 h1
  have q := congrArg Gr.No.q h2
  have t0 : e.1.2 = x.nl := congrArg Gr.No.nl h2
  have t1 : e.2 = x.al := congrArg Gr.No.al h2
  have t2 : str e.1.1.1.1.1.1.1.1.1 = x.q.nm := congrArg Gr.Nd.nm q
  have t3 : e.1.1.1.1.1.1.1.1.2 = x.q.la := congrArg Gr.Nd.la q
  have t4 : e.1.1.1.1.1.1.1.2 = x.q.bu := congrArg Gr.Nd.bu q
  have t5 : e.1.1.1.1.1.1.2 = x.q.cl := congrArg Gr.Nd.cl q
  have t6 : e.1.1.1.1.1.2 = x.q.be := congrArg Gr.Nd.be q
  have t7 : e.1.1.1.1.2 = x.q.ba := congrArg Gr.Nd.ba q
  have t8 : e.1.1.1.2 = x.q.ca := congrArg Gr.Nd.ca q
  have t9 : e.1.1.2 = x.q.ji := congrArg Gr.Nd.ji q
  have k := hk.nds e he
  refine ⟨by rw [← t2, str_size]; have := k.nm; omega, t3 ▸ k.i1, t4 ▸ k.i2, t5 ▸ k.i3, t6 ▸ k.i4, t7 ▸ k.i5, t8 ▸ k.i6, t9 ▸ k.i7, t0 ▸ k.l1.2, t1 ▸ k.l2.2⟩
/-- a plan that was read, as one that came in -/
theorem PlV.inp {d : Pv} {w : World} {v : Value} (h : PlV d w v) (hk : PvK d) : ∃ a n c xs, v = .agg #[.string (str d.1.1), .int .i64 d.1.2, .slice a n c] ∧ Gr.RdP w.heap.size w (a, n, c) xs ∧ Gr.Sz (str d.1.1) xs ∧ POk (str d.1.1) d.1.2 xs ∧ pv (str d.1.1) d.1.2 xs = d ∧ may d = decide ((Gr.chk (str d.1.1) d.1.2 xs).2 = 0) ∧ n = d.2.length ∧ xs.map er = d.2.map toNo := by
  obtain ⟨a, n, c, xs, e, h1, h2, h3, h4, _, _⟩ := h.rd hk
  refine ⟨a, n, c, xs, e, h1, sz_of hk h2, pok_of hk h2, ?_, may_rd h2, h4, h2⟩
  unfold pv
  rw [sb_str _ hk.by_, h3]
theorem own_c0 {w : World} {T : TypeId} {es B : Nat} {a : Option Addr} {n m c : Nat} {vs : List Value} (h : w.ownsRow B T es (.slice a n c) m vs) : a = none → c = 0 := fun e => by
  rcases h.2 with ⟨e1, _⟩ | ⟨g, cap, cur, e1, _⟩
  · injection e1
  · injection e1 with e1
    rw [e] at e1
    cases e1
/-- an operation that was read, as one that came in -/
theorem OvV.inp {d : Ov} {w : World} {v : Value} (h : OvV d w v) (hk : OvK d) : ∃ ki nm dl x1 x2 x3 ky la wo tk y1 y2 y3 ru lu ti xs, v = .agg #[.int .i64 ki, .string nm, .int .i64 dl, .slice x1 x2 x3, .string ky, .int .i64 la, .int .i64 wo, .int .i64 tk, .slice y1 y2 y3, .int .i64 ru, .int .u64 lu, .int .i64 ti] ∧
    OpD w.heap.size w ki nm dl x1 x2 x3 ky la wo tk y1 y2 y3 ru lu ti d xs ∧ ki ≤ 9223372036854775807 ∧ Gr.Sz nm xs ∧ POk nm dl xs ∧ opChk nm dl x2 ky la wo tk y2 ru lu ti d xs = 0 ∧ xs.map er = d.pl.2.map toNo := by
  obtain ⟨ki, nm, dl, x1, x2, x3, ky, la, wo, tk, y1, y2, y3, ru, lu, ti, e, ⟨e1, e2, e3, e4, e5, e6, e7, e8, e9, e10⟩, hn, ho⟩ := h
  subst e1 e2 e3 e4 e5 e6 e7 e8 e9 e10
  have hp : PlV d.pl w (.agg #[.string (str d.pl.1.1), .int .i64 d.pl.1.2, .slice x1 x2 x3]) := ⟨x1, x2, x3, rfl, hn⟩
  obtain ⟨a, n, c, xs, ep, h1, h2, h3, h4, h5, h6, h7⟩ := hp.inp hk.pl
  have ep : Value.slice x1 x2 x3 = .slice a n c := by
    injection ep with ep
    have := congrArg (fun z : Array Value => z.toList) ep
    injection this with _ t
    injection t with _ t
    injection t
  injection ep with p1 p2 p3
  subst p1 p2 p3
  obtain ⟨a, c, ev, hr, h0, hlc, hb⟩ := ownsRow_rd ho hk.ry (by have := hk.ryn; omega)
  injection ev with q1 q2 q3
  subst q1 q2 q3
  refine ⟨_, _, _, _, _, _, _, _, _, _, _, _, _, _, _, _, xs, e, ⟨rfl, h4.symm, h1, (sb_str _ hk.ky).symm, by rw [str_size]; have := hk.kyn; omega, ⟨rfl, hk.la⟩, ⟨rfl, hk.wo⟩, ⟨rfl, hk.tk⟩, hr, by have := hk.ryn; omega, h0, fun hn b off e => ?_, ⟨rfl, hk.ru⟩, ⟨rfl, hk.ok.lu⟩, ⟨rfl, hk.ti⟩⟩, by have := hk.ok.ki; omega, h2, h3, ?_, h7⟩
  · rcases ho.2 with ⟨e1, _⟩ | ⟨g, cap, cur, e1, _, hg, _⟩
    · injection e1 with e1
      rw [e] at e1
      cases e1
    · injection e1 with e1
      rw [e] at e1
      injection e1 with e1
      injection e1 with e1
      rw [e1]
      exact (Array.getElem?_eq_some_iff.1 hg).1
  · rw [h6]
    refine chk_ok12 hk.ok xs fun hk1 => ?_
    have hm : may d.pl = true := hk.ok.pt 0 (by rw [hk1]; exact prts_one rfl)
    rw [h5] at hm
    exact of_decide_eq_true hm
/-- what is read whole has just its bytes, and room -/
theorem whole_op {l : List Nat} (hl : ∀ d ∈ l, d < 256) (he : opE l = 0) : OvK (opVal (newR l)) ∧ opS (opVal (newR l)) = ⟨l, room 8192, 0⟩ ∧ 1 ≤ l.length ∧ l.length ≤ 5170 := by
  have hf := endR_ok he
  have hb : Byt (newR l) := by
    unfold newR
    split
    · exact hl
    · intro d hd; cases hd
  have hz : (newR l).fault = 0 := by
    by_cases h0 : (newR l).fault = 0
    · exact h0
    · rw [takeR_stick h0] at hf; exact absurd hf h0
  have hk := opVal_k hb hz (by rw [takeR_run hz] at hf; exact hf)
  have h16 : opW (opVal (newR l)) ⟨[], 16777216, 0⟩ = ⟨l, 16777216, 0⟩ := rw_whole op_rw l hl he
  obtain ⟨bs, b1, b2, b3⟩ := fit_op _ hk.ok ⟨[], 16777216, 0⟩ rfl (by show 0 + 5170 ≤ 16777216; decide)
  rw [h16] at b3
  have e : l = bs := by injection b3
  subst e
  refine ⟨hk, ?_, b1, b2⟩
  have hnew : newR l = ⟨l, 0, 0⟩ := by unfold newR; rw [if_pos (by omega)]
  rw [takeR_run hz] at hf
  obtain ⟨z, z1, z2, z3, z4⟩ := op_rw (newR l) hb hz (by rw [hnew]; exact Nat.zero_le _) hf
  have h8 : room 8192 = 8192 := by decide
  have hr : rest (newR l) = l := by rw [hnew]; rfl
  rw [hr] at z2 z4
  have e1 := z4 ⟨[], 16777216, 0⟩ rfl (by show 0 + z ≤ 16777216; omega)
  have e1 : opW (opVal (newR l)) ⟨[], 16777216, 0⟩ = ⟨[] ++ l.take z, 16777216, 0⟩ := e1
  rw [h16] at e1
  have e2 : l = [] ++ l.take z := by injection e1
  have e3 := z4 ⟨[], room 8192, 0⟩ rfl (by show 0 + z ≤ room 8192; omega)
  have e3 : opW (opVal (newR l)) ⟨[], room 8192, 0⟩ = ⟨[] ++ l.take z, room 8192, 0⟩ := e3
  rw [← e2] at e3
  exact e3
theorem whole_plan {l : List Nat} (hl : ∀ d ∈ l, d < 256) (he : planE l = 0) : PvK (planVal (newR l)) ∧ may (planVal (newR l)) = true ∧ planW (planVal (newR l)) ⟨[], room 8192, 0⟩ = ⟨l, room 8192, 0⟩ ∧ 1 ≤ l.length ∧ l.length ≤ 5104 := by
  have hf := endR_ok he
  have hb : Byt (newR l) := by
    unfold newR
    split
    · exact hl
    · intro d hd; cases hd
  have hz : (newR l).fault = 0 := by
    by_cases h0 : (newR l).fault = 0
    · exact h0
    · rw [takeR_stick h0] at hf; exact absurd hf h0
  have hf2 := hf
  rw [takeR_run hz] at hf2
  have hm := (chkR_ok hf2).2.1
  have h16 : planW (planVal (newR l)) ⟨[], 16777216, 0⟩ = ⟨l, 16777216, 0⟩ := rw_whole (rw_chk may rw_plan) l hl he
  obtain ⟨bs, b1, b2, b3⟩ := fit_may _ hm ⟨[], 16777216, 0⟩ rfl (by show 0 + 5104 ≤ 16777216; decide)
  rw [h16] at b3
  have e : l = bs := by injection b3
  subst e
  refine ⟨planVal_k hb, hm, ?_, b1, b2⟩
  have hnew : newR l = ⟨l, 0, 0⟩ := by unfold newR; rw [if_pos (by omega)]
  obtain ⟨z, z1, z2, z3, z4⟩ := rw_chk may rw_plan (newR l) hb hz (by rw [hnew]; exact Nat.zero_le _) hf2
  have h8 : room 8192 = 8192 := by decide
  have hr : rest (newR l) = l := by rw [hnew]; rfl
  rw [hr] at z2 z4
  have e1 := z4 ⟨[], 16777216, 0⟩ rfl (by show 0 + z ≤ 16777216; omega)
  have e1 : planW (planVal (newR l)) ⟨[], 16777216, 0⟩ = ⟨[] ++ l.take z, 16777216, 0⟩ := e1
  rw [h16] at e1
  have e2 : l = [] ++ l.take z := by injection e1
  have e3 := z4 ⟨[], room 8192, 0⟩ rfl (by show 0 + z ≤ room 8192; omega)
  have e3 : planW (planVal (newR l)) ⟨[], room 8192, 0⟩ = ⟨[] ++ l.take z, room 8192, 0⟩ := e3
  rw [← e2] at e3
  exact e3
end Cd
end Go.Proofs.YtbjcckfhfbjchaaGreat
