/- Codec: the laws' plans may be (mathematics). -/
import Derived.Test.YtbjcckfhfbjchaaGreatCGk
namespace Go.Proofs.YtbjcckfhfbjchaaGreat
namespace Cd
open Go.RowKit Go.Deep

/-- the edges of nodes -/
def esum (ds : List Nv) : Nat := (ds.map fun e => e.1.2.length + e.2.length).sum
/-- the first k nodes -/
def pls (rs : List Ra) : Nat → List Nv
  | 0 => []
  | k + 1 => pls rs k ++ (match rs[k]? with | some r => [ndv r k (256 - esum (pls rs k))] | none => [])
def litV : Nv := nv litN.q litN.nl litN.al
def plv (rs : List Ra) (dl : Int) : Pv := ((nmv dl 3, 1 + pkk dl 1099511627776), if pls rs (min rs.length 64) = [] then [litV] else pls rs (min rs.length 64))
theorem pls_succ {rs : List Ra} {k : Nat} {r : Ra} (h : rs[k]? = some r) : pls rs (k + 1) = pls rs k ++ [ndv r k (256 - esum (pls rs k))] := by
  show pls rs k ++ _ = _
  rw [h]
theorem pls_len (rs : List Ra) : ∀ k, k ≤ rs.length → (pls rs k).length = k
  | 0, _ => rfl
  | k + 1, h => by
    rw [pls_succ (List.getElem?_eq_getElem (show k < rs.length by omega)), List.length_append, pls_len rs k (by omega)]
    rfl
theorem pls_at (rs : List Ra) : ∀ k, k ≤ rs.length → ∀ i, i < k → ∃ r, rs[i]? = some r ∧ (pls rs k)[i]? = some (ndv r i (256 - esum (pls rs i)))
  | 0, _, i, hi => absurd hi (Nat.not_lt_zero _)
  | k + 1, h, i, hi => by
    have hk := List.getElem?_eq_getElem (show k < rs.length by omega)
    rw [pls_succ hk]
    by_cases e : i = k
    · subst e
      refine ⟨_, hk, ?_⟩
      rw [List.getElem?_append_right (by rw [pls_len rs i (by omega)]; exact Nat.le_refl _), pls_len rs i (by omega), Nat.sub_self]
      rfl
    · obtain ⟨r, h1, h2⟩ := pls_at rs k (by omega) i (by omega)
      exact ⟨r, h1, by rw [List.getElem?_append_left (by rw [pls_len rs k (by omega)]; omega)]; exact h2⟩
theorem esum_snoc (ds : List Nv) (d : Nv) : esum (ds ++ [d]) = esum ds + (d.1.2.length + d.2.length) := by simp [esum]
theorem eds_room (nb ab : List Bool) (room k : Nat) : (eds nb ab room k).1.length + (eds nb ab room k).2.length ≤ room := by
  induction k with
  | zero => exact Nat.zero_le _
  | succ k ih =>
    unfold eds
    repeat' split
    all_goals (try simp only [List.length_append, List.length_cons, List.length_nil])
    all_goals omega
theorem esum_le (rs : List Ra) : ∀ k, k ≤ rs.length → esum (pls rs k) ≤ 256
  | 0, _ => by show 0 ≤ 256; omega
  | k + 1, h => by
    have hk := List.getElem?_eq_getElem (show k < rs.length by omega)
    have ih := esum_le rs k (by omega)
    rw [pls_succ hk, esum_snoc]
    have := eds_room (mkv (rs[k]'(by omega)).nl k) (mkv (rs[k]'(by omega)).al k) (256 - esum (pls rs k)) k
    show esum (pls rs k) + ((eds _ _ _ k).1.length + (eds _ _ _ k).2.length) ≤ 256
    omega
/-- a list of numbers rises, from above a on, below k -/
def Rise (a k : Int) (z : List Int) : Prop := ∀ (i : Nat) (x : Int), z[i]? = some x → a < x ∧ x < k ∧ ∀ (j : Nat) (y : Int), j < i → z[j]? = some y → y < x
theorem rise_snoc {a : Int} {k : Nat} {z : List Int} (h : Rise a k z) (ha : a < k) : Rise a (k + 1 : Nat) (z ++ [(k : Int)]) := by
  intro i x hx
  by_cases hi : i < z.length
  · rw [List.getElem?_append_left hi] at hx
    obtain ⟨h1, h2, h3⟩ := h i x hx
    refine ⟨h1, by omega, fun j y hj hy => h3 j y hj ?_⟩
    rwa [List.getElem?_append_left (by omega)] at hy
  · rw [List.getElem?_append_right (by omega)] at hx
    have he : i = z.length := by
      have := (List.getElem?_eq_some_iff.1 hx).1
      simp at this
      omega
    subst he
    simp at hx
    subst hx
    refine ⟨ha, by omega, fun j y hj hy => ?_⟩
    rw [List.getElem?_append_left hj] at hy
    exact (h j y hy).2.1
theorem rise_up {a : Int} {k m : Nat} {z : List Int} (h : Rise a k z) (hm : k ≤ m) : Rise a m z := fun i x hx => by
  obtain ⟨h1, h2, h3⟩ := h i x hx
  exact ⟨h1, by omega, h3⟩
theorem rise_eds (nb ab : List Bool) (room k : Nat) : Rise (-1) k (eds nb ab room k).1 ∧ Rise (-1) k (eds nb ab room k).2 ∧ ∀ x ∈ (eds nb ab room k).1, x ∉ (eds nb ab room k).2 := by
  induction k with
  | zero => exact ⟨fun i x hx => by simp [eds] at hx, fun i x hx => by simp [eds] at hx, fun x hx => by simp [eds] at hx⟩
  | succ k ih =>
    obtain ⟨h1, h2, h3⟩ := ih
    have hlt : ∀ {z : List Int}, Rise (-1) k z → (k : Int) ∉ z := fun h hm => by
      obtain ⟨i, hi⟩ := List.getElem?_of_mem hm
      have := (h i _ hi).2.1
      omega
    unfold eds
    repeat' split
    · refine ⟨rise_snoc h1 (by omega), rise_up h2 (by omega), fun x hx => ?_⟩
      rcases List.mem_append.1 hx with hx | hx
      · exact h3 x hx
      · rw [List.mem_singleton.1 hx]; exact hlt h2
    · refine ⟨rise_up h1 (by omega), rise_snoc h2 (by omega), fun x hx => ?_⟩
      rw [List.mem_append, not_or]
      refine ⟨h3 x hx, fun e => ?_⟩
      rw [List.mem_singleton.1 e] at hx
      exact hlt h1 hx
    · exact ⟨rise_up h1 (by omega), rise_up h2 (by omega), h3⟩
    · exact ⟨rise_up h1 (by omega), rise_up h2 (by omega), h3⟩
theorem lOk_of : ∀ (z : List Int) (ah own cnt : Int), Rise ah own z → own ≤ cnt → Gr.lOk ah z own cnt = true
  | [], _, _, _, _, _ => rfl
  | x :: z, ah, own, cnt, h, hc => by
    obtain ⟨h1, h2, _⟩ := h 0 x rfl
    have h4 := lOk_of z x own cnt (fun i y hy => by
      obtain ⟨_, g2, g3⟩ := h (i + 1) y (by simpa using hy)
      exact ⟨g3 0 x (by omega) rfl, g2, fun j u hj hu => g3 (j + 1) u (by omega) (by simpa using hu)⟩) hc
    unfold Gr.lOk
    rw [h4]
    simp
    omega
/-- nodes with which nothing is wrong -/
theorem cN_good {n : Nat} : ∀ (xs : List Gr.No) (i : Nat) (seen : List ByteArray), (∀ k x, xs[k]? = some x → Gr.isNm x.q.nm = true ∧ Gr.fOk x.q = true ∧ Gr.eOk x ((i + k : Nat) : Int) n = true ∧ x.q.nm ∉ seen ∧ ∀ j y, j < k → xs[j]? = some y → y.q.nm ≠ x.q.nm) → (Gr.cN n i seen xs).2 = 0
  | [], _, _, _ => rfl
  | x :: xs, i, seen, h => by
    obtain ⟨h1, h2, h3, h4, _⟩ := h 0 x rfl
    unfold Gr.cN
    have c1 : (!Gr.isNm x.q.nm || seen.any fun t => decide (t = x.q.nm)) = false := by
      rw [h1]
      simp only [Bool.not_true, Bool.false_or, List.any_eq_false, decide_eq_true_eq]
      intro t ht e
      exact h4 (e ▸ ht)
    rw [c1, if_neg (by decide), h2, if_neg (by decide)]
    rw [Nat.add_zero] at h3
    rw [h3, if_neg (by decide)]
    refine cN_good xs (i + 1) (x.q.nm :: seen) fun k y hy => ?_
    obtain ⟨g1, g2, g3, g4, g5⟩ := h (k + 1) y (by simpa using hy)
    refine ⟨g1, g2, by rw [show i + 1 + k = i + (k + 1) by omega]; exact g3, ?_, fun j u hj hu => g5 (j + 1) u (by omega) (by simpa using hu)⟩
    rw [List.mem_cons, not_or]
    exact ⟨fun e => g5 0 x (by omega) rfl e.symm, g4⟩
/-- edges that lead back make no cycle -/
theorem cyc_zero {xs : List Gr.No} (h : ∀ a b, b ∈ Gr.eg xs a → b < a) : Gr.cyc xs = 0 := by
  refine Gr.cyc_eq (.inl ⟨rfl, fun x ⟨k, hk⟩ => ?_⟩)
  have key : ∀ k a b, Gr.wt (Gr.eg xs) k a b → b < a := by
    intro k
    induction k with
    | zero => intro a b hb; exact h a b hb
    | succ k ih =>
      rintro a b ⟨y, h1, h2⟩
      have := h a y h1
      have := ih y b h2
      omega
  exact absurd (key k x x hk) (Nat.lt_irrefl _)
theorem nm_bytes {l : List Nat} (h : ∀ d ∈ l, 97 ≤ d ∧ d < 123) (h1 : 1 ≤ l.length) (h2 : l.length ≤ 40) : Gr.isNm (str l) = true := by
  unfold Gr.isNm Gr.wI
  rw [str_size]
  have hb : (str l).data.toList.all Gr.inNm = true := by
    rw [List.all_eq_true]
    intro b hb
    have hm : b.toNat ∈ sb (str l) := List.mem_map.2 ⟨b, hb, rfl⟩
    rw [sb_str l fun d hd => by have := h d hd; omega] at hm
    have := h _ hm
    unfold Gr.inNm
    rw [decide_eq_true (show 97 ≤ b.toNat by omega), decide_eq_true (show b.toNat ≤ 122 by omega)]
    simp
  rw [hb]
  simp only [Bool.and_true, Bool.and_eq_true, decide_eq_true_eq]
  omega
theorem nmv_ok (c : Int) {i : Nat} (hi : i < 64) : Gr.isNm (str (nmv c i)) = true := by
  have hp := pkk_lt (c := c) (n := 39) (by decide)
  refine nm_bytes (nmp_lt c hi _) ?_ ?_ <;> (show _ ≤ _) <;> (try rw [show (nmv c i).length = (pkk c 39).toNat + 2 from nmp_len c i _]) <;> omega
theorem nmv_len (c : Int) (i : Nat) : (nmv c i).length ≤ 40 := by
  have hp := pkk_lt (c := c) (n := 39) (by decide)
  rw [show (nmv c i).length = (pkk c 39).toNat + 2 from nmp_len c i _]
  omega
theorem str_inj {a b : List Nat} (ha : ∀ d ∈ a, d < 256) (hb : ∀ d ∈ b, d < 256) (h : str a = str b) : a = b := by
  rw [← sb_str a ha, h, sb_str b hb]
theorem nmv_apart {c d : Int} {i j : Nat} (hi : i < 64) (hj : j < 64) (h : str (nmv c i) = str (nmv d j)) : i = j := by
  have e := str_inj (fun x hx => by have := nmp_lt c hi _ x hx; omega) (fun x hx => by have := nmp_lt d hj _ x hx; omega) h
  unfold nmv nmp at e
  injection e with e1 e2
  injection e2 with e2 _
  omega
theorem ndv_ok (r : Ra) (i room n : Nat) (hi : i < n) (hn : n ≤ 64) : Gr.isNm (toNo (ndv r i room)).q.nm = true ∧ Gr.fOk (toNo (ndv r i room)).q = true ∧ Gr.eOk (toNo (ndv r i room)) (i : Int) n = true := by
  have p1 := pkk_lt (c := r.la) (n := 16) (by decide)
  have p2 := pkk_lt (c := r.bu) (n := 100) (by decide)
  have p3 := pkk_lt (c := r.cl) (n := 1099511627776) (by decide)
  have p4 := pkk_lt (c := r.be) (n := 1099511627777) (by decide)
  have p5 := pkk_lt (c := r.ca) (n := 1099511627776) (by decide)
  have p6 := pkk_lt (c := r.ba) (n := 1 + pkk r.ca 1099511627776) (by omega)
  have p7 := pkk_lt (c := r.ji) (n := 1099511627777) (by decide)
  refine ⟨nmv_ok r.nm (by omega), ?_, ?_⟩
  · show (Gr.wI (pkk r.la 16) 0 15 && Gr.wI (1 + pkk r.bu 100) 1 100 && Gr.wI (1 + pkk r.cl 1099511627776) 1 1099511627776 && Gr.wI (pkk r.be 1099511627777) 0 1099511627776 && Gr.wI (1 + pkk r.ca 1099511627776) 1 1099511627776 && Gr.wI (1 + pkk r.ba (1 + pkk r.ca 1099511627776)) 1 (1 + pkk r.ca 1099511627776) && Gr.wI (pkk r.ji 1099511627777) 0 1099511627776) = true
    unfold Gr.wI
    simp only [Bool.and_eq_true, decide_eq_true_eq]
    omega
  · obtain ⟨h1, h2, h3⟩ := rise_eds (mkv r.nl i) (mkv r.al i) room i
    show (Gr.lOk (-1) (eds (mkv r.nl i) (mkv r.al i) room i).1 i n && Gr.lOk (-1) (eds (mkv r.nl i) (mkv r.al i) room i).2 i n && !((eds (mkv r.nl i) (mkv r.al i) room i).2.any fun e => (eds (mkv r.nl i) (mkv r.al i) room i).1.contains e)) = true
    rw [lOk_of _ _ _ _ h1 (by omega), lOk_of _ _ _ _ h2 (by omega)]
    simp only [Bool.true_and, Bool.not_eq_true', List.any_eq_false, List.contains_iff_mem]
    exact fun x hx hm => h3 x hm hx
theorem plv_may (rs : List Ra) (dl : Int) : may (plv rs dl) = true := by
  obtain ⟨m, hm⟩ : ∃ m, min rs.length 64 = m := ⟨_, rfl⟩
  have hl := pls_len rs m (by omega)
  have hd := pkk_lt (c := dl) (n := 1099511627776) (by decide)
  unfold may plv
  rw [hm]
  by_cases h0 : pls rs m = []
  · rw [if_pos h0]
    refine decide_eq_true ?_
    show (Gr.chk (str (nmv dl 3)) (1 + pkk dl 1099511627776) ([litV].map toNo)).2 = 0
    have e1 : (Gr.cN ([litV].map toNo).length 0 [] ([litV].map toNo)).2 = 0 := by decide
    have e2 : Gr.cyc ([litV].map toNo) = 0 := cyc_zero fun a b hb => by
      cases a with
      | zero =>
        have e0 : Gr.eg ([litV].map toNo) 0 = [] := rfl
        rw [e0] at hb
        cases hb
      | succ a => cases hb
    have e3 : Gr.cW (str (nmv dl 3)) (1 + pkk dl 1099511627776) ([litV].map toNo) = 0 := by
      unfold Gr.cW
      rw [nmv_ok dl (by omega), if_neg (by decide)]
      have : Gr.wI (1 + pkk dl 1099511627776) 1 1099511627776 = true := by unfold Gr.wI; simp only [Bool.and_eq_true, decide_eq_true_eq]; omega
      rw [this, if_neg (by decide), if_neg (by decide)]
    unfold Gr.chk
    rw [e3, if_neg (by decide), if_neg (fun h => h e1), e2, if_neg (by decide)]
  · rw [if_neg h0]
    have hm1 : 1 ≤ m := by
      cases m with
      | zero => exact absurd rfl h0
      | succ m => omega
    refine decide_eq_true ?_
    show (Gr.chk (str (nmv dl 3)) (1 + pkk dl 1099511627776) ((pls rs m).map toNo)).2 = 0
    have hlm : ((pls rs m).map toNo).length = m := by rw [List.length_map, hl]
    have hat : ∀ k x, ((pls rs m).map toNo)[k]? = some x → k < m ∧ ∃ r, x = toNo (ndv r k (256 - esum (pls rs k))) := fun k x hx => by
      have hk : k < m := by have := (List.getElem?_eq_some_iff.1 hx).1; omega
      obtain ⟨r, _, h2⟩ := pls_at rs m (by omega) k hk
      rw [List.getElem?_map, h2] at hx
      exact ⟨hk, r, by simpa using hx.symm⟩
    have e1 : (Gr.cN ((pls rs m).map toNo).length 0 [] ((pls rs m).map toNo)).2 = 0 := by
      refine cN_good _ 0 [] fun k x hx => ?_
      obtain ⟨hk, r, rfl⟩ := hat k x hx
      rw [hlm, Nat.zero_add]
      obtain ⟨g1, g2, g3⟩ := ndv_ok r k (256 - esum (pls rs k)) m hk (by omega)
      refine ⟨g1, g2, g3, (fun h => by cases h), fun j y hj hy e => ?_⟩
      obtain ⟨hj2, r2, rfl⟩ := hat j y hy
      have e : str (nmv r2.nm j) = str (nmv r.nm k) := e
      have := nmv_apart (by omega) (by omega) e
      omega
    have e2 : Gr.cyc ((pls rs m).map toNo) = 0 := cyc_zero fun a b hb => by
      cases hx : ((pls rs m).map toNo)[a]? with
      | none => unfold Gr.eg at hb; rw [hx] at hb; cases hb
      | some x =>
        obtain ⟨hk, r, rfl⟩ := hat a x hx
        rw [Gr.eg_at hx] at hb
        obtain ⟨h1, h2, _⟩ := rise_eds (mkv r.nl a) (mkv r.al a) (256 - esum (pls rs a)) a
        rcases List.mem_append.1 hb with hb | hb
        · obtain ⟨y, hy, rfl⟩ := List.mem_map.1 hb
          obtain ⟨i, hi⟩ := List.getElem?_of_mem hy
          have := h1 i y hi
          omega
        · obtain ⟨y, hy, rfl⟩ := List.mem_map.1 hb
          obtain ⟨i, hi⟩ := List.getElem?_of_mem hy
          have := h2 i y hi
          omega
    have e3 : Gr.cW (str (nmv dl 3)) (1 + pkk dl 1099511627776) ((pls rs m).map toNo) = 0 := by
      unfold Gr.cW
      rw [nmv_ok dl (by omega), if_neg (by decide)]
      have t1 : Gr.wI (1 + pkk dl 1099511627776) 1 1099511627776 = true := by unfold Gr.wI; simp only [Bool.and_eq_true, decide_eq_true_eq]; omega
      have t2 : Gr.wI (((pls rs m).map toNo).length : Int) 1 64 = true := by unfold Gr.wI; rw [hlm]; simp only [Bool.and_eq_true, decide_eq_true_eq]; omega
      have t3 : Gr.edges ((pls rs m).map toNo) = esum (pls rs m) := by
        unfold Gr.edges esum
        rw [List.map_map]
        rfl
      have t4 := esum_le rs m (by omega)
      rw [t1, if_neg (by decide), t2, t3, decide_eq_false (show ¬ 256 < esum (pls rs m) by omega), if_neg (by decide)]
    unfold Gr.chk
    rw [e3, if_neg (by decide), if_neg (fun h => h e1), e2, if_neg (by decide)]
/-- what a plan's value must be to be handed on -/
theorem ndv_k (r : Ra) (i room : Nat) (hi : i < 64) : NvK (ndv r i room) := by
  have p1 := pkk_lt (c := r.la) (n := 16) (by decide)
  have p2 := pkk_lt (c := r.bu) (n := 100) (by decide)
  have p3 := pkk_lt (c := r.cl) (n := 1099511627776) (by decide)
  have p4 := pkk_lt (c := r.be) (n := 1099511627777) (by decide)
  have p5 := pkk_lt (c := r.ca) (n := 1099511627776) (by decide)
  have p6 := pkk_lt (c := r.ba) (n := 1 + pkk r.ca 1099511627776) (by omega)
  have p7 := pkk_lt (c := r.ji) (n := 1099511627777) (by decide)
  obtain ⟨h1, h2, _⟩ := rise_eds (mkv r.nl i) (mkv r.al i) room i
  have hl := eds_len (mkv r.nl i) (mkv r.al i) room i
  refine ⟨nmv_len r.nm i, fun x hx => by have := nmp_lt r.nm hi _ x hx; omega, ?_, ?_, ?_, ?_, ?_, ?_, ?_, ⟨?_, fun x hx => ?_⟩, ?_, fun x hx => ?_⟩
  · show pkk r.la 16 ≤ _; omega
  · show 1 + pkk r.bu 100 ≤ _; omega
  · show 1 + pkk r.cl 1099511627776 ≤ _; omega
  · show pkk r.be 1099511627777 ≤ _; omega
  · show 1 + pkk r.ba (1 + pkk r.ca 1099511627776) ≤ _; omega
  · show 1 + pkk r.ca 1099511627776 ≤ _; omega
  · show pkk r.ji 1099511627777 ≤ _; omega
  · show (eds (mkv r.nl i) (mkv r.al i) room i).1.length ≤ 64; omega
  · obtain ⟨j, hj⟩ := List.getElem?_of_mem hx
    have := h1 j x hj
    omega
  · show (eds (mkv r.nl i) (mkv r.al i) room i).2.length ≤ 64; omega
  · obtain ⟨j, hj⟩ := List.getElem?_of_mem hx
    have := h2 j x hj
    omega
theorem litV_k : NvK litV := ⟨by decide, by decide, by decide, by decide, by decide, by decide, by decide, by decide, by decide, ⟨by decide, by decide⟩, by decide, by decide⟩
theorem plv_k (rs : List Ra) (dl : Int) : PvK (plv rs dl) := by
  have hd := pkk_lt (c := dl) (n := 1099511627776) (by decide)
  obtain ⟨m, hm⟩ : ∃ m, min rs.length 64 = m := ⟨_, rfl⟩
  have hl := pls_len rs m (by omega)
  refine ⟨nmv_len dl 3, fun x hx => by have := nmp_lt dl (show 3 < 64 by omega) _ x hx; omega, by show 1 + pkk dl 1099511627776 ≤ _; omega, ?_, fun e he => ?_⟩
  · show (if pls rs (min rs.length 64) = [] then [litV] else pls rs (min rs.length 64)).length ≤ 64
    rw [hm]
    split
    · decide
    · omega
  · have he : e ∈ (if pls rs (min rs.length 64) = [] then [litV] else pls rs (min rs.length 64)) := he
    rw [hm] at he
    split at he
    · rw [List.mem_singleton.1 he]; exact litV_k
    · obtain ⟨i, hi⟩ := List.getElem?_of_mem he
      have him : i < m := by have := (List.getElem?_eq_some_iff.1 hi).1; omega
      obtain ⟨r, _, h2⟩ := pls_at rs m (by omega) i him
      rw [h2] at hi
      injection hi with hi
      rw [← hi]
      exact ndv_k r i _ (by omega)
end Cd
end Go.Proofs.YtbjcckfhfbjchaaGreat
