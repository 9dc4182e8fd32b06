/- Codec: what was read can be put: an operation, a plan in memory. -/
import Derived.Test.YtbjcckfhfbjchaaGreatCGc
namespace Go.Proofs.YtbjcckfhfbjchaaGreat
namespace Cd
open Go.RowKit Go.Deep

/-- what a value in memory must be to be handed on -/
structure OvK (d : Ov) : Prop where
  ok : OpOk d
  pl : PvK d.pl
  ky : ∀ x ∈ d.ky, x < 256
  ry : ∀ x ∈ d.ry, x < 256
  kyn : d.ky.length ≤ 64
  ryn : d.ry.length ≤ 64
  la : d.la ≤ 9223372036854775807
  wo : d.wo ≤ 9223372036854775807
  tk : d.tk ≤ 9223372036854775807
  ru : d.ru ≤ 9223372036854775807
  ti : d.ti ≤ 9223372036854775807
structure OvB (d : Ov) : Prop where
  pl : PvK d.pl
  ky : ∀ x ∈ d.ky, x < 256
  ry : ∀ x ∈ d.ry, x < 256
  kyn : d.ky.length ≤ 64
  ryn : d.ry.length ≤ 64
  la : d.la ≤ 9223372036854775807
  wo : d.wo ≤ 9223372036854775807
  tk : d.tk ≤ 9223372036854775807
  ru : d.ru ≤ 9223372036854775807
  ti : d.ti ≤ 9223372036854775807
theorem pvK_nil : PvK (([], 0), []) := ⟨by decide, (fun x hx => by cases hx), by decide, by decide, fun e he => by cases he⟩
theorem ovB_zero (k : Int) : OvB (ov0 k) := ⟨pvK_nil, (fun x hx => by cases hx), (fun x hx => by cases hx), by show ([] : List Nat).length ≤ 64; decide, by show ([] : List Nat).length ≤ 64; decide, by show (0 : Int) ≤ _; decide, by show (0 : Int) ≤ _; decide, by show (0 : Int) ≤ _; decide, by show (0 : Int) ≤ _; decide, by show (0 : Int) ≤ _; decide⟩
theorem ovB_part {s : K.RS} {e : Ov} (hb : Byt s) (he : OvB e) (j : Nat) : OvB (partV s e j) := by
  match j with
  | 0 => simp only [partV]; exact ⟨planVal_k hb, he.ky, he.ry, he.kyn, he.ryn, he.la, he.wo, he.tk, he.ru, he.ti⟩
  | 1 => simp only [partV]; exact ⟨he.pl, rowV_byt hb, he.ry, Nat.le_trans (rowV_len 40 s) (by decide), he.ryn, he.la, he.wo, he.tk, he.ru, he.ti⟩
  | 2 => simp only [partV]; exact ⟨he.pl, he.ky, he.ry, he.kyn, he.ryn, iV_le hb, he.wo, he.tk, he.ru, he.ti⟩
  | 3 => simp only [partV]; exact ⟨he.pl, he.ky, he.ry, he.kyn, he.ryn, he.la, iV_le hb, he.tk, he.ru, he.ti⟩
  | 4 => simp only [partV]; exact ⟨he.pl, he.ky, he.ry, he.kyn, he.ryn, he.la, he.wo, iV_le hb, he.ru, he.ti⟩
  | 5 => simp only [partV]; exact ⟨he.pl, he.ky, rowV_byt hb, he.kyn, rowV_len 64 s, he.la, he.wo, he.tk, he.ru, he.ti⟩
  | 6 => simp only [partV]; exact ⟨he.pl, he.ky, he.ry, he.kyn, he.ryn, he.la, he.wo, he.tk, iV_le hb, he.ti⟩
  | 7 => simp only [partV]; exact ⟨he.pl, he.ky, he.ry, he.kyn, he.ryn, he.la, he.wo, he.tk, he.ru, he.ti⟩
  | n + 8 => simp only [partV]; exact ⟨he.pl, he.ky, he.ry, he.kyn, he.ryn, he.la, he.wo, he.tk, he.ru, iV_le hb⟩
theorem ovB_all : ∀ (ps : List Nat) (s : K.RS) (e : Ov), Byt s → OvB e → OvB (allPV ps s e)
  | [], _, _, _, he => he
  | j :: r, s, e, hb, he => ovB_all r (takeR (partR j) s) (partV s e j) (byt_of (dk_take (dk_part j)) hb) (ovB_part hb he j)
theorem opVal_b {s : K.RS} (hb : Byt s) : OvB (opVal s) := ovB_all _ _ _ (byt_of (dk_num _ _) hb) (ovB_zero _)
theorem opVal_k {s : K.RS} (hb : Byt s) (hz : s.fault = 0) (h : (opR s).fault = 0) : OvK (opVal s) :=
  ⟨opVal_ok hb hz h, (opVal_b hb).pl, (opVal_b hb).ky, (opVal_b hb).ry, (opVal_b hb).kyn, (opVal_b hb).ryn, (opVal_b hb).la, (opVal_b hb).wo, (opVal_b hb).tk, (opVal_b hb).ru, (opVal_b hb).ti⟩
theorem nil_toList : (str []).toList = [] := by kernel_rfl
theorem emp0 : ((str []).toList.isEmpty && (0 : Int) == 0 && (((0 : Nat) : Int)) == 0) = true := by rw [nil_toList]; rfl
theorem emp1 : (str []).toList.isEmpty = true := by rw [nil_toList]; rfl
theorem oe_1 (d : Ov) : oE (emps (str (setAll d [0, 1] (ov0 1)).pl.1.1) (setAll d [0, 1] (ov0 1)).pl.1.2 (setAll d [0, 1] (ov0 1)).pl.2.length (str (setAll d [0, 1] (ov0 1)).ky) (setAll d [0, 1] (ov0 1)).la (setAll d [0, 1] (ov0 1)).wo (setAll d [0, 1] (ov0 1)).tk (setAll d [0, 1] (ov0 1)).ry.length (setAll d [0, 1] (ov0 1)).ru ((setAll d [0, 1] (ov0 1)).lu : Int) (setAll d [0, 1] (ov0 1)).ti) [0, 1] = true := by
  refine oE_true fun i hi => ?_
  rcases (by omega : i = 0 ∨ i = 1 ∨ i = 2 ∨ i = 3 ∨ i = 4 ∨ i = 5 ∨ i = 6 ∨ i = 7 ∨ i = 8) with rfl | rfl | rfl | rfl | rfl | rfl | rfl | rfl | rfl
  · exact .inr (by simp)
  · exact .inr (by simp)
  · exact .inl rfl
  · exact .inl rfl
  · exact .inl rfl
  · exact .inl rfl
  · exact .inl rfl
  · exact .inl rfl
  · exact .inl rfl
theorem oe_2 (d : Ov) : oE (emps (str (setAll d [2, 3] (ov0 2)).pl.1.1) (setAll d [2, 3] (ov0 2)).pl.1.2 (setAll d [2, 3] (ov0 2)).pl.2.length (str (setAll d [2, 3] (ov0 2)).ky) (setAll d [2, 3] (ov0 2)).la (setAll d [2, 3] (ov0 2)).wo (setAll d [2, 3] (ov0 2)).tk (setAll d [2, 3] (ov0 2)).ry.length (setAll d [2, 3] (ov0 2)).ru ((setAll d [2, 3] (ov0 2)).lu : Int) (setAll d [2, 3] (ov0 2)).ti) [2, 3] = true := by
  refine oE_true fun i hi => ?_
  rcases (by omega : i = 0 ∨ i = 1 ∨ i = 2 ∨ i = 3 ∨ i = 4 ∨ i = 5 ∨ i = 6 ∨ i = 7 ∨ i = 8) with rfl | rfl | rfl | rfl | rfl | rfl | rfl | rfl | rfl
  · exact .inl (congrArg some emp0)
  · exact .inl (congrArg some emp1)
  · exact .inr (by simp)
  · exact .inr (by simp)
  · exact .inl rfl
  · exact .inl rfl
  · exact .inl rfl
  · exact .inl rfl
  · exact .inl rfl
theorem oe_3 (d : Ov) : oE (emps (str (setAll d [4] (ov0 3)).pl.1.1) (setAll d [4] (ov0 3)).pl.1.2 (setAll d [4] (ov0 3)).pl.2.length (str (setAll d [4] (ov0 3)).ky) (setAll d [4] (ov0 3)).la (setAll d [4] (ov0 3)).wo (setAll d [4] (ov0 3)).tk (setAll d [4] (ov0 3)).ry.length (setAll d [4] (ov0 3)).ru ((setAll d [4] (ov0 3)).lu : Int) (setAll d [4] (ov0 3)).ti) [4] = true := by
  refine oE_true fun i hi => ?_
  rcases (by omega : i = 0 ∨ i = 1 ∨ i = 2 ∨ i = 3 ∨ i = 4 ∨ i = 5 ∨ i = 6 ∨ i = 7 ∨ i = 8) with rfl | rfl | rfl | rfl | rfl | rfl | rfl | rfl | rfl
  · exact .inl (congrArg some emp0)
  · exact .inl (congrArg some emp1)
  · exact .inl rfl
  · exact .inl rfl
  · exact .inr (by simp)
  · exact .inl rfl
  · exact .inl rfl
  · exact .inl rfl
  · exact .inl rfl
theorem oe_4 (d : Ov) : oE (emps (str (setAll d [4, 5] (ov0 4)).pl.1.1) (setAll d [4, 5] (ov0 4)).pl.1.2 (setAll d [4, 5] (ov0 4)).pl.2.length (str (setAll d [4, 5] (ov0 4)).ky) (setAll d [4, 5] (ov0 4)).la (setAll d [4, 5] (ov0 4)).wo (setAll d [4, 5] (ov0 4)).tk (setAll d [4, 5] (ov0 4)).ry.length (setAll d [4, 5] (ov0 4)).ru ((setAll d [4, 5] (ov0 4)).lu : Int) (setAll d [4, 5] (ov0 4)).ti) [4, 5] = true := by
  refine oE_true fun i hi => ?_
  rcases (by omega : i = 0 ∨ i = 1 ∨ i = 2 ∨ i = 3 ∨ i = 4 ∨ i = 5 ∨ i = 6 ∨ i = 7 ∨ i = 8) with rfl | rfl | rfl | rfl | rfl | rfl | rfl | rfl | rfl
  · exact .inl (congrArg some emp0)
  · exact .inl (congrArg some emp1)
  · exact .inl rfl
  · exact .inl rfl
  · exact .inr (by simp)
  · exact .inr (by simp)
  · exact .inl rfl
  · exact .inl rfl
  · exact .inl rfl
theorem oe_5 (d : Ov) : oE (emps (str (setAll d [4] (ov0 5)).pl.1.1) (setAll d [4] (ov0 5)).pl.1.2 (setAll d [4] (ov0 5)).pl.2.length (str (setAll d [4] (ov0 5)).ky) (setAll d [4] (ov0 5)).la (setAll d [4] (ov0 5)).wo (setAll d [4] (ov0 5)).tk (setAll d [4] (ov0 5)).ry.length (setAll d [4] (ov0 5)).ru ((setAll d [4] (ov0 5)).lu : Int) (setAll d [4] (ov0 5)).ti) [4] = true := by
  refine oE_true fun i hi => ?_
  rcases (by omega : i = 0 ∨ i = 1 ∨ i = 2 ∨ i = 3 ∨ i = 4 ∨ i = 5 ∨ i = 6 ∨ i = 7 ∨ i = 8) with rfl | rfl | rfl | rfl | rfl | rfl | rfl | rfl | rfl
  · exact .inl (congrArg some emp0)
  · exact .inl (congrArg some emp1)
  · exact .inl rfl
  · exact .inl rfl
  · exact .inr (by simp)
  · exact .inl rfl
  · exact .inl rfl
  · exact .inl rfl
  · exact .inl rfl
theorem oe_6 (d : Ov) : oE (emps (str (setAll d [6] (ov0 6)).pl.1.1) (setAll d [6] (ov0 6)).pl.1.2 (setAll d [6] (ov0 6)).pl.2.length (str (setAll d [6] (ov0 6)).ky) (setAll d [6] (ov0 6)).la (setAll d [6] (ov0 6)).wo (setAll d [6] (ov0 6)).tk (setAll d [6] (ov0 6)).ry.length (setAll d [6] (ov0 6)).ru ((setAll d [6] (ov0 6)).lu : Int) (setAll d [6] (ov0 6)).ti) [6] = true := by
  refine oE_true fun i hi => ?_
  rcases (by omega : i = 0 ∨ i = 1 ∨ i = 2 ∨ i = 3 ∨ i = 4 ∨ i = 5 ∨ i = 6 ∨ i = 7 ∨ i = 8) with rfl | rfl | rfl | rfl | rfl | rfl | rfl | rfl | rfl
  · exact .inl (congrArg some emp0)
  · exact .inl (congrArg some emp1)
  · exact .inl rfl
  · exact .inl rfl
  · exact .inl rfl
  · exact .inl rfl
  · exact .inr (by simp)
  · exact .inl rfl
  · exact .inl rfl
theorem oe_7 (d : Ov) : oE (emps (str (setAll d [6] (ov0 7)).pl.1.1) (setAll d [6] (ov0 7)).pl.1.2 (setAll d [6] (ov0 7)).pl.2.length (str (setAll d [6] (ov0 7)).ky) (setAll d [6] (ov0 7)).la (setAll d [6] (ov0 7)).wo (setAll d [6] (ov0 7)).tk (setAll d [6] (ov0 7)).ry.length (setAll d [6] (ov0 7)).ru ((setAll d [6] (ov0 7)).lu : Int) (setAll d [6] (ov0 7)).ti) [6] = true := by
  refine oE_true fun i hi => ?_
  rcases (by omega : i = 0 ∨ i = 1 ∨ i = 2 ∨ i = 3 ∨ i = 4 ∨ i = 5 ∨ i = 6 ∨ i = 7 ∨ i = 8) with rfl | rfl | rfl | rfl | rfl | rfl | rfl | rfl | rfl
  · exact .inl (congrArg some emp0)
  · exact .inl (congrArg some emp1)
  · exact .inl rfl
  · exact .inl rfl
  · exact .inl rfl
  · exact .inl rfl
  · exact .inr (by simp)
  · exact .inl rfl
  · exact .inl rfl
theorem oe_8 (d : Ov) : oE (emps (str (setAll d [7] (ov0 8)).pl.1.1) (setAll d [7] (ov0 8)).pl.1.2 (setAll d [7] (ov0 8)).pl.2.length (str (setAll d [7] (ov0 8)).ky) (setAll d [7] (ov0 8)).la (setAll d [7] (ov0 8)).wo (setAll d [7] (ov0 8)).tk (setAll d [7] (ov0 8)).ry.length (setAll d [7] (ov0 8)).ru ((setAll d [7] (ov0 8)).lu : Int) (setAll d [7] (ov0 8)).ti) [7] = true := by
  refine oE_true fun i hi => ?_
  rcases (by omega : i = 0 ∨ i = 1 ∨ i = 2 ∨ i = 3 ∨ i = 4 ∨ i = 5 ∨ i = 6 ∨ i = 7 ∨ i = 8) with rfl | rfl | rfl | rfl | rfl | rfl | rfl | rfl | rfl
  · exact .inl (congrArg some emp0)
  · exact .inl (congrArg some emp1)
  · exact .inl rfl
  · exact .inl rfl
  · exact .inl rfl
  · exact .inl rfl
  · exact .inl rfl
  · exact .inr (by simp)
  · exact .inl rfl
theorem oe_9 (d : Ov) : oE (emps (str (setAll d [8] (ov0 9)).pl.1.1) (setAll d [8] (ov0 9)).pl.1.2 (setAll d [8] (ov0 9)).pl.2.length (str (setAll d [8] (ov0 9)).ky) (setAll d [8] (ov0 9)).la (setAll d [8] (ov0 9)).wo (setAll d [8] (ov0 9)).tk (setAll d [8] (ov0 9)).ry.length (setAll d [8] (ov0 9)).ru ((setAll d [8] (ov0 9)).lu : Int) (setAll d [8] (ov0 9)).ti) [8] = true := by
  refine oE_true fun i hi => ?_
  rcases (by omega : i = 0 ∨ i = 1 ∨ i = 2 ∨ i = 3 ∨ i = 4 ∨ i = 5 ∨ i = 6 ∨ i = 7 ∨ i = 8) with rfl | rfl | rfl | rfl | rfl | rfl | rfl | rfl | rfl
  · exact .inl (congrArg some emp0)
  · exact .inl (congrArg some emp1)
  · exact .inl rfl
  · exact .inl rfl
  · exact .inl rfl
  · exact .inl rfl
  · exact .inl rfl
  · exact .inl rfl
  · exact .inr (by simp)
/-- an operation that may be passes Check -/
theorem oe_nf {d : Ov} (h : nf d = d) (hk : 1 ≤ d.ki ∧ d.ki ≤ 9) : oE (emps (str d.pl.1.1) d.pl.1.2 d.pl.2.length (str d.ky) d.la d.wo d.tk d.ry.length d.ru (d.lu : Int) d.ti) (prts d.ki) = true := by
  unfold nf at h
  rcases (by omega : d.ki = 1 ∨ d.ki = 2 ∨ d.ki = 3 ∨ d.ki = 4 ∨ d.ki = 5 ∨ d.ki = 6 ∨ d.ki = 7 ∨ d.ki = 8 ∨ d.ki = 9) with e | e | e | e | e | e | e | e | e
  · rw [e, show prts 1 = [0, 1] from rfl] at h
    have t := oe_1 d
    rw [h] at t
    rw [e, show prts 1 = [0, 1] from rfl]
    exact t
  · rw [e, show prts 2 = [2, 3] from rfl] at h
    have t := oe_2 d
    rw [h] at t
    rw [e, show prts 2 = [2, 3] from rfl]
    exact t
  · rw [e, show prts 3 = [4] from rfl] at h
    have t := oe_3 d
    rw [h] at t
    rw [e, show prts 3 = [4] from rfl]
    exact t
  · rw [e, show prts 4 = [4, 5] from rfl] at h
    have t := oe_4 d
    rw [h] at t
    rw [e, show prts 4 = [4, 5] from rfl]
    exact t
  · rw [e, show prts 5 = [4] from rfl] at h
    have t := oe_5 d
    rw [h] at t
    rw [e, show prts 5 = [4] from rfl]
    exact t
  · rw [e, show prts 6 = [6] from rfl] at h
    have t := oe_6 d
    rw [h] at t
    rw [e, show prts 6 = [6] from rfl]
    exact t
  · rw [e, show prts 7 = [6] from rfl] at h
    have t := oe_7 d
    rw [h] at t
    rw [e, show prts 7 = [6] from rfl]
    exact t
  · rw [e, show prts 8 = [7] from rfl] at h
    have t := oe_8 d
    rw [h] at t
    rw [e, show prts 8 = [7] from rfl]
    exact t
  · rw [e, show prts 9 = [8] from rfl] at h
    have t := oe_9 d
    rw [h] at t
    rw [e, show prts 9 = [8] from rfl]
    exact t
theorem hld_ok {d : Ov} (h : OpOk d) : hldB d (prts d.ki) = true := by
  have key : ∀ (ps : List Nat), (∀ j ∈ ps, PtOk d j) → ∀ s : K.WS, s.fault = 0 → s.laid.length + ps.length * 65 ≤ s.most → (hldW d ps s).fault = 0 := by
    intro ps
    induction ps with
    | nil => intro _ s hz _; exact hz
    | cons j r ih =>
      intro hp s hz hr
      have e : j :: r = [j] ++ r := rfl
      rw [e, hldW_app]
      rw [List.length_cons] at hr
      have hp2 : ∀ i ∈ r, PtOk d i := fun i hi => hp i (by simp [hi])
      by_cases hj : j = 0
      · have e1 : hldW d [j] s = s := by
          have := hldW_succ d (ps := [j]) (k := 0) (j := j) rfl s
          simp only [List.take_succ_cons, List.take_zero, List.take_nil] at this
          rw [this, if_pos hj]
          rfl
        rw [e1]
        exact ih hp2 s hz (by omega)
      · have e1 : hldW d [j] s = partW d j s := by
          have := hldW_succ d (ps := [j]) (k := 0) (j := j) rfl s
          simp only [List.take_succ_cons, List.take_zero, List.take_nil] at this
          rw [this, if_neg hj]
          exact putW_run hz
        have hf := fit_part d j (hp j (by simp))
        rw [if_neg hj] at hf
        obtain ⟨f1, f2, f3⟩ := hf.run hz (by omega)
        rw [e1]
        exact ih hp2 _ f1 (by omega)
  have hl : (prts d.ki).length ≤ 2 := by
    unfold prts
    repeat' split
    all_goals decide
  have h8 : room 8192 = 8192 := by decide
  have := key (prts d.ki) h.pt ⟨[], room 8192, 0⟩ rfl (by show 0 + _ ≤ room 8192; omega)
  unfold hldB
  rw [this]
  rfl
theorem prts_some {k : Int} (h : 1 ≤ k ∧ k ≤ 9) : (prts k).length ≠ 0 := by
  rcases (by omega : k = 1 ∨ k = 2 ∨ k = 3 ∨ k = 4 ∨ k = 5 ∨ k = 6 ∨ k = 7 ∨ k = 8 ∨ k = 9) with rfl | rfl | rfl | rfl | rfl | rfl | rfl | rfl | rfl
  all_goals decide
theorem prts_one {j : Nat} (h : j = 0) : j ∈ prts 1 := by subst h; decide
theorem chk_ok12 {d : Ov} (h : OpOk d) (xs : List Gr.No) (hx : d.ki = 1 → (Gr.chk (str d.pl.1.1) d.pl.1.2 xs).2 = 0) :
    opChk (str d.pl.1.1) d.pl.1.2 d.pl.2.length (str d.ky) d.la d.wo d.tk d.ry.length d.ru (d.lu : Int) d.ti d xs = 0 := by
  unfold opChk
  rw [oe_nf h.nf h.ki, hld_ok h, if_neg (fun c => c.elim (prts_some h.ki) fun c => c.elim (fun c => by cases c) (fun c => by cases c))]
  split
  · exact hx (by assumption)
  · rfl
theorem pok_of {d : Pv} {xs : List Gr.No} (hk : PvK d) (h : xs.map er = d.2.map toNo) : POk (str d.1.1) d.1.2 xs := by
  have hl : xs.length = d.2.length := by simpa using congrArg List.length h
  refine ⟨by rw [str_size]; have := hk.nm; omega, hk.dl, by have := hk.len; omega, fun x hx => ?_⟩
  have h1 : er x ∈ d.2.map toNo := by rw [← h]; exact List.mem_map_of_mem hx
  obtain ⟨e, he, h2⟩ := List.mem_map.1 h1
  have q := congrArg Gr.No.q h2
  have t0 : e.1.2 = x.nl := congrArg Gr.No.nl h2
  have t1 : e.2 = x.al := congrArg Gr.No.al h2
  have t2 : str e.1.1.1.1.1.1.1.1.1 = x.q.nm := congrArg Gr.Nd.nm q
  have t3 : e.1.1.1.1.1.1.1.1.2 = x.q.la := congrArg Gr.Nd.la q
  have t4 : e.1.1.1.1.1.1.1.2 = x.q.bu := congrArg Gr.Nd.bu q
  have t5 : e.1.1.1.1.1.1.2 = x.q.cl := congrArg Gr.Nd.cl q
  have t6 : e.1.1.1.1.1.2 = x.q.be := congrArg Gr.Nd.be q
  have t7 : e.1.1.1.1.2 = x.q.ba := congrArg Gr.Nd.ba q
  have t8 : e.1.1.1.2 = x.q.ca := congrArg Gr.Nd.ca q
  have t9 : e.1.1.2 = x.q.ji := congrArg Gr.Nd.ji q
  have k := hk.nds e he
  refine ⟨by rw [← t2, str_size]; have := k.nm; omega, t3 ▸ k.i1, t4 ▸ k.i2, t5 ▸ k.i3, t6 ▸ k.i4, t7 ▸ k.i5, t8 ▸ k.i6, t9 ▸ k.i7, t0 ▸ k.l1.2, t1 ▸ k.l2.2⟩
/-- a plan that was read, as one that came in -/
theorem PlV.inp {d : Pv} {w : World} {v : Value} (h : PlV d w v) (hk : PvK d) : ∃ a n c xs, v = .agg #[.string (str d.1.1), .int .i64 d.1.2, .slice a n c] ∧ Gr.RdP w.heap.size w (a, n, c) xs ∧ Gr.Sz (str d.1.1) xs ∧ POk (str d.1.1) d.1.2 xs ∧ pv (str d.1.1) d.1.2 xs = d ∧ may d = decide ((Gr.chk (str d.1.1) d.1.2 xs).2 = 0) ∧ n = d.2.length ∧ xs.map er = d.2.map toNo := by
  obtain ⟨a, n, c, xs, e, h1, h2, h3, h4, _, _⟩ := h.rd hk
  refine ⟨a, n, c, xs, e, h1, sz_of hk h2, pok_of hk h2, ?_, may_rd h2, h4, h2⟩
  unfold pv
  rw [sb_str _ hk.by_, h3]
theorem own_c0 {w : World} {T : TypeId} {es B : Nat} {a : Option Addr} {n m c : Nat} {vs : List Value} (h : w.ownsRow B T es (.slice a n c) m vs) : a = none → c = 0 := fun e => by
  rcases h.2 with ⟨e1, _⟩ | ⟨g, cap, cur, e1, _⟩
  · injection e1
  · injection e1 with e1
    rw [e] at e1
    cases e1
/-- an operation that was read, as one that came in -/
theorem OvV.inp {d : Ov} {w : World} {v : Value} (h : OvV d w v) (hk : OvK d) : ∃ ki nm dl x1 x2 x3 ky la wo tk y1 y2 y3 ru lu ti xs, v = .agg #[.int .i64 ki, .string nm, .int .i64 dl, .slice x1 x2 x3, .string ky, .int .i64 la, .int .i64 wo, .int .i64 tk, .slice y1 y2 y3, .int .i64 ru, .int .u64 lu, .int .i64 ti] ∧
    OpD w.heap.size w ki nm dl x1 x2 x3 ky la wo tk y1 y2 y3 ru lu ti d xs ∧ ki ≤ 9223372036854775807 ∧ Gr.Sz nm xs ∧ POk nm dl xs ∧ opChk nm dl x2 ky la wo tk y2 ru lu ti d xs = 0 ∧ xs.map er = d.pl.2.map toNo := by
  obtain ⟨ki, nm, dl, x1, x2, x3, ky, la, wo, tk, y1, y2, y3, ru, lu, ti, e, ⟨e1, e2, e3, e4, e5, e6, e7, e8, e9, e10⟩, hn, ho⟩ := h
  subst e1 e2 e3 e4 e5 e6 e7 e8 e9 e10
  have hp : PlV d.pl w (.agg #[.string (str d.pl.1.1), .int .i64 d.pl.1.2, .slice x1 x2 x3]) := ⟨x1, x2, x3, rfl, hn⟩
  obtain ⟨a, n, c, xs, ep, h1, h2, h3, h4, h5, h6, h7⟩ := hp.inp hk.pl
  have ep : Value.slice x1 x2 x3 = .slice a n c := by
    injection ep with ep
    have := congrArg (fun z : Array Value => z.toList) ep
    injection this with _ t
    injection t with _ t
    injection t
  injection ep with p1 p2 p3
  subst p1 p2 p3
  obtain ⟨a, c, ev, hr, h0, hlc, hb⟩ := ownsRow_rd ho hk.ry (by have := hk.ryn; omega)
  injection ev with q1 q2 q3
  subst q1 q2 q3
  refine ⟨_, _, _, _, _, _, _, _, _, _, _, _, _, _, _, _, xs, e, ⟨rfl, h4.symm, h1, (sb_str _ hk.ky).symm, by rw [str_size]; have := hk.kyn; omega, ⟨rfl, hk.la⟩, ⟨rfl, hk.wo⟩, ⟨rfl, hk.tk⟩, hr, by have := hk.ryn; omega, h0, fun hn b off e => ?_, ⟨rfl, hk.ru⟩, ⟨rfl, hk.ok.lu⟩, ⟨rfl, hk.ti⟩⟩, by have := hk.ok.ki; omega, h2, h3, ?_, h7⟩
  · rcases ho.2 with ⟨e1, _⟩ | ⟨g, cap, cur, e1, _, hg, _⟩
    · injection e1 with e1
      rw [e] at e1
      cases e1
    · injection e1 with e1
      rw [e] at e1
      injection e1 with e1
      injection e1 with e1
      rw [e1]
      exact (Array.getElem?_eq_some_iff.1 hg).1
  · rw [h6]
    refine chk_ok12 hk.ok xs fun hk1 => ?_
    have hm : may d.pl = true := hk.ok.pt 0 (by rw [hk1]; exact prts_one rfl)
    rw [h5] at hm
    exact of_decide_eq_true hm
/-- what is read whole has just its bytes, and room -/
theorem whole_op {l : List Nat} (hl : ∀ d ∈ l, d < 256) (he : opE l = 0) : OvK (opVal (newR l)) ∧ opS (opVal (newR l)) = ⟨l, room 8192, 0⟩ ∧ 1 ≤ l.length ∧ l.length ≤ 5170 := by
  have hf := endR_ok he
  have hb : Byt (newR l) := by
    unfold newR
    split
    · exact hl
    · intro d hd; cases hd
  have hz : (newR l).fault = 0 := by
    by_cases h0 : (newR l).fault = 0
    · exact h0
    · rw [takeR_stick h0] at hf; exact absurd hf h0
  have hk := opVal_k hb hz (by rw [takeR_run hz] at hf; exact hf)
  have h16 : opW (opVal (newR l)) ⟨[], 16777216, 0⟩ = ⟨l, 16777216, 0⟩ := rw_whole op_rw l hl he
  obtain ⟨bs, b1, b2, b3⟩ := fit_op _ hk.ok ⟨[], 16777216, 0⟩ rfl (by show 0 + 5170 ≤ 16777216; decide)
  rw [h16] at b3
  have e : l = bs := by injection b3
  subst e
  refine ⟨hk, ?_, b1, b2⟩
  have hnew : newR l = ⟨l, 0, 0⟩ := by unfold newR; rw [if_pos (by omega)]
  rw [takeR_run hz] at hf
  obtain ⟨z, z1, z2, z3, z4⟩ := op_rw (newR l) hb hz (by rw [hnew]; exact Nat.zero_le _) hf
  have h8 : room 8192 = 8192 := by decide
  have hr : rest (newR l) = l := by rw [hnew]; rfl
  rw [hr] at z2 z4
  have e1 := z4 ⟨[], 16777216, 0⟩ rfl (by show 0 + z ≤ 16777216; omega)
  have e1 : opW (opVal (newR l)) ⟨[], 16777216, 0⟩ = ⟨[] ++ l.take z, 16777216, 0⟩ := e1
  rw [h16] at e1
  have e2 : l = [] ++ l.take z := by injection e1
  have e3 := z4 ⟨[], room 8192, 0⟩ rfl (by show 0 + z ≤ room 8192; omega)
  have e3 : opW (opVal (newR l)) ⟨[], room 8192, 0⟩ = ⟨[] ++ l.take z, room 8192, 0⟩ := e3
  rw [← e2] at e3
  exact e3
theorem whole_plan {l : List Nat} (hl : ∀ d ∈ l, d < 256) (he : planE l = 0) : PvK (planVal (newR l)) ∧ may (planVal (newR l)) = true ∧ planW (planVal (newR l)) ⟨[], room 8192, 0⟩ = ⟨l, room 8192, 0⟩ ∧ 1 ≤ l.length ∧ l.length ≤ 5104 := by
  have hf := endR_ok he
  have hb : Byt (newR l) := by
    unfold newR
    split
    · exact hl
    · intro d hd; cases hd
  have hz : (newR l).fault = 0 := by
    by_cases h0 : (newR l).fault = 0
    · exact h0
    · rw [takeR_stick h0] at hf; exact absurd hf h0
  have hf2 := hf
  rw [takeR_run hz] at hf2
  have hm := (chkR_ok hf2).2.1
  have h16 : planW (planVal (newR l)) ⟨[], 16777216, 0⟩ = ⟨l, 16777216, 0⟩ := rw_whole (rw_chk may rw_plan) l hl he
  obtain ⟨bs, b1, b2, b3⟩ := fit_may _ hm ⟨[], 16777216, 0⟩ rfl (by show 0 + 5104 ≤ 16777216; decide)
  rw [h16] at b3
  have e : l = bs := by injection b3
  subst e
  refine ⟨planVal_k hb, hm, ?_, b1, b2⟩
  have hnew : newR l = ⟨l, 0, 0⟩ := by unfold newR; rw [if_pos (by omega)]
  obtain ⟨z, z1, z2, z3, z4⟩ := rw_chk may rw_plan (newR l) hb hz (by rw [hnew]; exact Nat.zero_le _) hf2
  have h8 : room 8192 = 8192 := by decide
  have hr : rest (newR l) = l := by rw [hnew]; rfl
  rw [hr] at z2 z4
  have e1 := z4 ⟨[], 16777216, 0⟩ rfl (by show 0 + z ≤ 16777216; omega)
  have e1 : planW (planVal (newR l)) ⟨[], 16777216, 0⟩ = ⟨[] ++ l.take z, 16777216, 0⟩ := e1
  rw [h16] at e1
  have e2 : l = [] ++ l.take z := by injection e1
  have e3 := z4 ⟨[], room 8192, 0⟩ rfl (by show 0 + z ≤ room 8192; omega)
  have e3 : planW (planVal (newR l)) ⟨[], room 8192, 0⟩ = ⟨[] ++ l.take z, room 8192, 0⟩ := e3
  rw [← e2] at e3
  exact e3
end Cd
end Go.Proofs.YtbjcckfhfbjchaaGreat
