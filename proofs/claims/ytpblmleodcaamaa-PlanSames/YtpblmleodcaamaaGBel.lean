/- Contract of Below: the search. -/
import Derived.Test.YtpblmleodcaamaaGRow
namespace Go.Proofs.Ytpblmleodcaamaa
namespace Gr
open Go.RowKit

/-- what a node needs -/
def ng (xs : List No) (i : Nat) : List Nat := match xs[i]? with
  | some x => x.nl.map Int.toNat
  | none => []
theorem ng_at {xs : List No} {i : Nat} {x : No} (h : xs[i]? = some x) : ng xs i = x.nl.map Int.toNat := by
  unfold ng; rw [h]
theorem ng_eg {xs : List No} {i e : Nat} (h : e ∈ ng xs i) : e ∈ eg xs i := by
  unfold ng at h
  unfold eg
  split at h
  · rename_i x hx
    rw [hx]
    simp only [List.map_append]
    exact List.mem_append.2 (.inl h)
  · cases h
theorem wt_mono {E F : Nat → List Nat} (h : ∀ i e, e ∈ E i → e ∈ F i) : ∀ (k : Nat) {a b : Nat}, wt E k a b → wt F k a b
  | 0, _, _, g => h _ _ g
  | k + 1, _, _, ⟨x, g1, g2⟩ => ⟨x, h _ _ g1, wt_mono h k g2⟩
theorem Waits.mono {E F : Nat → List Nat} (h : ∀ i e, e ∈ E i → e ∈ F i) {a b : Nat} (g : Waits E a b) : Waits F a b := by
  obtain ⟨k, hk⟩ := g; exact ⟨k, wt_mono h k hk⟩
theorem row64_put (f : Nat → Bool) (k : Nat) (b : Bool) (h : k < 64) : (row64 f).setIfInBounds k (.bool b) = row64 (fun i => if i = k then b else f i) := by
  apply Array.ext_getElem?
  intro i
  rw [Array.getElem?_setIfInBounds]
  by_cases hi : i < 64
  · rw [row64_at _ _ hi, row64_at _ _ hi]
    by_cases e : k = i
    · subst e; simp [row64_size, h]
    · rw [if_neg e, if_neg (fun e' => e e'.symm)]
  · have hs := row64_size f
    have hs' := row64_size (fun i => if i = k then b else f i)
    rw [if_neg (by omega), Array.getElem?_eq_none (by omega), Array.getElem?_eq_none (by omega)]

/-- what the search of Below finds in memory -/
structure BEnv (B : Nat) (s : Option Addr × Nat × Nat) (xs : List No) (Pa Pp Pn Pd Pf t : Nat) (w : World) (α φ : Nat → Bool) : Prop where
  ba : w.heap[Pa]? = some (.cells (row64 α) 54 (0, 0))
  bf : w.heap[Pf]? = some (.cells (row64 φ) 54 (0, 0))
  cp : w.cell? ⟨Pp, 2, none⟩ = some (.slice s.1 s.2.1 s.2.2)
  cn : w.cell? ⟨Pn, 0, none⟩ = some (.int .i64 (t : Int))
  cd : w.cell? ⟨Pd, 0, none⟩ = some (.func (.func 35) #[] #[.pointer (some ⟨Pa, 0, none⟩), .pointer (some ⟨Pp, 0, none⟩), .pointer (some ⟨Pn, 0, none⟩), .pointer (some ⟨Pd, 0, none⟩), .pointer (some ⟨Pf, 0, none⟩)])
  rd : RdP B w s xs
  la : B ≤ Pa
  lf : B ≤ Pf
  af : Pa ≠ Pf
  pa : Pp ≠ Pa
  pf : Pp ≠ Pf
  na : Pn ≠ Pa
  nf : Pn ≠ Pf
  da : Pd ≠ Pa
  df : Pd ≠ Pf
variable {B : Nat} {s : Option Addr × Nat × Nat} {xs : List No} {Pa Pp Pn Pd Pf t : Nat} {w w' : World} {α φ : Nat → Bool}
theorem BEnv.new (h : BEnv B s xs Pa Pp Pn Pd Pf t w α φ) {S : Nat → Prop} (k : Keep S w w') (hS : ∀ i, S i → i ≠ Pa ∧ i ≠ Pf ∧ i ≠ Pp ∧ i ≠ Pn ∧ i ≠ Pd ∧ B ≤ i) : BEnv B s xs Pa Pp Pn Pd Pf t w' α φ :=
  { h with ba := k.blk h.ba fun e => (hS _ e).1 rfl, bf := k.blk h.bf fun e => (hS _ e).2.1 rfl, cp := k.cell h.cp fun e => (hS _ e).2.2.1 rfl, cn := k.cell h.cn fun e => (hS _ e).2.2.2.1 rfl, cd := k.cell h.cd fun e => (hS _ e).2.2.2.2.1 rfl, rd := h.rd.keep k fun i e => (hS i e).2.2.2.2.2 }
theorem BEnv.mark (h : BEnv B s xs Pa Pp Pn Pd Pf t w α φ) {i : Nat} (hi : i < 64) : BEnv B s xs Pa Pp Pn Pd Pf t (w.setCell ⟨Pa, i, none⟩ (.bool true)) (mark α i) φ := by
  have k := keep_cell w Pa i (.bool true)
  refine { h with ba := ?_, bf := k.blk h.bf (Ne.symm h.af), cp := k.cell h.cp h.pa, cn := k.cell h.cn h.na, cd := k.cell h.cd h.da, rd := h.rd.keep k fun j e => by have := h.la; omega }
  rw [set_blk h.ba i _, row64_set α i hi]
theorem BEnv.put (h : BEnv B s xs Pa Pp Pn Pd Pf t w α φ) {i : Nat} (b : Bool) (hi : i < 64) : BEnv B s xs Pa Pp Pn Pd Pf t (w.setCell ⟨Pf, i, none⟩ (.bool b)) α (fun j => if j = i then b else φ j) := by
  have k := keep_cell w Pf i (.bool b)
  refine { h with bf := ?_, ba := k.blk h.ba h.af, cp := k.cell h.cp h.pf, cn := k.cell h.cn h.nf, cd := k.cell h.cd h.df, rd := h.rd.keep k fun j e => by have := h.lf; omega }
  rw [set_blk h.bf i _, row64_put φ i b hi]

/-- what is found of a node and below it is right -/
def Right (xs : List No) (t : Nat) (α φ : Nat → Bool) (u : Nat) : Prop := ∀ y, (y = u ∨ Waits (ng xs) u y) → α y = true → (φ y = true ↔ Waits (ng xs) y t)
/-- what a search leaves of what was known -/
structure Grow (xs : List No) (t : Nat) (α φ α' φ' : Nat → Bool) : Prop where
  mono : ∀ y, α y = true → α' y = true
  old : ∀ y, α y = true → φ' y = φ y
  new : ∀ y, α' y = true → α y = false → (φ' y = true ↔ Waits (ng xs) y t)
theorem Grow.refl (xs : List No) (t : Nat) (α φ : Nat → Bool) : Grow xs t α φ α φ := ⟨fun _ h => h, fun _ _ => rfl, fun y h g => by rw [h] at g; cases g⟩
theorem Grow.trans {xs : List No} {t : Nat} {α φ α' φ' α'' φ'' : Nat → Bool} (h : Grow xs t α φ α' φ') (g : Grow xs t α' φ' α'' φ'') : Grow xs t α φ α'' φ'' :=
  ⟨fun y hy => g.mono y (h.mono y hy), fun y hy => (g.old y (h.mono y hy)).trans (h.old y hy), fun y hy hn => by
    cases e : α' y
    · exact g.new y hy e
    · rw [g.old y e]; exact h.new y e hn⟩
theorem Grow.right {xs : List No} {t u : Nat} {α φ α' φ' : Nat → Bool} (h : Grow xs t α φ α' φ') (r : Right xs t α φ u) : Right xs t α' φ' u := fun y hy ha => by
  cases e : α y
  · exact h.new y ha e
  · rw [h.old y e]; exact r y hy e
/-- below a node that is under way -/
theorem Right.down {xs : List No} {t u v : Nat} {α φ : Nat → Bool} (h : Right xs t α φ u) (hc : ¬ Waits (ng xs) u u) (hv : v ∈ ng xs u) : Right xs t (mark α u) φ v := fun y hy ha => by
  have hw : Waits (ng xs) u y := by
    rcases hy with rfl | hy
    · exact Waits.edge hv
    · exact Waits.step hv hy
  rcases (mark_iff y).1 ha with ha | rfl
  · exact h y (.inr hw) ha
  · exact absurd hw hc

/-- what needs answers, of so many that are not asked -/
def NB (B : Nat) (s : Option Addr × Nat × Nat) (xs : List No) (Pa Pp Pn Pd Pf t m : Nat) : Prop := ∀ (fr : Nat) (α φ : Nat → Bool) (w : World), fr < xs.length → cnt α = m → BEnv B s xs Pa Pp Pn Pd Pf t w α φ → Right xs t α φ fr →
  Calls Try.prog 35 #[.int .i64 (fr : Int), .pointer (some ⟨Pa, 0, none⟩), .pointer (some ⟨Pp, 0, none⟩), .pointer (some ⟨Pn, 0, none⟩), .pointer (some ⟨Pd, 0, none⟩), .pointer (some ⟨Pf, 0, none⟩)] w fun e w' => ∃ (r : Bool) (α' φ' : Nat → Bool), e = .returned (.bool r) ∧ (r = true ↔ Waits (ng xs) fr t) ∧ BEnv B s xs Pa Pp Pn Pd Pf t w' α' φ' ∧ Grow xs t α φ α' φ' ∧ Keep (fun k => k = Pa ∨ k = Pf) w w'
theorem enter_b11 : ∀ args w, (callFunc 37 args).run Try.prog w = .ok (.enter 37 args) w := by intro args w; simp [go_sem]

/-- the end of a step: as a name, for the walk must not open it -/
def StB (B : Nat) (s : Option Addr × Nat × Nat) (xs : List No) (Pa Pp Pn Pd Pf t : Nat) (α φ : Nat → Bool) (P : Prop) (w : World) (e : Ending) (w' : World) : Prop := ∃ (r : Bool) (α' φ' : Nat → Bool), e = .returned (.bool r) ∧ (r = true ↔ P) ∧ BEnv B s xs Pa Pp Pn Pd Pf t w' α' φ' ∧ Grow xs t α φ α' φ' ∧ Keep (fun k => k = Pa ∨ k = Pf) w w'

set_option maxHeartbeats 1000000 in
theorem stepB_any {m : Nat} (ih : ∀ k, k < m → NB B s xs Pa Pp Pn Pd Pf t k) (hm : cnt α < m) (h : BEnv B s xs Pa Pp Pn Pd Pf t w α φ) (k : Nat) (hk : k < xs.length) (hr : Right xs t α φ k) :
    Calls Try.prog 37 #[.int .i64 (k : Int), .pointer (some ⟨Pn, 0, none⟩), .pointer (some ⟨Pd, 0, none⟩)] w (StB B s xs Pa Pp Pn Pd Pf t α φ (k = t ∨ Waits (ng xs) k t) w) := by
  have cn := h.cn
  have cd := h.cd
  have H := hide h
  have L := hide (ih (cnt α) hm k α φ w hk rfl h hr)
  clear h ih hr
  by_cases c1 : (k : Int) = t
  · go_enter Try.func37, Try.ntmps37
    go_wp2_with fail
    go_ret
    exact ⟨true, α, φ, rfl, by simp; omega, H.out, Grow.refl .., Keep.refl _ _⟩
  · go_enter Try.func37, Try.ntmps37
    go_wp2_with fail
    go_at_call 35
    refine L.out.mono ?_
    rintro e w1 ⟨r, α', φ', rfl, hr, hE, hG, hK⟩
    have HR := hide hr
    have HE := hide hE
    have HG := hide hG
    have HK := hide hK
    clear hr hE hG hK
    go_wp2_with fail
    go_ret
    refine ⟨r, α', φ', congrArg (fun b => Ending.returned (.bool b)) ?_, ?_, HE.out, HG.out, HK.out⟩
    · rw [beq_eq_false_iff_ne.2 c1]; rfl
    · rw [HR.out]
      exact ⟨.inr, fun h => h.resolve_left (by omega)⟩

/-- the list of a node's needs, gone through -/
theorem scanB_any {m fr : Nat} (hv : Val xs) (hcy : ∀ x, ¬ Waits (ng xs) x x) (ih : ∀ k, k < m → NB B s xs Pa Pp Pn Pd Pf t k) (hm : cnt (mark α fr) < m) (h : BEnv B s xs Pa Pp Pn Pd Pf t w (mark α fr) φ) (hr : Right xs t α φ fr) (x : No) (hx : xs[fr]? = some x) (hz : RdZ B w x.q.ne x.nl) :
    Calls Try.prog 36 #[.slice x.q.ne.1 x.q.ne.2.1 x.q.ne.2.2, .func (.func 37) #[] #[.pointer (some ⟨Pn, 0, none⟩), .pointer (some ⟨Pd, 0, none⟩)]] w (StB B s xs Pa Pp Pn Pd Pf t (mark α fr) φ (Waits (ng xs) fr t) w) := by
  have hng := ng_at hx
  have hmem : ∀ (j : Nat) (y : Int), x.nl[j]? = some y → ∃ k : Nat, y = k ∧ k < xs.length ∧ k ∈ ng xs fr := fun j y hy => by
    have hmm := List.mem_of_getElem? hy
    have := hv.2 x (List.mem_of_getElem? hx) y (List.mem_append.2 (.inl hmm))
    refine ⟨y.toNat, by omega, by omega, ?_⟩
    rw [hng]
    exact List.mem_map.2 ⟨y, hmm, rfl⟩
  refine (containsFunc_any 37 _ (fun k => k = Pa ∨ k = Pf) (fun k W => ∃ α' φ', BEnv B s xs Pa Pp Pn Pd Pf t W α' φ' ∧ Grow xs t (mark α fr) φ α' φ' ∧ ∀ j y, j < k → x.nl[j]? = some y → ¬ (y.toNat = t ∨ Waits (ng xs) y.toNat t)) (fun _ W => ∃ α' φ', BEnv B s xs Pa Pp Pn Pd Pf t W α' φ' ∧ Grow xs t (mark α fr) φ α' φ' ∧ Waits (ng xs) fr t) x.q.ne x.nl B w hz (fun i e => by have := h.la; have := h.lf; omega) ⟨mark α fr, φ, h, Grow.refl .., fun j y hj => by omega⟩ enter_b11 ?_).mono ?_
  · rintro k y W hy ⟨α', φ', hE, hG, hJ⟩ _
    obtain ⟨n, rfl, hn1, hn2⟩ := hmem k y hy
    have hle : cnt α' ≤ cnt (mark α fr) := cnt_mono hG.mono
    refine (stepB_any ih (by omega) hE n hn1 (hG.right (hr.down (hcy fr) hn2))).mono ?_
    rintro e W' ⟨r, α'', φ'', rfl, hrr, hE', hG', hK'⟩
    refine ⟨r, rfl, fun he => ⟨α'', φ'', hE', hG.trans hG', fun j u hj hu => ?_⟩, fun he => ⟨α'', φ'', hE', hG.trans hG', ?_⟩, hK'⟩
    · by_cases e : j = k
      · subst e; rw [hy] at hu; injection hu with hu; subst hu
        intro hc
        rw [Int.toNat_natCast] at hc
        have := hrr.2 hc
        rw [he] at this; cases this
      · exact hJ j u (by omega) hu
    · rcases hrr.1 he with rfl | hw
      · exact Waits.edge hn2
      · exact Waits.step hn2 hw
  · rintro e w1 ⟨r, rfl, h1, h2, k1⟩
    cases r
    · obtain ⟨α', φ', hE, hG, hJ⟩ := h1 rfl
      refine ⟨false, α', φ', rfl, ⟨(fun h => by cases h), fun hw => ?_⟩, hE, hG, k1⟩
      have key : ∀ u, u ∈ ng xs fr → ¬ (u = t ∨ Waits (ng xs) u t) := fun u hu => by
        rw [hng] at hu
        obtain ⟨y, hy, rfl⟩ := List.mem_map.1 hu
        obtain ⟨j, hj⟩ := List.getElem?_of_mem hy
        exact hJ j y (List.getElem?_eq_some_iff.1 hj).1 hj
      rcases hw.cases with hc | ⟨u, hu, hc⟩
      · exact absurd (.inl rfl) (key t hc)
      · exact absurd (.inr hc) (key u hu)
    · obtain ⟨_, _, α', φ', hE, hG, hw⟩ := h2 rfl
      exact ⟨true, α', φ', rfl, ⟨fun _ => hw, fun _ => rfl⟩, hE, hG, k1⟩

set_option maxHeartbeats 1000000 in
theorem needs_any (hv : Val xs) (hcy : ∀ x, ¬ Waits (ng xs) x x) : ∀ m, NB B s xs Pa Pp Pn Pd Pf t m := by
  intro m
  induction m using Nat.strongRecOn with
  | _ m ih =>
    intro fr α φ w hfr hm h hr
    subst hm
    have hl := hv.1
    obtain ⟨a, n, c⟩ := s
    have hn : n = xs.length := h.rd.1
    have ca := cell_blk h.ba fr (row64_at α fr (by omega))
    cases c1 : α fr
    · rw [c1] at ca
      have fz := frozen_blk h.ba fr
      have hM := h.mark (i := fr) (by omega)
      obtain ⟨g, off, x, ha, hg, hx, hN, hz1, hz2⟩ := hM.rd.at (i := fr) (show fr < n by omega)
      have ha' : a = some ⟨g, off, none⟩ := ha
      subst ha'
      have SC := hide (scanB_any hv hcy ih (cnt_mark (by omega) c1) hM hr x hx hz1)
      have kM := keep_cell w Pa fr (.bool true)
      have KM := hide (kM.mono (T := fun k => k = Pa ∨ k = Pf) fun _ e => .inl e)
      obtain ⟨n0, n1, n2, n3, n4, n5, n6, n7, n8, n9⟩ := hN.all
      have cp := hM.cp
      have hfn : fr < n := by omega
      have hn64 : n ≤ 64 := by omega
      clear n0 n1 n2 n3 n4 n5 n6 n7 n9 hN hz1 hz2 ha hx
      have HM := hide hM
      clear hM kM
      go_enter Try.func35, Try.ntmps35
      go_wp2_with fail
      go_at_call 36
      refine SC.out.mono ?_
      rintro e w1 ⟨r, α', φ', rfl, hrr, hE, hG, hK⟩
      have cfo := cell_blk hE.bf fr (row64_at φ' fr (by omega))
      have cff := frozen_blk hE.bf fr
      have hP := hE.put r (i := fr) (by omega)
      have cf2 := cell_blk hP.bf fr (row64_at _ fr (by omega))
      simp only [if_true] at cf2
      have HP := hide hP
      have HRR := hide hrr
      have HG := hide hG
      have HK := hide ((KM.out.more hK).more ((keep_cell w1 Pf fr (.bool r)).mono (T := fun k => k = Pa ∨ k = Pf) fun _ e => .inr e))
      have HAF := hide c1
      clear hP hrr hG hK hE SC HM KM n8 cp ca fz
      go_wp2_with fail
      go_ret
      refine ⟨r, α', _, rfl, HRR.out, HP.out, ⟨fun y hy => HG.out.mono y ((mark_iff y).2 (.inl hy)), fun y hy => ?_, fun y hy hn => ?_⟩, HK.out⟩
      · have e : y ≠ fr := fun e => by rw [e, HAF.out] at hy; cases hy
        simp only [if_neg e]
        exact HG.out.old y ((mark_iff y).2 (.inl hy))
      · by_cases e : y = fr
        · simp only [if_pos e]; rw [e]; exact HRR.out
        · simp only [if_neg e]
          refine HG.out.new y hy ?_
          cases hm : mark α fr y
          · rfl
          · rcases (mark_iff y).1 hm with h | h
            · rw [hn] at h; cases h
            · exact absurd h e
    · rw [c1] at ca
      have cf := cell_blk h.bf fr (row64_at φ fr (by omega))
      have H := hide h
      have HR := hide (hr fr (.inl rfl) c1)
      clear h ih hr
      go_enter Try.func35, Try.ntmps35
      go_wp2_with fail
      go_ret
      exact ⟨_, α, φ, rfl, HR.out, H.out, Grow.refl .., Keep.refl _ _⟩
end Gr
end Go.Proofs.Ytpblmleodcaamaa
