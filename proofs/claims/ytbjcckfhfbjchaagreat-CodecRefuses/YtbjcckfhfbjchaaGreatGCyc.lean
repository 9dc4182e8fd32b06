import Derived.Test.YtbjcckfhfbjchaaGreatGNod
import Derived.Test.YtbjcckfhfbjchaaGreatGEdg
/- Contract of checkWhole. -/
namespace Go.Proofs.YtbjcckfhfbjchaaGreat
namespace Gr
open Go.RowKit Go.Maps

def cW (nm : ByteArray) (dl : Int) (xs : List No) : Nat := if !isNm nm then 100 else if !wI dl 1 1099511627776 then 101 else if !wI xs.length 1 64 || decide (256 < edges xs) then 102 else 0
set_option maxHeartbeats 4000000 in
theorem checkWhole_any (nm : ByteArray) (dl : Int) (s : Option Addr × Nat × Nat) (xs : List No) (B : Nat) (w : World) (hP : RdP B w s xs) (hs : nm.size ≤ 9223372036854775807) :
    Calls Tryz.prog 50 #[.agg #[.string nm, .int .i64 dl, .slice s.1 s.2.1 s.2.2]] w fun e w' => e = .returned (.int .i64 (cW nm dl xs : Nat)) ∧ Keep (fun _ => False) w w' := by
  obtain ⟨a, n, c⟩ := s
  have HN : Hid (n = xs.length) := hP.1
  have I := hide (fun w => isName_any nm w hs)
  have W1 := hide (fun w => within_any dl 1 1099511627776 w)
  have W2 := hide (fun w => within_any (n : Int) 1 64 w)
  have KW := hide (Keep.alloc (fun _ => False) w (.cells #[.string nm, .int .i64 dl, .slice a n c] 30))
  have CE := hide (countEdges_any _ _ _ _ (hP.new KW.out))
  have HR : Hid (cW nm dl xs = if !isNm nm then 100 else if !wI dl 1 1099511627776 then 101 else if !wI n 1 64 || decide (256 < edges xs) then 102 else 0) := hide (by unfold cW; rw [HN.out])
  generalize cW nm dl xs = r at *
  clear hP hs
  generalize isNm nm = b1 at *
  generalize wI dl 1 1099511627776 = b2 at *
  go_enter Tryz.func50, Tryz.ntmps50
  go_wp2_with fail
  go_at_call 104
  refine (I.out _).mono ?_
  rintro e w1 ⟨rfl, rfl⟩
  cases b1
  · have hr := HR.out
    simp only [Bool.not_false, if_true] at hr
    subst hr
    go_wp2_with fail
    go_ret
    exact ⟨rfl, KW.out⟩
  go_wp2_with fail
  go_at_call 105
  refine (W1.out _).mono ?_
  rintro e w1 ⟨rfl, rfl⟩
  cases b2
  · have hr := HR.out
    simp only [Bool.not_false, Bool.not_true, if_true] at hr
    subst hr
    go_wp2_with fail
    go_ret
    exact ⟨rfl, KW.out⟩
  go_wp2_with fail
  go_at_call 105
  refine (W2.out _).mono ?_
  rintro e w1 ⟨rfl, rfl⟩
  cases h3 : wI (n : Int) 1 64
  · have hr := HR.out
    rw [h3] at hr
    simp only [Bool.not_false, Bool.not_true, if_true, Bool.true_or] at hr
    subst hr
    go_wp2_with fail
    go_ret
    exact ⟨rfl, KW.out⟩
  have hn : n ≤ 64 := by unfold wI at h3; simp at h3; omega
  have hr := HR.out
  rw [h3] at hr
  simp only [Bool.not_true, Bool.false_or] at hr
  have HR2 := hide hr
  clear hr HR h3
  go_wp2_with fail
  go_at_call 106
  refine (CE.out hn).mono ?_
  rintro e w2 ⟨rfl, k2⟩
  have K2 := hide (KW.out.more k2)
  clear k2 CE KW
  generalize edges xs = m at *
  by_cases h : 256 < m
  · have hr := HR2.out
    simp only [h, decide_true, if_true] at hr
    subst hr
    go_wp2_with fail
    go_ret
    exact ⟨rfl, K2.out⟩
  · have hr := HR2.out
    simp only [h, decide_false] at hr
    subst hr
    go_wp2_with fail
    go_ret
    exact ⟨rfl, K2.out⟩
end Gr
end Go.Proofs.YtbjcckfhfbjchaaGreat

/- Contract of cycle: the search. -/
namespace Go.Proofs.YtbjcckfhfbjchaaGreat
namespace Gr
open Go.RowKit

/-- 64 bools as a value -/
def row64 (f : Nat → Bool) : Array Value := Array.ofFn (n := 64) fun i => .bool (f i.val)
theorem row64_size (f : Nat → Bool) : (row64 f).size = 64 := by simp [row64]
theorem row64_at (f : Nat → Bool) (i : Nat) (h : i < 64) : (row64 f)[i]? = some (.bool (f i)) := by simp [row64, h]
/-- one more -/
def mark (f : Nat → Bool) (k : Nat) : Nat → Bool := fun i => if i = k then true else f i
theorem row64_set (f : Nat → Bool) (k : Nat) (h : k < 64) : (row64 f).setIfInBounds k (.bool true) = row64 (mark f k) := by
  apply Array.ext_getElem?
  intro i
  rw [Array.getElem?_setIfInBounds]
  by_cases hi : i < 64
  · rw [row64_at _ _ hi, row64_at _ _ hi, mark]
    by_cases e : k = i
    · subst e; simp [row64_size, h]
    · rw [if_neg e, if_neg (fun e' => e e'.symm)]
  · have hs := row64_size f
    have hs' := row64_size (mark f k)
    rw [if_neg (by omega), Array.getElem?_eq_none (by omega), Array.getElem?_eq_none (by omega)]
theorem row64_one (f : Nat → Bool) : (row64 f).all (·.oneCell') = true := by
  have h : ∀ v ∈ row64 f, v.oneCell' = true := by
    intro v hv
    unfold row64 at hv
    rw [Array.mem_ofFn] at hv
    obtain ⟨i, rfl⟩ := hv
    rfl
  rw [Array.all_eq_true']
  exact h
def none64 : Array Value := row64 fun _ => false
theorem none64_eq : Array.replicate 64 (Value.bool false) = none64 := by
  apply Array.ext_getElem?
  intro i
  by_cases hi : i < 64
  · rw [none64, row64_at _ _ hi]; simp [hi]
  · rw [none64, Array.getElem?_eq_none (by simp; omega), Array.getElem?_eq_none (by rw [row64_size]; omega)]
/-- how many are not marked -/
def cnt (f : Nat → Bool) : Nat := ((List.range 64).filter fun i => !f i).length
theorem filter_le {α : Type} (l : List α) (p q : α → Bool) (h : ∀ x ∈ l, p x = true → q x = true) : (l.filter p).length ≤ (l.filter q).length := by
  induction l with
  | nil => simp
  | cons a l ih =>
    have i := ih fun x hx => h x (List.mem_cons_of_mem _ hx)
    have ha := h a (List.mem_cons_self ..)
    simp only [List.filter_cons]
    cases hp : p a
    · cases q a <;> simp <;> omega
    · rw [ha hp]; simpa using i
theorem filter_lt {α : Type} (l : List α) (p q : α → Bool) (h : ∀ x ∈ l, p x = true → q x = true) {a : α} (ha : a ∈ l) (h1 : p a = false) (h2 : q a = true) : (l.filter p).length < (l.filter q).length := by
  induction l with
  | nil => cases ha
  | cons b l ih =>
    have i0 := filter_le l p q fun x hx => h x (List.mem_cons_of_mem _ hx)
    have hb := h b (List.mem_cons_self ..)
    simp only [List.filter_cons]
    rcases List.mem_cons.1 ha with rfl | ha
    · rw [h1, h2]; simp; omega
    · have i := ih (fun x hx => h x (List.mem_cons_of_mem _ hx)) ha
      cases hp : p b
      · cases q b <;> simp <;> omega
      · rw [hb hp]; simpa using i
theorem cnt_mono {f g : Nat → Bool} (h : ∀ x, f x = true → g x = true) : cnt g ≤ cnt f := filter_le _ _ _ fun x _ hx => by
  cases hf : f x
  · rfl
  · rw [h x hf] at hx; cases hx
theorem cnt_mark {f : Nat → Bool} {k : Nat} (hk : k < 64) (hf : f k = false) : cnt (mark f k) < cnt f := filter_lt _ _ _ (fun x _ hx => by
  unfold mark at hx
  split at hx
  · cases hx
  · exact hx) (a := k) (List.mem_range.2 hk) (by simp [mark]) (by simp [hf])
theorem mark_iff {f : Nat → Bool} {k : Nat} (y : Nat) : mark f k y = true ↔ f y = true ∨ y = k := by
  unfold mark; split <;> simp_all

/-- the edges of a node -/
def eg (xs : List No) (i : Nat) : List Nat := match xs[i]? with
  | some x => (x.nl ++ x.al).map Int.toNat
  | none => []
theorem eg_at {xs : List No} {i : Nat} {x : No} (h : xs[i]? = some x) : eg xs i = x.nl.map Int.toNat ++ x.al.map Int.toNat := by
  unfold eg; rw [h]; simp
/-- all edges lead to nodes -/
def Val (xs : List No) : Prop := xs.length ≤ 64 ∧ ∀ x ∈ xs, ∀ e ∈ x.nl ++ x.al, 0 ≤ e ∧ e < xs.length

/-- what the search of cycle finds in memory -/
structure CEnv (B : Nat) (s : Option Addr × Nat × Nat) (xs : List No) (Pf Ps Pl Pn f : Nat) (w : World) (σ : Nat → Bool) : Prop where
  cf : w.cell? ⟨Pf, 0, none⟩ = some (.int .i64 (f : Int))
  bs : w.heap[Ps]? = some (.cells (row64 σ) 145 (0, 0))
  cl : w.cell? ⟨Pl, 0, none⟩ = some (.func (.func 109) #[] #[.pointer (some ⟨Pf, 0, none⟩), .pointer (some ⟨Ps, 0, none⟩), .pointer (some ⟨Pl, 0, none⟩), .pointer (some ⟨Pn, 0, none⟩)])
  cn : w.cell? ⟨Pn, 0, none⟩ = some (.slice s.1 s.2.1 s.2.2)
  rd : RdP B w s xs
  le : B ≤ Ps
  n1 : Pf ≠ Ps
  n2 : Pl ≠ Ps
  n3 : Pn ≠ Ps
variable {B : Nat} {s : Option Addr × Nat × Nat} {xs : List No} {Pf Ps Pl Pn f : Nat} {w w' : World} {σ : Nat → Bool}
theorem CEnv.new (h : CEnv B s xs Pf Ps Pl Pn f w σ) (k : Keep (fun _ => False) w w') : CEnv B s xs Pf Ps Pl Pn f w' σ :=
  ⟨k.cell h.cf fun f => f, k.blk h.bs fun f => f, k.cell h.cl fun f => f, k.cell h.cn fun f => f, h.rd.new k, h.le, h.n1, h.n2, h.n3⟩
theorem CEnv.at (h : CEnv B s xs Pf Ps Pl Pn f w σ) {i : Nat} (hi : i < 64) : w.cell? ⟨Ps, i, none⟩ = some (.bool (σ i)) := cell_blk h.bs i (row64_at σ i hi)
theorem CEnv.set (h : CEnv B s xs Pf Ps Pl Pn f w σ) {i : Nat} (hi : i < 64) : CEnv B s xs Pf Ps Pl Pn f (w.setCell ⟨Ps, i, none⟩ (.bool true)) (mark σ i) := by
  have k := keep_cell w Ps i (.bool true)
  refine ⟨k.cell h.cf h.n1, ?_, k.cell h.cl h.n2, k.cell h.cn h.n3, h.rd.keep k fun j e => by have := h.le; omega, h.le, h.n1, h.n2, h.n3⟩
  rw [set_blk h.bs i _, row64_set σ i hi]

theorem enter_c11 : ∀ args w, (callFunc 110 args).run Tryz.prog w = .ok (.enter 110 args) w := by intro args w; simp [go_sem]
/-- what leadsBack answers, of so many that are not marked -/
def LB (B : Nat) (s : Option Addr × Nat × Nat) (xs : List No) (Pf Ps Pl Pn f m : Nat) : Prop := ∀ (fr : Nat) (σ : Nat → Bool) (w : World), fr < xs.length → cnt σ = m → CEnv B s xs Pf Ps Pl Pn f w σ →
  Calls Tryz.prog 109 #[.int .i64 (fr : Int), .pointer (some ⟨Pf, 0, none⟩), .pointer (some ⟨Ps, 0, none⟩), .pointer (some ⟨Pl, 0, none⟩), .pointer (some ⟨Pn, 0, none⟩)] w fun e w' => ∃ (r : Bool) (τ : Nat → Bool), e = .returned (.bool r) ∧ CEnv B s xs Pf Ps Pl Pn f w' τ ∧ Srch (eg xs) f (fun x => σ x = true) (fun x => τ x = true) (eg xs fr) r ∧ Keep (fun k => k = Ps) w w'

set_option maxHeartbeats 1000000 in
theorem step_any (hv : Val xs) (ih : ∀ k, k < cnt σ → LB B s xs Pf Ps Pl Pn f k) (h : CEnv B s xs Pf Ps Pl Pn f w σ) (x : Int) (h0 : 0 ≤ x) (h1 : x < xs.length) :
    Calls Tryz.prog 110 #[.int .i64 x, .pointer (some ⟨Pf, 0, none⟩), .pointer (some ⟨Ps, 0, none⟩), .pointer (some ⟨Pl, 0, none⟩)] w fun e w' => ∃ (r : Bool) (τ : Nat → Bool), e = .returned (.bool r) ∧ CEnv B s xs Pf Ps Pl Pn f w' τ ∧ Srch (eg xs) f (fun x => σ x = true) (fun x => τ x = true) [x.toNat] r ∧ Keep (fun k => k = Ps) w w' := by
  obtain ⟨k, rfl⟩ : ∃ k : Nat, x = k := ⟨x.toNat, by omega⟩
  have hl := hv.1
  have cf := h.cf
  have cl := h.cl
  have cs := h.at (i := k) (by omega)
  have fz := frozen_blk h.bs k
  have H := hide h
  have IH := hide ih
  rw [Int.toNat_natCast]
  clear h ih
  by_cases c1 : (k : Int) ≤ f
  · by_cases e : k = f
    · subst e
      go_enter Tryz.func110, Tryz.ntmps110
      go_wp2_with fail
      go_ret
      exact ⟨true, σ, by simp, H.out, Srch.hit (fun _ h => h) (List.mem_singleton.2 rfl) (.inl rfl), Keep.refl _ _⟩
    · have e' : ¬ (k : Int) = f := by omega
      go_enter Tryz.func110, Tryz.ntmps110
      go_wp2_with fail
      go_ret
      exact ⟨false, σ, by simp; exact e', H.out, Srch.known (.inl (by omega)) e, Keep.refl _ _⟩
  · cases c2 : σ k
    · rw [c2] at cs
      have HS := hide (H.out.set (i := k) (by omega))
      have KS := hide (keep_cell w Ps k (.bool true))
      have cl2 := HS.out.cl
      have L := hide (IH.out _ (cnt_mark (by omega) c2) k (mark σ k) _ (by omega) rfl HS.out)
      clear IH
      go_enter Tryz.func110, Tryz.ntmps110
      go_wp2_with fail
      go_at_call 109
      refine L.out.mono ?_
      rintro e w1 ⟨r, τ, rfl, h2, h3, k3⟩
      have H2 := hide h2
      have H3 := hide h3
      have K3 := hide (KS.out.more k3)
      clear h2 h3 k3 L
      go_wp2_with fail
      go_ret
      exact ⟨r, τ, rfl, H2.out, Srch.down (fun y => mark_iff y) (by omega) H3.out, K3.out⟩
    · rw [c2] at cs
      have e' : ¬ (k : Int) = f := by omega
      go_enter Tryz.func110, Tryz.ntmps110
      go_wp2_with fail
      go_ret
      exact .inl ⟨by simp; exact e', σ, H.out, Srch.known (.inr c2) (by omega), Keep.refl _ _⟩

/-- a list of edges, gone through -/
theorem scan_any (hv : Val xs) (ih : ∀ k, k < cnt σ → LB B s xs Pf Ps Pl Pn f k) (h : CEnv B s xs Pf Ps Pl Pn f w σ) (t : Option Addr × Nat × Nat) (z : List Int) (hz : RdZ B w t z) (hb : ∀ e ∈ z, 0 ≤ e ∧ e < xs.length) :
    Calls Tryz.prog 111 #[.slice t.1 t.2.1 t.2.2, .func (.func 110) #[] #[.pointer (some ⟨Pf, 0, none⟩), .pointer (some ⟨Ps, 0, none⟩), .pointer (some ⟨Pl, 0, none⟩)]] w fun e w' => ∃ (r : Bool) (τ : Nat → Bool), e = .returned (.bool r) ∧ CEnv B s xs Pf Ps Pl Pn f w' τ ∧ Srch (eg xs) f (fun x => σ x = true) (fun x => τ x = true) (z.map Int.toNat) r ∧ Keep (fun k => k = Ps) w w' := by
  refine (containsFunc_any 110 _ (fun k => k = Ps) (fun k W => ∃ τ, CEnv B s xs Pf Ps Pl Pn f W τ ∧ Srch (eg xs) f (fun x => σ x = true) (fun x => τ x = true) ((z.take k).map Int.toNat) false) (fun _ W => ∃ τ, CEnv B s xs Pf Ps Pl Pn f W τ ∧ Srch (eg xs) f (fun x => σ x = true) (fun x => τ x = true) (z.map Int.toNat) true) t z B w hz (fun i e => by have := h.le; omega) ⟨σ, h, Srch.nil _ _⟩ enter_c11 ?_).mono ?_
  · rintro k x W hx ⟨τ, hE, hS⟩ hk
    have hm := hb x (List.mem_of_getElem? hx)
    have hle : cnt τ ≤ cnt σ := cnt_mono hS.mono
    refine (step_any hv (fun j hj => ih j (by omega)) hE x hm.1 hm.2).mono ?_
    rintro e W' ⟨r, υ, rfl, hE', hS', hk'⟩
    have ht := take_snoc z k x hx
    refine ⟨r, rfl, fun hr => ?_, fun hr => ?_, hk'⟩
    · subst hr
      refine ⟨υ, hE', ?_⟩
      rw [ht, List.map_append]
      exact hS.app hS'
    · subst hr
      refine ⟨υ, hE', ?_⟩
      have hsp : z.map Int.toNat = ((z.take (k + 1)).map Int.toNat) ++ ((z.drop (k + 1)).map Int.toNat) := by rw [← List.map_append, List.take_append_drop]
      rw [hsp, ht, List.map_append]
      exact (hS.app hS').yesL _
  · rintro e w1 ⟨r, rfl, h1, h2, k1⟩
    cases r
    · obtain ⟨τ, hE, hS⟩ := h1 rfl
      rw [List.take_length] at hS
      exact ⟨false, τ, rfl, hE, hS, k1⟩
    · obtain ⟨_, _, τ, hE, hS⟩ := h2 rfl
      exact ⟨true, τ, rfl, hE, hS, k1⟩

set_option maxHeartbeats 1000000 in
theorem leadsBack_any (hv : Val xs) : ∀ m, LB B s xs Pf Ps Pl Pn f m := by
  intro m
  induction m using Nat.strongRecOn with
  | _ m ih =>
    intro fr σ w hfr hm h
    subst hm
    have hl := hv.1
    obtain ⟨a, n, c⟩ := s
    have hn : n = xs.length := h.rd.1
    obtain ⟨g, off, x, ha, hg, hx, hN, hz1, hz2⟩ := h.rd.at (i := fr) (show fr < n by omega)
    have ha' : a = some ⟨g, off, none⟩ := ha
    subst ha'
    have hxm := List.mem_of_getElem? hx
    have S1 := hide (scan_any hv ih h x.q.ne x.nl hz1 (fun e he => hv.2 x hxm e (List.mem_append.2 (.inl he))))
    have S2 := hide (fun (τ : Nat → Bool) w' (hE : CEnv B (some ⟨g, off, none⟩, n, c) xs Pf Ps Pl Pn f w' τ) (hk : Keep (fun k => k = Ps) w w') (hle : cnt τ ≤ cnt σ) => scan_any hv (fun k hk => ih k (by omega)) hE x.q.af x.al (hz2.keep hk (fun i e => by have := h.le; omega)) (fun e he => hv.2 x hxm e (List.mem_append.2 (.inr he))))
    have HG := hide (eg_at hx)
    have NK := hide (fun w' (hk : Keep (fun k => k = Ps) w w') => hN.keep hk (show ¬ g = Ps from fun e => by have := h.le; omega))
    obtain ⟨n0, n1, n2, n3, n4, n5, n6, n7, n8, n9⟩ := hN.all
    have cn := h.cn
    have hfn : fr < n := by omega
    have hn64 : n ≤ 64 := by omega
    have HN := hide hn
    clear hx hN hz1 hz2 hxm ha hn hl hfr ih h n0 n1 n2 n3 n4 n5 n6 n7
    go_enter Tryz.func109, Tryz.ntmps109
    go_wp2_with fail
    go_at_call 111
    refine S1.out.mono ?_
    rintro e w1 ⟨r, τ, rfl, hE, hS, k1⟩
    cases r
    · have S2' := hide (S2.out τ w1 hE k1 (cnt_mono hS.mono))
      obtain ⟨n0, n1, n2, n3, n4, n5, n6, n7, n8, n9'⟩ := (NK.out w1 k1).all
      have cn' := hE.cn
      have HS := hide hS
      have K1 := hide k1
      clear hE hS k1 n0 n1 n2 n3 n4 n5 n6 n7 S1 S2 NK cn n8 n9
      go_wp2_with fail
      go_at_call 111
      refine S2'.out.mono ?_
      rintro e w2 ⟨r, υ, rfl, hE2, hS2, k2⟩
      have HE2 := hide hE2
      have HS2 := hide hS2
      have K2 := hide (K1.out.more k2)
      clear hE2 hS2 k2
      go_wp2_with fail
      go_ret
      exact ⟨r, υ, rfl, HE2.out, by rw [HG.out]; exact HS.out.app HS2.out, K2.out⟩
    · have HS := hide hS
      have K1 := hide k1
      have HE := hide hE
      clear hE hS k1 S1 S2
      go_wp2_with fail
      go_ret
      exact ⟨true, τ, rfl, HE.out, by rw [HG.out]; exact HS.out.yesL _, K1.out⟩
end Gr
end Go.Proofs.YtbjcckfhfbjchaaGreat
