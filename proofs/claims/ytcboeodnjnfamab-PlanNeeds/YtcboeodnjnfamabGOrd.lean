/- Contract of Order. -/
import Derived.Test.YtcboeodnjnfamabGChk
namespace Go.Proofs.Ytcboeodnjnfamab
namespace Gr
open Go.RowKit

theorem nodup_le {α : Type} [DecidableEq α] : ∀ {l m : List α}, l.Nodup → (∀ x ∈ l, x ∈ m) → l.length ≤ m.length := by
  intro l
  induction l with
  | nil => intro m _ _; simp
  | cons a l ih =>
    intro m hn hs
    obtain ⟨h1, h2⟩ := List.nodup_cons.1 hn
    have ha := hs a (List.mem_cons_self ..)
    have := ih (m := m.erase a) h2 fun x hx => (List.mem_erase_of_ne (fun e => h1 (by rw [← e]; exact hx))).2 (hs x (List.mem_cons_of_mem _ hx))
    rw [List.length_erase_of_mem ha] at this
    have : 0 < m.length := List.length_pos_of_mem ha
    simp; omega
theorem full {n : Nat} {l : List Nat} (hn : l.Nodup) (hl : l.length = n) (hb : ∀ x ∈ l, x < n) {i : Nat} (hi : i < n) : i ∈ l := by
  refine Classical.byContradiction fun h => ?_
  have := nodup_le (l := i :: l) (m := List.range n) (List.nodup_cons.2 ⟨h, hn⟩) (fun x hx => by
    rcases List.mem_cons.1 hx with rfl | hx
    · exact List.mem_range.2 hi
    · exact List.mem_range.2 (hb x hx))
  simp at this; omega
theorem missing {n : Nat} {l : List Nat} (hl : l.length < n) : ∃ i, i < n ∧ i ∉ l := by
  refine Classical.byContradiction fun h => ?_
  have := nodup_le (l := List.range n) (m := l) List.nodup_range (fun x hx => Classical.byContradiction fun hc => h ⟨x, List.mem_range.1 hx, hc⟩)
  simp at this; omega
/-- a node that can be told next -/
def Free (E : Nat → List Nat) (l : List Nat) (i : Nat) : Prop := i ∉ l ∧ ∀ e ∈ E i, e ∈ l
open Classical in
noncomputable def deep (E : Nat → List Nat) (n u : Nat) : Nat := ((List.range n).filter fun x => decide (Waits E u x)).length
theorem deep_lt {E : Nat → List Nat} {n u v : Nat} (hv : v ∈ E u) (hn : v < n) (hc : ¬ Waits E v v) : deep E n v < deep E n u := by
  classical
  refine filter_lt _ _ _ (fun x _ hx => ?_) (a := v) (List.mem_range.2 hn) (by simpa using hc) (by simpa using Waits.edge hv)
  simp only [decide_eq_true_eq] at hx ⊢
  exact Waits.step hv hx
theorem free_ex {E : Nat → List Nat} {n : Nat} {l : List Nat} (hE : ∀ a e, e ∈ E a → e < n) (hc : ∀ x, ¬ Waits E x x) (hl : l.length < n) : ∃ i, i < n ∧ Free E l i := by
  obtain ⟨u, h1, h2⟩ := missing hl
  obtain ⟨d, _, ⟨v, h3, h4, h5⟩, h6⟩ := least (P := fun d => ∃ u, u < n ∧ u ∉ l ∧ deep E n u = d) ⟨u, h1, h2, rfl⟩
  refine ⟨v, h3, h4, fun e he => Classical.byContradiction fun hn => ?_⟩
  have := deep_lt he (hE _ _ he) (hc e)
  have := h6 _ ⟨e, hE _ _ he, hn, rfl⟩
  omega
/-- an order as the document has it -/
def Ord (E : Nat → List Nat) (n : Nat) (l : List Nat) : Prop := l.length ≤ n ∧ ∀ k x, l[k]? = some x → x < n ∧ Free E (l.take k) x ∧ ∀ j, j < x → ¬ Free E (l.take k) j
theorem Ord.nil (E : Nat → List Nat) (n : Nat) : Ord E n [] := ⟨Nat.zero_le _, fun k x h => by simp at h⟩
theorem Ord.snoc {E : Nat → List Nat} {n : Nat} {l : List Nat} (h : Ord E n l) (hl : l.length < n) {x : Nat} (hx : x < n) (hf : Free E l x) (hm : ∀ j, j < x → ¬ Free E l j) : Ord E n (l ++ [x]) := by
  refine ⟨by simp; omega, fun k y hy => ?_⟩
  by_cases hk : k < l.length
  · rw [List.getElem?_append_left hk] at hy
    have := h.2 k y hy
    rw [List.take_append_of_le_length (by omega)]
    exact this
  · have hk' : k = l.length := by
      have := (List.getElem?_eq_some_iff.1 hy).1
      simp at this; omega
    subst hk'
    obtain rfl : x = y := by simpa using hy
    rw [List.take_left']
    · exact ⟨hx, hf, hm⟩
    · rfl
theorem Ord.nodup {E : Nat → List Nat} {n : Nat} {l : List Nat} (h : Ord E n l) : l.Nodup := by
  unfold List.Nodup
  rw [List.pairwise_iff_getElem]
  intro i j hi hj hij e
  have hx : l[j]? = some (l[j]'hj) := List.getElem?_eq_getElem hj
  refine (h.2 j _ hx).2.1.1 ?_
  have : (l.take j)[i]? = some (l[j]'hj) := by rw [List.getElem?_take_of_lt hij, List.getElem?_eq_getElem hi, e]
  exact List.mem_of_getElem? this
theorem Ord.lt {E : Nat → List Nat} {n : Nat} {l : List Nat} (h : Ord E n l) : ∀ x ∈ l, x < n := fun x hx => by
  obtain ⟨k, hk⟩ := List.getElem?_of_mem hx
  exact (h.2 k x hk).1
theorem Ord.uniq {E : Nat → List Nat} {n : Nat} : ∀ {l m : List Nat}, Ord E n l → Ord E n m → l.length = m.length → l = m := by
  intro l m h g hl
  have key : ∀ k, l.take k = m.take k := by
    intro k
    induction k with
    | zero => simp
    | succ k ih =>
      rcases Nat.lt_or_ge k l.length with hk | hk
      · have hx : l[k]? = some (l[k]'hk) := List.getElem?_eq_getElem hk
        have hy : m[k]? = some (m[k]'(by omega)) := List.getElem?_eq_getElem _
        obtain ⟨_, a2, a3⟩ := h.2 k _ hx
        obtain ⟨_, b2, b3⟩ := g.2 k _ hy
        rw [ih] at a2 a3
        have : l[k]'hk = m[k]'(by omega) := by
          rcases Nat.lt_trichotomy (l[k]'hk) (m[k]'(by omega)) with c | c | c
          · exact absurd a2 (b3 _ c)
          · exact c
          · exact absurd b2 (a3 _ c)
        rw [take_snoc _ _ _ hx, take_snoc _ _ _ hy, ih, this]
      · rw [List.take_of_length_le (by omega), List.take_of_length_le (by omega)] at ih ⊢
        exact ih
  have := key l.length
  rw [List.take_length, hl, List.take_length] at this
  exact this
theorem eg_lt {xs : List No} (hv : Val xs) : ∀ a e, e ∈ eg xs a → e < xs.length := by
  intro a e he
  unfold eg at he
  split at he
  · rename_i x hx
    obtain ⟨z, hz, rfl⟩ := List.mem_map.1 he
    have := hv.2 x (List.mem_of_getElem? hx) z hz
    omega
  · cases he
theorem cyc_none {xs : List No} (h : cyc xs = 0) : ∀ x, ¬ Waits (eg xs) x x := by
  have hE : ∃ c, IsCyc (eg xs) c := by
    by_cases hc : ∃ x, Waits (eg xs) x x
    · obtain ⟨x, hx⟩ := hc
      obtain ⟨m, h1, h2, h3⟩ := cycle_least hx
      exact ⟨m + 1, .inr ⟨m, rfl, h2.waits, h3⟩⟩
    · exact ⟨0, .inl ⟨rfl, fun x hx => hc ⟨x, hx⟩⟩⟩
  obtain ⟨c, hc⟩ := hE
  have := cyc_eq hc
  rw [h] at this
  subst this
  rcases hc with ⟨_, h⟩ | ⟨m, h, _⟩
  · exact h
  · cases h

/-- those of a list, marked -/
def tk (l : List Nat) : Nat → Bool := fun i => l.contains i
theorem tk_iff {l : List Nat} {i : Nat} : tk l i = true ↔ i ∈ l := by unfold tk; simp
theorem tk_mark (l : List Nat) (k : Nat) : mark (tk l) k = tk (l ++ [k]) := by
  funext i
  unfold mark tk
  split
  · simp_all
  · simp_all

theorem firstFree1_any (P : Nat) (τ : Nat → Bool) (k : Nat) (hk : k < 64) (w : World) (hb : w.heap[P]? = some (.cells (row64 τ) 59 (0, 0))) :
    Calls Try.prog 34 #[.int .i64 (k : Int), .pointer (some ⟨P, 0, none⟩)] w fun e w' => e = .returned (.bool (!τ k)) ∧ w' = w := by
  have c := cell_blk hb k (row64_at τ k hk)
  generalize τ k = b at *
  clear hb
  go_enter Try.func34, Try.ntmps34
  go_wp2_with fail
  go_ret
  exact ⟨rfl, rfl⟩
theorem enter_f1 : ∀ args w, (callFunc 34 args).run Try.prog w = .ok (.enter 34 args) w := by intro args w; simp [go_sem]
/-- is one of a list not told? -/
theorem untold_any (B : Nat) (P : Nat) (τ : Nat → Bool) (t : Option Addr × Nat × Nat) (z : List Int) (w : World) (hz : RdZ B w t z) (hb : ∀ e ∈ z, 0 ≤ e ∧ e < 64) (hP : w.heap[P]? = some (.cells (row64 τ) 59 (0, 0))) :
    Calls Try.prog 23 #[.slice t.1 t.2.1 t.2.2, .func (.func 34) #[] #[.pointer (some ⟨P, 0, none⟩)]] w fun e w' => ∃ r : Bool, e = .returned (.bool r) ∧ (r = false ↔ ∀ e ∈ z, τ e.toNat = true) ∧ Keep (fun _ => False) w w' := by
  refine (containsFunc_any 34 _ (fun _ => False) (fun k _ => ∀ j x, j < k → z[j]? = some x → τ x.toNat = true) (fun k _ => ∃ x, z[k]? = some x ∧ τ x.toNat = false) t z B w hz (fun i e => e.elim) (fun j x h => by omega) enter_f1 ?_).mono ?_
  · intro k x W hx hJ hk
    have hm := hb x (List.mem_of_getElem? hx)
    obtain ⟨m, rfl⟩ : ∃ m : Nat, x = m := ⟨x.toNat, by omega⟩
    refine (firstFree1_any P τ m (by omega) W (hk.blk hP fun f => f)).mono ?_
    rintro e W' ⟨rfl, rfl⟩
    refine ⟨_, rfl, fun hr j y hj hy => ?_, fun hr => ⟨m, hx, by simpa using hr⟩, Keep.refl _ _⟩
    by_cases e : j = k
    · subst e; rw [hx] at hy; injection hy with hy; subst hy; simpa using hr
    · exact hJ j y (by omega) hy
  · rintro e w1 ⟨r, rfl, h1, h2, k1⟩
    refine ⟨r, rfl, ⟨fun hr e he => ?_, fun h => ?_⟩, k1⟩
    · obtain ⟨j, hj⟩ := List.getElem?_of_mem he
      exact h1 hr j e (List.getElem?_eq_some_iff.1 hj).1 hj
    · cases r
      · rfl
      · obtain ⟨k, _, x, hx, hf⟩ := h2 rfl
        rw [h x (List.mem_of_getElem? hx)] at hf; cases hf

set_option maxHeartbeats 4000000 in
theorem firstFree_any (s : Option Addr × Nat × Nat) (xs : List No) (B : Nat) (w : World) (hP : RdP B w s xs) (hv : Val xs) (l : List Nat) (f : Nat) (hf : f < xs.length) (hfr : Free (eg xs) l f) (hm : ∀ j, j < f → ¬ Free (eg xs) l j) :
    Calls Try.prog 26 #[.slice s.1 s.2.1 s.2.2, .agg (row64 (tk l))] w fun e w' => e = .returned (.int .i64 (f : Int)) ∧ Keep (fun _ => False) w w' := by
  obtain ⟨a, n, c⟩ := s
  have HP := hide hP
  have HN : Hid (n = xs.length) := hP.1
  have hn64 : n ≤ 64 := by have := hP.1; have := hv.1; simp at *; omega
  clear hP
  go_enter Try.func26, Try.ntmps26
  go_wp2_with fail
  have KW := hide (Keep.alloc (fun _ => False) w (.cells (row64 (tk l)) 59))
  have BW := hide (heap_alloc_new w (.cells (row64 (tk l)) 59))
  generalize w.alloc (.cells (row64 (tk l)) 59) = w0 at *
  generalize w.heap.size = P at *
  have HFR := hide hfr
  have HM := hide hm
  clear hfr hm
  go_loopw [6] (fun iv wr => ∃ (i : Nat), iv = .int .i64 (i : Nat) ∧ i ≤ f ∧ Hid (Keep (fun _ => False) w0 wr)) (fun iv _ => f - (intOf iv).toNat)
  case atStart => exact ⟨0, rfl, Nat.zero_le _, Keep.refl _ _⟩
  case round =>
    obtain ⟨i, rfl, hi, HD⟩ := hrel
    have hin : i < n := by have := HN.out; omega
    obtain ⟨g, off, x, rfl, hg, hx, hN, hz1, hz2⟩ := ((HP.out.new KW.out).new HD.out).at hin
    have hbl := HD.out.blk BW.out fun f => f
    have hxm := List.mem_of_getElem? hx
    have U1 := hide (untold_any B P (tk l) _ _ wr hz1 (fun e he => by have := hv.2 x hxm e (List.mem_append.2 (.inl he)); have := hv.1; omega) hbl)
    have U2 := hide (fun w2 (k : Keep (fun _ => False) wr w2) => untold_any B P (tk l) _ _ w2 (hz2.new k) (fun e he => by have := hv.2 x hxm e (List.mem_append.2 (.inr he)); have := hv.1; omega) (k.blk hbl fun f => f))
    have HG := hide (eg_at hx)
    have c0 := cell_blk hbl i (row64_at (tk l) i (by omega))
    have NK := hide (fun w2 (k : Keep (fun _ => False) wr w2) => hN.keep k (fun f => f))
    obtain ⟨n0, n1, n2, n3, n4, n5, n6, n7, n8, n9⟩ := hN.all
    have HT := hide (tk_iff (l := l) (i := i))
    clear hx hN hz1 hz2 hxm hbl n0 n1 n2 n3 n4 n5 n6 n7
    generalize tk l i = b at *
    cases b
    · have hil : i ∉ l := fun h => Bool.false_ne_true (HT.out.2 h)
      have HIL := hide hil
      clear hil
      go_wp2_with fail
      go_at_call 23
      refine U1.out.mono ?_
      rintro e w1 ⟨r, rfl, hr1, k1⟩
      have HR1 := hide hr1
      have K1 := hide (HD.out.more k1)
      have U2' := hide (U2.out w1 k1)
      obtain ⟨n0, n1, n2, n3, n4, n5, n6, n7, n8', n9'⟩ := (NK.out w1 k1).all
      clear hr1 k1 U1 U2 NK n0 n1 n2 n3 n4 n5 n6 n7 n8 n9 c0
      cases r
      · go_wp2_with fail
        go_at_call 23
        refine U2'.out.mono ?_
        rintro e w2 ⟨r, rfl, hr2, k2⟩
        have HR2 := hide hr2
        have K2 := hide (K1.out.more k2)
        clear hr2 k2 U2'
        cases r
        · obtain rfl : i = f := by
            have hfree : Free (eg xs) l i := ⟨HIL.out, fun e he => by
              rw [HG.out] at he
              rcases List.mem_append.1 he with he | he
              · obtain ⟨z, hz, rfl⟩ := List.mem_map.1 he
                exact tk_iff.1 (HR1.out.1 (by trivial) z hz)
              · obtain ⟨z, hz, rfl⟩ := List.mem_map.1 he
                exact tk_iff.1 (HR2.out.1 (by trivial) z hz)⟩
            rcases Nat.lt_or_ge i f with h | h
            · exact absurd hfree (HM.out i h)
            · omega
          go_wp2_with fail
          go_ret
          exact ⟨rfl, KW.out.more K2.out⟩
        · have hif : i ≠ f := fun e => by
            subst e
            refine Bool.noConfusion (HR2.out.2 fun z hz => tk_iff.2 (HFR.out.2 _ ?_))
            rw [HG.out]
            exact List.mem_append.2 (.inr (List.mem_map.2 ⟨z, hz, rfl⟩))
          go_wp2_with fail
          go_roundw
          · exact ⟨i + 1, rfl, by omega, K2.out⟩
          · show f - ((i : Int) + 1).toNat < f - (i : Int).toNat
            omega
      · have hif : i ≠ f := fun e => by
          subst e
          refine Bool.noConfusion (HR1.out.2 fun z hz => tk_iff.2 (HFR.out.2 _ ?_))
          rw [HG.out]
          exact List.mem_append.2 (.inl (List.mem_map.2 ⟨z, hz, rfl⟩))
        go_wp2_with fail
        go_roundw
        · exact ⟨i + 1, rfl, by omega, K1.out⟩
        · show f - ((i : Int) + 1).toNat < f - (i : Int).toNat
          omega
    · have hif : i ≠ f := fun e => HFR.out.1 (by rw [← e]; exact HT.out.1 rfl)
      go_wp2_with fail
      go_roundw
      · exact ⟨i + 1, rfl, by omega, HD.out⟩
      · show f - ((i : Int) + 1).toNat < f - (i : Int).toNat
        omega

end Gr
end Go.Proofs.Ytcboeodnjnfamab
