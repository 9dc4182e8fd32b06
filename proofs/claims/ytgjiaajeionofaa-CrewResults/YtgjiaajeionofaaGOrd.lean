/- Contract of Order. -/
import Derived.Test.YtgjiaajeionofaaGOrM
namespace Go.Proofs.Ytgjiaajeionofaa
namespace Gr
open Go.RowKit
theorem firstFree1_any (P : Nat) (τ : Nat → Bool) (k : Nat) (hk : k < 64) (w : World) (hb : w.heap[P]? = some (.cells (row64 τ) 48 (0, 0))) :
    Calls Try.prog 28 #[.int .i64 (k : Int), .pointer (some ⟨P, 0, none⟩)] w fun e w' => e = .returned (.bool (!τ k)) ∧ w' = w := by
  have c := cell_blk hb k (row64_at τ k hk)
  generalize τ k = b at *
  clear hb
  go_enter Try.func28, Try.ntmps28
  go_wp2_with fail
  go_ret
  exact ⟨rfl, rfl⟩
theorem enter_f1 : ∀ args w, (callFunc 28 args).run Try.prog w = .ok (.enter 28 args) w := by intro args w; simp [go_sem]
/-- is one of a list not told? -/
theorem untold_any (B : Nat) (P : Nat) (τ : Nat → Bool) (t : Option Addr × Nat × Nat) (z : List Int) (w : World) (hz : RdZ B w t z) (hb : ∀ e ∈ z, 0 ≤ e ∧ e < 64) (hP : w.heap[P]? = some (.cells (row64 τ) 48 (0, 0))) :
    Calls Try.prog 29 #[.slice t.1 t.2.1 t.2.2, .func (.func 28) #[] #[.pointer (some ⟨P, 0, none⟩)]] w fun e w' => ∃ r : Bool, e = .returned (.bool r) ∧ (r = false ↔ ∀ e ∈ z, τ e.toNat = true) ∧ Keep (fun _ => False) w w' := by
  refine (containsFunc_any 28 _ (fun _ => False) (fun k _ => ∀ j x, j < k → z[j]? = some x → τ x.toNat = true) (fun k _ => ∃ x, z[k]? = some x ∧ τ x.toNat = false) t z B w hz (fun i e => e.elim) (fun j x h => by omega) enter_f1 ?_).mono ?_
  · intro k x W hx hJ hk
    have hm := hb x (List.mem_of_getElem? hx)
    obtain ⟨m, rfl⟩ : ∃ m : Nat, x = m := ⟨x.toNat, by omega⟩
    refine (firstFree1_any P τ m (by omega) W (hk.blk hP fun f => f)).mono ?_
    rintro e W' ⟨rfl, rfl⟩
    refine ⟨_, rfl, fun hr j y hj hy => ?_, fun hr => ⟨m, hx, by simpa using hr⟩, Keep.refl _ _⟩
    by_cases e : j = k
    · subst e; rw [hx] at hy; injection hy with hy; subst hy; simpa using hr
    · exact hJ j y (by omega) hy
  · rintro e w1 ⟨r, rfl, h1, h2, k1⟩
    refine ⟨r, rfl, ⟨fun hr e he => ?_, fun h => ?_⟩, k1⟩
    · obtain ⟨j, hj⟩ := List.getElem?_of_mem he
      exact h1 hr j e (List.getElem?_eq_some_iff.1 hj).1 hj
    · cases r
      · rfl
      · obtain ⟨k, _, x, hx, hf⟩ := h2 rfl
        rw [h x (List.mem_of_getElem? hx)] at hf; cases hf

set_option maxHeartbeats 4000000 in
theorem firstFree_any (s : Option Addr × Nat × Nat) (xs : List No) (B : Nat) (w : World) (hP : RdP B w s xs) (hv : Val xs) (l : List Nat) (f : Nat) (hf : f < xs.length) (hfr : Free (eg xs) l f) (hm : ∀ j, j < f → ¬ Free (eg xs) l j) :
    Calls Try.prog 19 #[.slice s.1 s.2.1 s.2.2, .agg (row64 (tk l))] w fun e w' => e = .returned (.int .i64 (f : Int)) ∧ Keep (fun _ => False) w w' := by
  obtain ⟨a, n, c⟩ := s
  have HP := hide hP
  have HN : Hid (n = xs.length) := hP.1
  have hn64 : n ≤ 64 := by have := hP.1; have := hv.1; simp at *; omega
  clear hP
  go_enter Try.func19, Try.ntmps19
  go_wp2_with fail
  have KW := hide (Keep.alloc (fun _ => False) w (.cells (row64 (tk l)) 48))
  have BW := hide (heap_alloc_new w (.cells (row64 (tk l)) 48))
  generalize w.alloc (.cells (row64 (tk l)) 48) = w0 at *
  generalize w.heap.size = P at *
  have HFR := hide hfr
  have HM := hide hm
  clear hfr hm
  go_loopw [6] (fun iv wr => ∃ (i : Nat), iv = .int .i64 (i : Nat) ∧ i ≤ f ∧ Hid (Keep (fun _ => False) w0 wr)) (fun iv _ => f - (intOf iv).toNat)
  case atStart => exact ⟨0, rfl, Nat.zero_le _, Keep.refl _ _⟩
  case round =>
    obtain ⟨i, rfl, hi, HD⟩ := hrel
    have hin : i < n := by have := HN.out; omega
    obtain ⟨g, off, x, rfl, hg, hx, hN, hz1, hz2⟩ := ((HP.out.new KW.out).new HD.out).at hin
    have hbl := HD.out.blk BW.out fun f => f
    have hxm := List.mem_of_getElem? hx
    have U1 := hide (untold_any B P (tk l) _ _ wr hz1 (fun e he => by have := hv.2 x hxm e (List.mem_append.2 (.inl he)); have := hv.1; omega) hbl)
    have U2 := hide (fun w2 (k : Keep (fun _ => False) wr w2) => untold_any B P (tk l) _ _ w2 (hz2.new k) (fun e he => by have := hv.2 x hxm e (List.mem_append.2 (.inr he)); have := hv.1; omega) (k.blk hbl fun f => f))
    have HG := hide (eg_at hx)
    have c0 := cell_blk hbl i (row64_at (tk l) i (by omega))
    have NK := hide (fun w2 (k : Keep (fun _ => False) wr w2) => hN.keep k (fun f => f))
    obtain ⟨n0, n1, n2, n3, n4, n5, n6, n7, n8, n9⟩ := hN.all
    have HT := hide (tk_iff (l := l) (i := i))
    clear hx hN hz1 hz2 hxm hbl n0 n1 n2 n3 n4 n5 n6 n7
    generalize tk l i = b at *
    cases b
    · have hil : i ∉ l := fun h => Bool.false_ne_true (HT.out.2 h)
      have HIL := hide hil
      clear hil
      go_wp2_with fail
      go_at_call 29
      refine U1.out.mono ?_
      rintro e w1 ⟨r, rfl, hr1, k1⟩
      have HR1 := hide hr1
      have K1 := hide (HD.out.more k1)
      have U2' := hide (U2.out w1 k1)
      obtain ⟨n0, n1, n2, n3, n4, n5, n6, n7, n8', n9'⟩ := (NK.out w1 k1).all
      clear hr1 k1 U1 U2 NK n0 n1 n2 n3 n4 n5 n6 n7 n8 n9 c0
      cases r
      · go_wp2_with fail
        go_at_call 29
        refine U2'.out.mono ?_
        rintro e w2 ⟨r, rfl, hr2, k2⟩
        have HR2 := hide hr2
        have K2 := hide (K1.out.more k2)
        clear hr2 k2 U2'
        cases r
        · obtain rfl : i = f := by
            have hfree : Free (eg xs) l i := ⟨HIL.out, fun e he => by
              rw [HG.out] at he
              rcases List.mem_append.1 he with he | he
              · obtain ⟨z, hz, rfl⟩ := List.mem_map.1 he
                exact tk_iff.1 (HR1.out.1 (by trivial) z hz)
              · obtain ⟨z, hz, rfl⟩ := List.mem_map.1 he
                exact tk_iff.1 (HR2.out.1 (by trivial) z hz)⟩
            rcases Nat.lt_or_ge i f with h | h
            · exact absurd hfree (HM.out i h)
            · omega
          go_wp2_with fail
          go_ret
          exact ⟨rfl, KW.out.more K2.out⟩
        · have hif : i ≠ f := fun e => by
            subst e
            refine Bool.noConfusion (HR2.out.2 fun z hz => tk_iff.2 (HFR.out.2 _ ?_))
            rw [HG.out]
            exact List.mem_append.2 (.inr (List.mem_map.2 ⟨z, hz, rfl⟩))
          go_wp2_with fail
          go_roundw
          · exact ⟨i + 1, rfl, by omega, K2.out⟩
          · show f - ((i : Int) + 1).toNat < f - (i : Int).toNat
            omega
      · have hif : i ≠ f := fun e => by
          subst e
          refine Bool.noConfusion (HR1.out.2 fun z hz => tk_iff.2 (HFR.out.2 _ ?_))
          rw [HG.out]
          exact List.mem_append.2 (.inl (List.mem_map.2 ⟨z, hz, rfl⟩))
        go_wp2_with fail
        go_roundw
        · exact ⟨i + 1, rfl, by omega, K1.out⟩
        · show f - ((i : Int) + 1).toNat < f - (i : Int).toNat
          omega
    · have hif : i ≠ f := fun e => HFR.out.1 (by rw [← e]; exact HT.out.1 rfl)
      go_wp2_with fail
      go_roundw
      · exact ⟨i + 1, rfl, by omega, HD.out⟩
      · show f - ((i : Int) + 1).toNat < f - (i : Int).toNat
        omega

end Gr
end Go.Proofs.Ytgjiaajeionofaa
