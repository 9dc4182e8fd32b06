/- The document's reader: blobs and texts. -/
import Derived.Test.YteaokgolnhdloaaPRefN
import Derived.Test.YteaokgolnhdloaaPTextR
import Derived.Deep.RegionHeld3
namespace Go.Proofs.Yteaokgolnhdloaa
open Go.RowKit

theorem pslice_run (a : Option Addr) (n c lo hi : Nat) (h1 : lo ≤ hi) (h2 : hi ≤ c) (w : World) :
    (Instr.slice 22 (.slice a n c) (some (.int .i64 (lo : Int))) (some (.int .i64 (hi : Int))) none).run Try.prog w = .ok (.slice (if c = lo then a else a.map (·.add lo)) (hi - lo) (c - lo)) w := by
  go_simp
/-- a part of a slice, its address by a name -/
theorem pslice_rd {w : World} {a : Option Addr} {n : Nat} {l : List Nat} (h : Rd w a n l) (c lo hi : Nat) (h0 : a = none → c = 0) (hc : n ≤ c) (h1 : lo ≤ hi) (h2 : hi ≤ n) :
    ∃ a', (∀ wx, (Instr.slice 22 (.slice a n c) (some (.int .i64 (lo : Int))) (some (.int .i64 (hi : Int))) none).run Try.prog wx = .ok (.slice a' (hi - lo) (c - lo)) wx) ∧ Rd w a' (hi - lo) ((l.take hi).drop lo) ∧ (a' = none → c - lo = 0) := by
  refine ⟨_, pslice_run a n c lo hi h1 (by omega), (h.front hi h2).tail c lo (by omega) h1, ?_⟩
  intro e
  split at e
  · omega
  · cases a with
    | none => have := h0 rfl; omega
    | some ad => cases e
/-- what TakeBlob answers -/
def tb (most : Int) (l : List Nat) (at_ : Nat) : List Nat × Nat × Nat := match cnt most (l.drop at_) with
  | .error e => ([], at_, e)
  | .ok (n, z) => (((l.drop at_).take (z + n)).drop z, at_ + (z + n), 0)
theorem cut_drop (l : List Nat) (a z n : Nat) : (l.take (a + z + n)).drop (a + z) = ((l.drop a).take (z + n)).drop z := by
  rw [List.take_drop, List.drop_drop, ← Nat.add_assoc]
set_option maxRecDepth 10000 in
set_option maxHeartbeats 1000000 in
theorem TakeBlob_any (a : Option Addr) (n c : Nat) (l : List Nat) (at_ : Nat) (most : Int) (w : World) (h : Rd w a n l) (h0 : a = none → c = 0) (hc : n ≤ c) (ha : at_ ≤ n) (hn : n ≤ 16777216) :
    Calls Try.prog 55 #[.slice a n c, .int .i64 (at_ : Nat), .int .i64 most] w fun en w' => ∃ a' c', en = .returned (.tuple #[.slice a' (tb most l at_).1.length c', .int .i64 ((tb most l at_).2.1 : Nat), .int .i64 ((tb most l at_).2.2 : Nat)]) ∧ Rd w' a' (tb most l at_).1.length (tb most l at_).1 ∧ (∀ b off, a' = some ⟨b, off, none⟩ → w.heap.size ≤ b) ∧ Below w.heap.size w w' := by
  have hl := h.1
  have TN := hide (TakeNumber_any a n c l at_ 0 9223372036854775807 w h ha hn)
  have HB : Hid (tb most l at_ = match cnt most (l.drop at_) with | .error e => ([], at_, e) | .ok (n, z) => (((l.drop at_).take (z + n)).drop z, at_ + (z + n), 0)) := rfl
  have rd0 : ∀ W : World, Rd W none 0 [] := fun W => ⟨rfl, by decide, fun d hd => (by cases hd), .inl rfl⟩
  have HR0 := hide rd0
  clear rd0
  cases hp : K.pk (l.drop at_) with
  | error e =>
    have he := pk_err hp
    have hT : tn 0 9223372036854775807 l at_ = (0, at_, e) := by unfold tn; rw [hp]
    have hb := HB.out
    unfold cnt at hb
    rw [hp] at hb
    simp only at hb
    rw [hb]
    rw [hT] at TN
    have hne : ((e : Int) != 0) = true := by simp; omega
    clear hp hT hb HB h he hl
    go_enter Try.func55, Try.ntmps55
    go_wp2_with (go_at_call 89; refine TN.out.mono ?_; rintro en w1 ⟨rfl, rfl⟩)
    go_ret3
    exact ⟨none, 0, rfl, HR0.out _, (fun b off e => by cases e), Below.refl _ _⟩
  | ok r =>
    obtain ⟨k, z⟩ := r
    obtain ⟨z1, z2, z3, _, k5⟩ := K.pk_ok (fun d hd => h.2.2.1 d (List.mem_of_mem_drop hd)) hp
    rw [List.length_drop] at z3
    have hT : tn 0 9223372036854775807 l at_ = (k, at_ + z, 0) := by unfold tn; rw [hp]; simp only; rw [if_neg (by omega)]
    have hb := HB.out
    unfold cnt at hb
    rw [hp] at hb
    simp only at hb
    rw [hT] at TN
    simp only at TN
    have HH := hide h
    obtain ⟨t, ht⟩ : ∃ t, at_ + z = t := ⟨_, rfl⟩
    rw [ht] at TN
    have htn : t ≤ n := by omega
    clear hp hT HB h
    by_cases c1 : most < (k : Int)
    · rw [if_pos c1] at hb
      simp only at hb
      rw [hb]
      clear hb hl z1 z2 z3 ht k5
      go_enter Try.func55, Try.ntmps55
      go_wp2_with (go_at_call 89; refine TN.out.mono ?_; rintro en w1 ⟨rfl, rfl⟩)
      go_ret3
      exact ⟨none, 0, rfl, HR0.out _, (fun b off e => by cases e), Below.refl _ _⟩
    · rw [if_neg c1] at hb
      by_cases c2 : (l.drop at_).length < z + k
      · rw [if_pos c2] at hb
        simp only at hb
        rw [hb]
        have c2' : (n : Int) - t < k := by rw [List.length_drop] at c2; omega
        clear hb c2 hl z1 z2 z3 ht k5
        go_enter Try.func55, Try.ntmps55
        go_wp2_with (go_at_call 89; refine TN.out.mono ?_; rintro en w1 ⟨rfl, rfl⟩)
        go_ret3
        exact ⟨none, 0, rfl, HR0.out _, (fun b off e => by cases e), Below.refl _ _⟩
      · rw [if_neg c2] at hb
        simp only at hb
        have hkn : t + k ≤ n := by rw [List.length_drop] at c2; omega
        have c2' : ¬ (n : Int) - t < k := by omega
        obtain ⟨u, hu⟩ : ∃ u, t + k = u := ⟨_, rfl⟩
        have hui : (t : Int) + k = u := by omega
        have hbe := (Below.refl w.heap.size w).alloc (Nat.le_refl _) (.cells #[] 5)
        obtain ⟨a', hsl, hr', h0'⟩ := pslice_rd HH.out c t u h0 hc (by omega) (by omega)
        have hx : (l.take u).drop t = ((l.drop at_).take (z + k)).drop z := by rw [← hu, ← ht]; exact cut_drop l at_ z k
        have hlk : (((l.drop at_).take (z + k)).drop z).length = u - t := by rw [← hx]; exact hr'.1.symm
        rw [hb]
        simp only
        rw [hlk, ← Nat.add_assoc, ht, hu]
        rw [hx] at hr'
        generalize ((l.drop at_).take (z + k)).drop z = x at *
        have HRX := hide (hr'.keep hbe)
        have HOE := hide (ownsRow_empty w)
        have HX0 := hide h0'
        have HXL := hide hlk
        have HBY := hide hr'.2.2.1
        clear hb c2 hr' hx hlk hbe h0' hl z1 z2 z3 ht k5 hu
        go_enter Try.func55, Try.ntmps55
        go_wp2_with (first
          | (go_at_call 89; refine TN.out.mono ?_; rintro en w1 ⟨rfl, rfl⟩)
          | (at_builtin; refine wpList_append_rd rfl _ _ rfl _ [] w1.heap.size rfl HOE.out a' (u - t) (c - t) x rfl HRX.out HX0.out (by show 0 + _ ≤ _; omega) (by simp) ?_; intro v' w2 ho2 hg hnb; rw [List.nil_append] at ho2; obtain ⟨a2, c2, hv', hr, h02, hc2, _⟩ := ownsRow_rd ho2 HBY.out (by have := HXL.out; omega); subst hv'; have HO2 := hide ho2; have HG := hide hg; have HR2 := hide hr; clear ho2 hg hnb hr h02 hc2))
        go_ret3
        refine ⟨a2, c2, ?_, ?_, (fun b off e => (HO2.out.lt b (by rw [e]; rfl)).1), below_grown (Below.refl _ _) _ HG.out fun k hk => (HOE.out.lt k hk).1⟩
        · rw [← HXL.out]; rfl
        · rw [← HXL.out]; exact HR2.out
theorem tb_row {w : World} {q : Nat} {s : K.RS} (most : Int) (h : Qr w q s) (hz : s.fault = 0) :
    rowR most s = { s with taken := (tb most s.data s.taken).2.1, fault := (tb most s.data s.taken).2.2 } ∧ ((rowR most s).fault = 0 → (tb most s.data s.taken).1 = rowV most s) ∧ (tb most s.data s.taken).2.1 ≤ s.data.length := by
  have ht := h.tak
  have hl := rest_len s
  unfold rowR rowV tb
  have hrw : s.data.drop s.taken = rest s := rfl
  rw [hrw]
  cases hp : cnt most (rest s) with
  | error e =>
    refine ⟨?_, fun h0 => absurd h0 (fail_ne hz (cnt_err hp)), ht⟩
    show s.fail e = _
    unfold K.RS.fail
    rw [if_pos hz]
  | ok r =>
    obtain ⟨n, z⟩ := r
    obtain ⟨_, _, h3⟩ := cnt_ok hp
    refine ⟨?_, fun _ => rfl, by show s.taken + (z + n) ≤ _; omega⟩
    show s.go (z + n) = _
    unfold K.RS.go
    rw [← hz]
set_option maxRecDepth 10000 in
set_option maxHeartbeats 1000000 in
theorem RBlobR_any (q : Nat) (most : Int) (s : K.RS) (w : World) (h : Qr w q s) :
    Calls Try.prog 13 #[.pointer (some ⟨q, 0, none⟩), .int .i64 most] w fun en w' => ∃ (a : Option Addr) (n c : Nat) (x : List Nat), en = .returned (.slice a n c) ∧ Rd w' a n x ∧ Qr w' q (takeR (rowR most) s) ∧ Keep (fun k => k = q) w w' ∧ ((takeR (rowR most) s).fault = 0 → x = rowV most s) := by
  obtain ⟨a, c, hb, hr, h0, hc, _⟩ := h.ex
  have c0 := cell0 hb
  have c1 := cell1 hb
  have c2 := cell2 hb
  have HH := hide h
  have HR := hide hr
  have htk := h.tak
  have htp := h.top
  have H0 := hide h0
  have HC := hide hc
  clear h hb hr h0 hc
  by_cases hz : s.fault = 0
  · have c2' : w.cell? ⟨q, 2, none⟩ = some (.int .i64 0) := by rw [c2, hz]; rfl
    have TB : Hid (∀ W, Below w.heap.size w W → Calls Try.prog 55 #[.slice a s.data.length c, .int .i64 (s.taken : Nat), .int .i64 most] W fun en w' => ∃ a' c', en = .returned (.tuple #[.slice a' (tb most s.data s.taken).1.length c', .int .i64 ((tb most s.data s.taken).2.1 : Nat), .int .i64 ((tb most s.data s.taken).2.2 : Nat)]) ∧ Rd w' a' (tb most s.data s.taken).1.length (tb most s.data s.taken).1 ∧ (∀ b off, a' = some ⟨b, off, none⟩ → W.heap.size ≤ b) ∧ Below W.heap.size W w') :=
      fun W k => TakeBlob_any a s.data.length c s.data s.taken most W (HR.out.keep k) H0.out HC.out htk htp
    obtain ⟨ts, tv, tl⟩ := tb_row most HH.out hz
    have HTS : Hid (takeR (rowR most) s = { s with taken := (tb most s.data s.taken).2.1, fault := (tb most s.data s.taken).2.2 }) := by show _ = _; unfold takeR; rw [if_pos hz]; exact ts
    have HTV : Hid ((takeR (rowR most) s).fault = 0 → (tb most s.data s.taken).1 = rowV most s) := by show _ → _; unfold takeR; rw [if_pos hz]; exact tv
    have HTL := hide tl
    have HS : Hid (∀ W, Below w.heap.size w W → W.cell? ⟨q, 0, none⟩ = some (.slice a s.data.length c) ∧ W.cell? ⟨q, 1, none⟩ = some (.int .i64 (s.taken : Nat)) ∧ Below w.heap.size w W) := fun W k => ⟨(k.cell (p := ⟨q, 0, none⟩) (World.block_lt_of_cell? _ _ c0)).trans c0, (k.cell (p := ⟨q, 1, none⟩) (World.block_lt_of_cell? _ _ c1)).trans c1, k⟩
    clear hz c2 ts tv tl
    generalize tb most s.data s.taken = t at *
    obtain ⟨t1, t2, t3⟩ := t
    simp only at TB HTS HTV HTL
    generalize hn1 : t1.length = n1 at *
    go_enter Try.func13, Try.ntmps13
    go_wp2_with fail
    go_region_held3 (fun W => W.cell? ⟨q, 0, none⟩ = some (.slice a s.data.length c) ∧ W.cell? ⟨q, 1, none⟩ = some (.int .i64 (s.taken : Nat)) ∧ Below w.heap.size w W) (first | (exact HS.out _ (Below.refl _ _)) | (exact HS.out _ (Below.refl _ _).drew) | (exact HS.out _ HK9.out) | go_keep) (first
      | (go_at_call 55; have hh8 := (‹_ ∧ _ ∧ Below w.heap.size w _›).2.2; refine (TB.out _ hh8).mono ?_; rintro e w9 ⟨a', c', rfl, r9, n9, b9⟩; have HK9 : Hid (Below w.heap.size w w9) := hh8.trans (b9.mono hh8.size); have HR9 := hide r9; have HN9 : Hid (∀ b off, a' = some ⟨b, off, none⟩ → w.heap.size ≤ b) := (fun b off e => Nat.le_trans hh8.size (n9 b off e)); clear hh8 b9 r9 n9))
    have HK := hide HK9.out
    clear HK9 c0 c1 c2' HS TB
    go_wp2_with fail
    refine (went_any q s t2 t3 HTL.out _ (HH.out.below HK.out)).mono ?_
    rintro e w1 ⟨rfl, hq, hk⟩
    have HQ := hide hq
    have HK1 := hide hk
    clear hq hk
    go_wp2
    go_ret
    refine ⟨a', n1, c', t1, rfl, ?_, ?_, (Keep.ofBelow (S := fun k => k = q) HK.out (Nat.le_refl _)).more HK1.out, HTV.out⟩
    · exact HR9.out.stay HK1.out (fun b off e hb => by have h1 := HN9.out b off e; have h2 := HH.out.lt; omega)
    · rw [HTS.out]; exact HQ.out
  · have hzz : (((s.fault : Nat) : Int) == 0) = false := by simpa using hz
    have hzn : (((s.fault : Nat) : Int) != 0) = true := by simpa using hz
    have HZ := hide hz
    clear hz
    go_enter Try.func13, Try.ntmps13
    go_wp2
    go_ret
    refine ⟨none, 0, 0, [], rfl, ⟨rfl, by decide, (fun d hd => by cases hd), .inl rfl⟩, ?_, Keep.refl _ _, ?_⟩
    · unfold takeR; rw [if_neg HZ.out]; exact HH.out
    · unfold takeR; rw [if_neg HZ.out]; exact fun h => absurd h HZ.out
theorem RTextR_any (q : Nat) (most : Int) (s : K.RS) (w : World) (h : Qr w q s) :
    Calls Try.prog 29 #[.pointer (some ⟨q, 0, none⟩), .int .i64 most] w fun en w' => ∃ x : List Nat, en = .returned (.string (str x)) ∧ Qr w' q (takeR (rowR most) s) ∧ Keep (fun k => k = q) w w' ∧ ((takeR (rowR most) s).fault = 0 → x = rowV most s) := by
  have RB := hide (RBlobR_any q most s w h)
  clear h
  go_enter Try.func29, Try.ntmps29
  go_wp2_with fail
  refine RB.out.mono ?_
  rintro e w1 ⟨a, n, c, x, rfl, hr, hq, hk, hx⟩
  have kc := conv_rd hr c
  have HQ := hide hq
  have HK := hide hk
  have HX := hide hx
  clear hr hq hk hx
  generalize hst : str x = st at *
  have HST := hide hst
  clear hst
  go_wp2
  go_ret
  exact ⟨x, by rw [HST.out]; rfl, HQ.out, HK.out, HX.out⟩
end Go.Proofs.Yteaokgolnhdloaa
