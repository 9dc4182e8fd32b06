/- Package pack: Blobs, and their take. -/
import Derived.Test.YteaokgolnhdloaaPBlob
import Derived.Test.YteaokgolnhdloaaPListR
namespace Go.Proofs.Yteaokgolnhdloaa
open Go.RowKit

theorem Blobs_any (most : Int) (w : World) :
    Calls Try.prog 8 #[.int .i64 most] w fun en w' => ∃ m, en = .returned (.agg #[.func (.func 47) #[] #[.pointer (some ⟨m, 0, none⟩)], .func (.func 49) #[] #[.pointer (some ⟨m, 0, none⟩)]]) ∧
      w'.cell? ⟨m, 0, none⟩ = some (.int .i64 most) ∧ w.heap.size ≤ m ∧ Below w.heap.size w w' := by
  have hmf : ∀ (fn : Fn) (first cap : Array Value) (w : World), (Instr.makeFunc fn first cap).run Try.prog w = .ok (.func fn first cap) w := fun _ _ _ _ => rfl
  go_enter Try.func8, Try.ntmps8
  go_wp2_with fail
  refine (MakeB _ _ _ _ _).mono ?_
  rintro e w1 ⟨rfl, hb1⟩
  obtain ⟨b0, b1, hb⟩ := blocks2 hb1
  have f0 := cell_of_row _ _ 0 _ _ _ b1
  have f1 := cell_of_row _ _ 1 _ _ _ b1
  have z0 := frozen_of_row w1 _ 0 _ _ b1
  have z1 := frozen_of_row w1 _ 1 _ _ b1
  have d0 := cell_of_row _ _ 0 _ _ _ b0
  have HB := hide hb
  have D0 := hide d0
  clear hb1 hb b0 b1 d0
  go_wp2
  refine ⟨rfl, .agg #[.func (.func 47) #[] #[.pointer (some ⟨w.heap.size, 0, none⟩)], .func (.func 49) #[] #[.pointer (some ⟨w.heap.size, 0, none⟩)]], by simp [results, Try.results8, go_sem, f0, f1], _, rfl, ?_, Nat.le_refl _, (HB.out.setCell (by show _ ≤ _; simp) _).setCell (by show _ ≤ _; simp) _⟩
  have := D0.out
  rw [World.cell?_setCell_other, World.cell?_setCell_other, this]
  all_goals simp

set_option maxRecDepth 10000 in
theorem takeBlob (q m : Nat) (most : Int) (s : K.RS) (w : World) (h : Rr w q s) (hz : s.fault = 0) (hm : w.cell? ⟨m, 0, none⟩ = some (.int .i64 most)) :
    Takes w q 49 #[.pointer (some ⟨m, 0, none⟩)] (rowR most s) (fun w v => w.ownsRow 0 5 1 v (rowV most s).length (B8 (rowV most s))) := by
  have HH := hide h
  have HZ := hide hz
  unfold Takes
  show Calls Try.prog 49 #[.pointer (some ⟨q, 0, none⟩), .pointer (some ⟨m, 0, none⟩)] w _
  generalize hs' : rowR most s = s'
  generalize hx : rowV most s = x
  have HS := hide hs'
  have HX := hide hx
  clear hs' hx h hz
  cases hc : cnt most (rest s) with
  | error e =>
    have HC := hide hc
    have HS' : Hid (s.fail e = s') := by show _ = _; rw [← HS.out]; unfold rowR; rw [hc]
    clear hc
    go_enter Try.func49, Try.ntmps49
    go_wp2_with fail
    refine (takeRow_err q most s _ HH.out e HC.out).mono ?_
    rintro en w1 ⟨rfl, hb⟩
    exact ⟨rfl, Keep.ofBelow hb (Nat.le_refl _), .inr ⟨by rw [← HS'.out]; exact fail_ne HZ.out (cnt_err HC.out), e, s, rfl, HH.out.below hb, HS'.out⟩⟩
  | ok r =>
    obtain ⟨n, z⟩ := r
    have HC := hide hc
    have HS' : Hid (s.go (z + n) = s') := by show _ = _; rw [← HS.out]; unfold rowR; rw [hc]
    have HX' : Hid (((rest s).take (z + n)).drop z = x) := by show _ = _; rw [← HX.out]; unfold rowV; rw [hc]
    clear hc
    go_enter Try.func49, Try.ntmps49
    go_wp2_with fail
    refine (takeRow_ok q most s _ HH.out n z HC.out).mono ?_
    rintro en w1 ⟨a, c, rfl, hr, h0, hcc, hrr, hk⟩
    have HN : Hid (n ≤ 16777216) := by show _ ≤ _; have h1 := (cnt_ok HC.out).2.2; rw [rest_len] at h1; have := HH.out.top; omega
    rw [HX'.out] at hr
    rw [HS'.out] at hrr
    have HRD := hide hr
    have H0 := hide h0
    have HRR := hide hrr
    have HK := hide hk
    clear hr h0 hrr hk
    go_wp2_with fail
    refine (clone_any a n c x _ HRD.out H0.out (by have := HRD.out.2.1; have := HN.out; omega)).mono ?_
    rintro en w2 ⟨v, rfl, ho, hb⟩
    have HO := hide (ownsRow_base ho (Nat.zero_le _))
    have HB := hide hb
    clear ho hb
    obtain ⟨a2, c2, hv2⟩ := ownsRow_shape HO.out
    subst hv2
    go_wp2
    go_ret
    exact ⟨HK.out.more (Keep.ofBelow HB.out (Nat.le_refl _)), .inl ⟨by rw [← HS'.out]; exact HZ.out, _, rfl, HRR.out.below HB.out, HO.out⟩⟩

theorem ent_takeBlob (args : Array Value) (w : World) : (callFunc 49 args).run Try.prog w = .ok (.enter 49 args) w :=
  callFunc_enter Try.func49 (by kernel_rfl) (by kernel_rfl) args w

theorem takesBlob (D : Nat → Prop) (w : World) (m : Nat) (most : Int) (hm : w.cell? ⟨m, 0, none⟩ = some (.int .i64 most)) (dm : D m) :
    TakesG D w 49 #[.pointer (some ⟨m, 0, none⟩)] (rowR most) (fun s w v => w.ownsRow 0 5 1 v (rowV most s).length (B8 (rowV most s))) :=
  fun q s w1 ha _ h hz => takeBlob q m most s w1 h hz (ha.cell hm dm)

end Go.Proofs.Yteaokgolnhdloaa
