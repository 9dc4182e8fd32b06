/- Package queue, things of two parts: the halving search, Ahead (out of ref_gen.py). -/
import Derived.Test.YtobmnkoohgkiiaaQR1
import Derived.BigQuiet
namespace Go.Proofs.Ytobmnkoohgkiiaa
namespace Qu
open Go.RowKit Go.Maps

set_option maxRecDepth 100000 in
set_option maxHeartbeats 4000000 in
theorem searchF {r : List (Nat × _)} {i n : Nat} {k : _} (w : World) (g off cap : Nat) (hra : w.rangeAt g off (flat KF r)) (hi : r[i]? = some (n, k)) (hlt : ∀ j e, j < i → r[j]? = some e → e.1 < n) (hge : ∀ j e, i ≤ j → r[j]? = some e → n ≤ e.1) (hl : r.length ≤ 65536) :
    Calls Try.prog 53 #[.slice (some ⟨g, off, none⟩) r.length cap, .int .i64 n, .func (.func 54) #[] #[]] w fun e w' => e = .returned (.tuple #[.int .i64 i, .bool true]) ∧ Keep (fun _ => False) w w' := by
  have hil : i < r.length := (List.getElem?_eq_some_iff.1 hi).1
  have HR := hide hra
  have HLt := hide hlt
  have HGe := hide hge
  have HI := hide hi
  have hcell : Hid (∀ (wr : World), Keep (fun _ => False) w wr → ∀ j, j < r.length → ∃ nj kj, r[j]? = some (nj, kj) ∧ wr.cell? ⟨g, off + j * 3, none⟩ = some (.int .i64 (nj : Nat)) ∧ wr.cell? ⟨g, off + j * 3 + 1, none⟩ = some (.int .i64 kj.1.1) ∧ wr.cell? ⟨g, off + j * 3 + 2, none⟩ = some (.int .i64 kj.1.2)) := fun wr hk j hj => by
    have e : r[j]? = some (r[j].1, r[j].2) := by simp [List.getElem?_eq_getElem hj]
    refine ⟨_, _, e, ?_, ?_, ?_⟩
    · have := RowAt.at_ okF (rangeAt_keep hra hk fun f => f) e (j := 0) (by decide) (u := nv r[j].1) rfl
      exact this
    · have := RowAt.at_ okF (rangeAt_keep hra hk fun f => f) e (j := 1) (by decide) (u := .int .i64 r[j].2.1.1) rfl
      exact this
    · have := RowAt.at_ okF (rangeAt_keep hra hk fun f => f) e (j := 2) (by decide) (u := .int .i64 r[j].2.1.2) rfl
      exact this
  clear hra hlt hge hi
  go_enter Try.func53, Try.ntmps53
  go_wp2
  go_loopg [9, 10] r.length (fun kx s9 s10 wr => ∃ lo hi : Nat, s9 = .int .i64 (lo : Nat) ∧ s10 = .int .i64 (hi : Nat) ∧ lo ≤ i ∧ i ≤ hi ∧ hi ≤ r.length ∧ hi - lo ≤ kx ∧ Hid (Keep (fun _ => False) w wr))
  case atStart => exact ⟨0, r.length, rfl, rfl, Nat.zero_le _, by omega, Nat.le_refl _, by omega, Keep.refl _ _⟩
  case round =>
    obtain ⟨lo, hi, rfl, rfl, h1, h2, h3, hg, HK⟩ := hrel
    by_cases hlh : lo < hi
    · obtain ⟨nj, kj, e0, e1, e2, e3⟩ := hcell.out wr HK.out ((lo + hi) / 2) (by omega)
      have E0 := hide e0
      clear e0
      by_cases hc : nj < n
      · have HC : Hid (cmpN nj n < 0) := cmpN_lt.2 (by omega)
        have hcc := HC.out
        go_wp2_with (go_at_call 54; refine (ahead1F _ _ _ _ _).mono ?_; rintro e w2 ⟨rfl, k2⟩; have K2 := hide k2; clear k2)
        go_roundg (hi - ((lo + hi) / 2 + 1))
        case measure => omega
        case rel =>
          refine ⟨(lo + hi) / 2 + 1, hi, by rw [show ((lo : Int) + (hi : Int)) / 2 + 1 = (((lo + hi) / 2 + 1 : Nat) : Int) by omega], rfl, ?_, h2, h3, Nat.le_refl _, HK.out.more K2.out⟩
          rcases Nat.lt_or_ge ((lo + hi) / 2) i with h | h
          · omega
          · have := HGe.out _ _ h E0.out; simp at this; omega
      · have HC : Hid (¬ cmpN nj n < 0) := fun h => hc (by have := cmpN_lt.1 h; omega)
        have hcc := HC.out
        go_wp2_with (go_at_call 54; refine (ahead1F _ _ _ _ _).mono ?_; rintro e w2 ⟨rfl, k2⟩; have K2 := hide k2; clear k2)
        go_roundg ((lo + hi) / 2 - lo)
        case measure => omega
        case rel =>
          refine ⟨lo, (lo + hi) / 2, rfl, by rw [show ((lo : Int) + (hi : Int)) / 2 = (((lo + hi) / 2 : Nat) : Int) by omega], h1, ?_, by omega, Nat.le_refl _, HK.out.more K2.out⟩
          rcases Nat.lt_or_ge ((lo + hi) / 2) i with h | h
          · have := HLt.out _ _ h E0.out; simp at this; omega
          · exact h
    · obtain rfl : lo = i := by omega
      obtain ⟨nj, kj, e0, e1, e2, e3⟩ := hcell.out wr HK.out lo (by omega)
      have hn : nj = n := by have := HI.out; rw [e0] at this; simp at this; exact this.1
      subst hn
      clear e0
      have hcc : cmpN nj nj = 0 := cmpN_eq.2 rfl
      go_wp2_with (go_at_call 54; refine (ahead1F _ _ _ _ _).mono ?_; rintro e w2 ⟨rfl, k2⟩; have K2 := hide k2; clear k2)
      go_ret2
      exact ⟨rfl, HK.out.more K2.out⟩

set_option maxRecDepth 100000 in
set_option maxHeartbeats 4000000 in
theorem aheadF {S : Nat → Prop} {P : Nat} {s : St _} (k : Rk) (w : World) (h : QAt KF S w P s) :
    Calls Try.prog 38 #[.pointer (some ⟨P, 0, none⟩), KF.enc k] w fun e w' => e = .returned (.tuple #[.int .i64 ((aheadR s.row k).1 : Nat), .int .i64 ((aheadR s.row k).2 : Nat)]) ∧ Keep (fun _ => False) w w' := by
  obtain ⟨w1, hw1⟩ : ∃ w1, w1 = w.alloc (.cells #[.int .i64 k.1.1, .int .i64 k.1.2] 36) := ⟨_, rfl⟩
  have k1 : Keep (fun _ => False) w w1 := by rw [hw1]; exact Keep.alloc _ _ _
  have b1 : w1.heap[w.heap.size]? = some (.cells #[.int .i64 k.1.1, .int .i64 k.1.2] 36 (0, 0)) := by rw [hw1]; exact heap_alloc_new _ _
  have x0 := cell_blk b1 0 (v := .int .i64 k.1.1) rfl
  have x1 := cell_blk b1 1 (v := .int .i64 k.1.2) rfl
  obtain ⟨hok, hks, m, v, h⟩ := h.new k1
  have K1 := hide k1
  have c2 := h.c2
  have c3 := h.c3
  rcases h.look okF (k := k) trivial with ⟨hn, hl⟩ | ⟨n, hn, hl⟩
  · have ha : aheadR s.row k = (0, 83) := by simp [aheadR, idx_num.2 hn]
    rw [ha]
    unfold KF at hl ⊢
    clear h hok hks ha hn k1 b1
    go_enter Try.func38, Try.ntmps38
    go_upto_region 1 with fail
    rw [← hw1]
    clear hw1
    go_quiet (fail)
    have KD : Keep (fun _ => False) w (w1.drewN nq) := K1.out.more ⟨rfl, rfl, rfl, Nat.le_refl _, fun _ _ _ => rfl⟩
    have HKD := hide KD
    clear KD
    go_wp2
    go_ret2
    exact ⟨rfl, HKD.out⟩
  · obtain ⟨i, hi, hg⟩ := num_idx hn
    have hil : i < s.row.length := (List.getElem?_eq_some_iff.1 hg).1
    have ha : aheadR s.row k = (i, 0) := by simp [aheadR, hi]
    rw [ha]
    obtain ⟨g, off, cap, rfl, _, _, hc, _, hra, _⟩ := h.row.full (by omega)
    have SE := hide (fun j => searchF (w1.drewN j) g off cap hra hg (fun j e hj he => hok.lt hj he hg) (fun j e hj he => by
      rcases Nat.eq_or_lt_of_le hj with rfl | hj
      · rw [hg] at he; injection he with he; subst he; exact Nat.le_refl _
      · exact Nat.le_of_lt (hok.lt hj hg he)) (Nat.le_trans hok.len hok.pl))
    have d3 := fun j => (show (w1.drewN j).cell? ⟨P, 3, none⟩ = some (.slice (some ⟨g, off, none⟩) s.row.length cap) from c3)
    unfold KF at hl ⊢
    clear h hok hks ha hn hra hg hi k1 b1
    go_enter Try.func38, Try.ntmps38
    go_upto_region 1 with fail
    rw [← hw1]
    clear hw1
    go_quiet (fail)
    have KD : Keep (fun _ => False) w (w1.drewN nq) := K1.out.more ⟨rfl, rfl, rfl, Nat.le_refl _, fun _ _ _ => rfl⟩
    have HKD := hide KD
    have e3 := d3 nq
    clear KD d3
    go_wp2_with (go_at_call 53; refine (SE.out nq).mono ?_; rintro e w2 ⟨rfl, k2⟩; have K2 := hide k2; clear k2)
    go_ret2
    exact ⟨rfl, HKD.out.more K2.out⟩
end Qu
end Go.Proofs.Ytobmnkoohgkiiaa
