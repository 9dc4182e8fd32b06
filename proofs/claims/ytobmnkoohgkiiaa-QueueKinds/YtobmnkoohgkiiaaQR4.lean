/- Package queue, things of two parts: take (out of ref_gen.py). -/
import Derived.Test.YtobmnkoohgkiiaaQR3
import Derived.Test.YtobmnkoohgkiiaaQTak
namespace Go.Proofs.Ytobmnkoohgkiiaa
namespace Qu
open Go.RowKit

set_option maxRecDepth 100000 in
set_option maxHeartbeats 4000000 in
theorem takeF {S : Nat → Prop} {P i n : Nat} {k : _} {s : St _} (w : World) (h : QAt KF S w P s) (hi : s.row[i]? = some (n, k)) :
    Calls Try.prog 52 #[.pointer (some ⟨P, 0, none⟩), .int .i64 i] w fun e w' => e = .returned (.tuple #[]) ∧ QAt KF S w' P (s.take i) ∧ Keep S w w' := by
  obtain ⟨hok, hks, m, v, h⟩ := h
  have hil : i < s.row.length := (List.getElem?_eq_some_iff.1 hi).1
  have hlen := Nat.le_trans hok.len hok.pl
  obtain ⟨g, off, cap, rfl, hSg, hcs, hc, hcm, hra, hth⟩ := h.row.full (by omega)
  have c2 := h.c2
  have c3 := h.c3
  have hx : w.cell? ⟨g, off + i * 3 + 1, none⟩ = some (.int .i64 k.1.1) := RowAt.at_ okF hra hi (j := 1) (by decide) rfl
  have hz : w.cell? ⟨g, off + i * 3 + 2, none⟩ = some (.int .i64 k.1.2) := RowAt.at_ okF hra hi (j := 2) (by decide) rfl
  obtain ⟨w1, hdel, m1, k1, s1⟩ := (h.mp.of_blk (w' := w.drew) rfl).drop okF okF.um (k := k) (hks _ (List.mem_of_getElem? hi)) 0
  have k1' : Keep (fun j => j = m) w w1 := (Keep.drew _ w).more k1
  have hgm : g ≠ m := fun e => h.em (by rw [← e]; rfl)
  have hgP : g ≠ P := fun e => h.eP okF (by rw [← e]; rfl)
  have hra1 := rangeAt_keep hra k1' (fun e => hgm e)
  have hth1 := there_keep hth k1' (fun e => hgm e) (by obtain ⟨cs, hcs⟩ := hcs; exact lt_blk hcs)
  have hcs1 : ∃ cs, w1.heap[g]? = some (.cells cs KF.te (0, 0)) := by obtain ⟨cs, hcs⟩ := hcs; exact ⟨cs, k1'.blk hcs (fun e => hgm e)⟩
  have d3 := k1'.cell c3 (fun e => h.ePm e)
  have df : w1.frozen? ⟨P, 3, none⟩ = false := frozen_blk (k1'.blk h.blk (fun e => h.ePm e)) 3
  have H := hide h
  have HO := hide hok
  have HKs := hide hks
  have HI := hide hi
  have K1 := hide k1'
  have M1 := hide m1
  have hcm' : cap ≤ 9223372036854775807 := hcm
  have DL := hide (delF i w1 g off cap hra1 hth1 hil hc hcm' hlen hcs1)
  by_cases hh : s.row.length / 2 ≤ i
  · have hq : ((s.row.length : Int) / 2 ≤ (i : Int)) := by omega
    have HRn := hide hlen
    have HC := hide hc
    have HCm := hide hcm
    have HSg := hide hSg
    unfold KF at hdel
    generalize hnn : s.row.length = nn at *
    have HN := hide hnn
    clear h hok hks hi hra hth hcs hra1 hth1 hcs1 m1 k1 k1' s1 hcm hnn hlen hSg
    go_enter Try.func52, Try.ntmps52
    go_wp2_with fail
    go_region
    go_wp2_with (go_at_call 60
                 refine DL.out.mono ?_
                 rintro e w2 ⟨rfl, r2, t2, b2, k2⟩
                 have e3 := k2.cell d3 (fun e => hgP e.symm)
                 have ef : w2.frozen? ⟨P, 3, none⟩ = false := frozen_blk (k2.blk (K1.out.blk H.out.blk (fun e => H.out.ePm e)) (fun e => hgP e.symm)) 3
                 have R2 := hide r2
                 have T2 := hide t2
                 have B2 := hide b2
                 have K2 := hide k2
                 clear r2 t2 b2 k2)
    go_returns
    have fin := H.out.taken okF HO.out HI.out (W := w2) (v' := .slice (some ⟨g, off, none⟩) (nn - 1) cap) (M1.out.keep K2.out (fun e => hgm e.symm)) (.inr ⟨g, off, cap, by rw [List.length_eraseIdx_of_lt (by rw [HN.out]; exact hil), HN.out], HSg.out, B2.out, by rw [List.length_eraseIdx_of_lt (by rw [HN.out]; exact hil), HN.out]; omega, HCm.out, R2.out, T2.out⟩) rfl ((K1.out.mono fun j e => .inl e).more (K2.out.mono fun j e => .inr (by rw [e]; rfl)))
    exact ⟨rfl, ⟨HO.out.take i, fun e he => HKs.out e ((List.eraseIdx_sublist _ _).subset he), m, _, fin.1⟩, fin.2⟩
  · have hq : ¬ ((s.row.length : Int) / 2 ≤ (i : Int)) := by omega
    have hn2 : i + 1 < s.row.length := by omega
    have hln : (flat KF (s.row.take i)).length = i * 3 := by rw [flat_length okF.cln, List.length_take, Nat.min_eq_left (by omega)]; rfl
    obtain ⟨W2, hW2⟩ : ∃ W2, W2 = w1.drew.setCells g (off + 3) (flat KF (s.row.take i)) := ⟨_, rfl⟩
    have hcp : ∀ ty, (Builtin.copy_ #[72, 72] ty #[.slice (some ⟨g, off + 3, none⟩) (s.row.length - 1) (cap - 1), .slice (some ⟨g, off, none⟩) i cap]).run Try.prog w1.drew = .ok (.int .i64 (i : Int)) W2 := fun ty => by
      rw [hW2]
      refine run_copy_rows w1.drew _ _ ty _ 3 g (off + 3) _ _ ⟨g, off, none⟩ _ _ i _ okF.ul (by obtain ⟨i0, hi0, _, hz1, _⟩ := info_parts infoF; rw [show KF.te = _ from rfl]; simp [KF, hi0, hz1]) (Nat.min_eq_left (by omega)) hln (fun j u hu => ?_) (fun j hj => by rw [Nat.add_assoc]; exact hth1 _ (by have : KF.c = 2 := rfl; rw [this]; omega)) (flat_one okF _)
      rw [flat_take okF _ _ (by omega), List.getElem?_take] at hu
      split at hu
      · rw [Addr.add_mid]; exact hra1 j u hu
      · cases hu
    have k2 : Keep (fun j => j = g) w1 W2 := by rw [hW2]; exact (Keep.drew _ _).more (keep_cells _ _ _ _)
    have t2 : W2.there g off (cap * 3) := by rw [hW2]; exact World.there_setCells (w := w1.drew) hth1 _ _ _
    have r2 : W2.rangeAt g (off + 3) (flat KF (s.row.eraseIdx i)) := move_range okF (w := w1.drew) hra1 hth1 hn2 hc hW2
    have b2 : ∃ cs, W2.heap[g]? = some (.cells cs KF.te (0, 0)) := by rw [hW2]; exact blk_cells _ _ _ hcs1
    obtain ⟨x0, hx0⟩ := Option.isSome_iff_exists.1 (t2 0 (by omega)).1
    obtain ⟨x1, hx1⟩ := Option.isSome_iff_exists.1 (t2 1 (by omega)).1
    obtain ⟨x2, hx2⟩ := Option.isSome_iff_exists.1 (t2 2 (by omega)).1
    have f0 := (t2 0 (by omega)).2
    have f1 := (t2 1 (by omega)).2
    have f2 := (t2 2 (by omega)).2
    rw [Nat.add_zero] at hx0 f0
    have e3 := k2.cell d3 (fun e => hgP e.symm)
    have eb := k2.blk (K1.out.blk H.out.blk (fun e => H.out.ePm e)) (fun e => hgP e.symm)
    have ef : W2.frozen? ⟨P, 3, none⟩ = false := frozen_blk eb 3
    have hPg : P ≠ g := Ne.symm hgP
    have R2 := hide r2
    have T2 := hide t2
    have B2 := hide b2
    have K2 := hide k2
    have HC := hide hc
    have HCm := hide hcm
    have HSg := hide hSg
    have hc1 : ¬ cap = 1 := by omega
    have hc2 : 1 ≤ s.row.length := by omega
    have hc3 : 0 < s.row.length := by omega
    have hc4 : i ≤ cap := by omega
    unfold KF at hdel
    generalize hnn : s.row.length = nn at *
    have HN := hide hnn
    clear h hok hks hi hra hth hcs hra1 hth1 hcs1 m1 k1 k1' s1 hcm hnn hlen hSg hW2 k2 t2 r2 b2 eb hln DL
    go_enter Try.func52, Try.ntmps52
    go_wp2_with fail
    go_region
    go_wp2_with fail
    go_region
    go_wp2
    go_end0
    have kz : Keep (fun j => j = g) W2 (W2.setCells g off KF.zc) := keep_cells _ _ _ _
    have fin := H.out.taken okF HO.out HI.out (W := W2.setCells g off KF.zc) (v' := .slice (some ⟨g, off + 3, none⟩) (nn - 1) (cap - 1)) (M1.out.keep (K2.out.more kz) (fun e => hgm e.symm)) (.inr ⟨g, off + 3, cap - 1, by rw [List.length_eraseIdx_of_lt (by rw [HN.out]; exact hil), HN.out], HSg.out, blk_cells _ _ _ B2.out, by rw [List.length_eraseIdx_of_lt (by rw [HN.out]; exact hil), HN.out]; have := HC.out; omega, by have := HCm.out; omega, World.rangeAt_setCells_apart R2.out _ _ _ (.inr (.inr (Nat.le_refl _))), ?_⟩) rfl ((K1.out.mono fun j e => .inl e).more ((K2.out.more kz).mono fun j e => .inr (by rw [e]; rfl)))
    · exact ⟨rfl, ⟨HO.out.take i, fun e he => HKs.out e ((List.eraseIdx_sublist _ _).subset he), m, _, fin.1⟩, fin.2⟩
    · intro j hj
      rw [Nat.add_assoc]
      exact World.there_setCells T2.out _ _ _ _ (by have h1 : j < (cap - 1) * 3 := hj; omega)

end Qu
end Go.Proofs.Ytobmnkoohgkiiaa
