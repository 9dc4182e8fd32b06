/- Package queue: take: the thing at a place is taken out. -/
import Derived.Test.YtobmnkoohgkiiaaQDel
import Derived.Handy
namespace Go.Proofs.Ytobmnkoohgkiiaa
namespace Qu
open Go.RowKit

section
variable {α : Type} {K : Kd α}
theorem RowAt.far {S : Nat → Prop} {w w' : World} {v : Value} {r : List (Nat × α)} (h : RowAt K S w v r) {T : Nat → Prop} (hk : Keep T w w') (hT : ∀ k, v.ownBlock = some k → ¬ T k) : RowAt K S w' v r := by
  rcases h with h | ⟨g, off, cap, h1, h2, ⟨cs, h3⟩, h4, h5, h6, h7⟩
  · exact .inl h
  · have hg := hT g (by rw [h1]; rfl)
    exact .inr ⟨g, off, cap, h1, h2, ⟨cs, hk.blk h3 hg⟩, h4, h5, rangeAt_keep h6 hk hg, there_keep h7 hk hg (lt_blk h3)⟩

/-- 'copy' of things -/
theorem run_copy_rows (w : World) (dT sT ty elem : TypeId) (size b o dLen dCap : Nat) (a : Addr) (sLen sCap n : Nat) (cs : List Value)
    (hu : Try.prog.underlying dT = some (.slice elem)) (hs : (Try.prog.info? elem).map (·.size) = some size) (hn : Nat.min sLen dLen = n) (hl : cs.length = n * size)
    (hsrc : ∀ j v, cs[j]? = some v → w.cell? (a.add j) = some v) (ht : w.there b o cs.length) (h1 : ∀ v ∈ cs, v.oneCell' = true) :
    (Builtin.copy_ #[dT, sT] ty #[.slice (some ⟨b, o, none⟩) dLen dCap, .slice (some a) sLen sCap]).run Try.prog w = .ok (.int .i64 (n : Int)) (w.setCells b o cs) := by
  have hld := run_loadCells_list (P := Try.prog) w a cs hsrc
  have hst := run_storeCells_cells (P := Try.prog) b o cs 0 w (fun j hj => (ht j hj).1) (fun j hj => (ht j hj).2) h1
  simp only [Nat.add_zero] at hst
  cases hq : Try.prog.info? elem with
  | none => simp [hq] at hs
  | some i =>
    have hi : i.size = size := by simpa [hq] using hs
    rw [hl] at hld
    simp [Builtin.copy_, run_underlying hu, Builtin.lenOf, Builtin.firstCells, sizeOf, typeInfo, hq, hi, hn, hld, hst, goInt]
end

section
variable {α : Type} [DecidableEq α] {K : Kd α}
theorem QIn.taken (hK : KdOk K) {S : Nat → Prop} {w W : World} {P m i n : Nat} {k : α} {v v' : Value} {s : St α} (h : QIn K S w P m v s) (hok : Ok s) (hi : s.row[i]? = some (n, k)) (hm : MapK K W m s.last (updK (numL s.row) k none)) (hrow : RowAt K S W v' (s.row.eraseIdx i)) (hv : v'.ownBlock = v.ownBlock)
    (hk : Keep (fun j => j = m ∨ v.ownBlock = some j) w W) : QIn K S (W.setCell ⟨P, 3, none⟩ v') P m v' (s.take i) ∧ Keep S w (W.setCell ⟨P, 3, none⟩ v') := by
  have hP := hk.blk h.blk (fun e => e.elim h.ePm (h.eP hK))
  refine ⟨⟨?_, ?_, ?_, h.sp, h.sm⟩, ?_⟩
  · rw [set_blk hP 3 v']
    rfl
  · rw [show numL (s.take i).row = updK (numL s.row) k none from numL_erase hok.nd hi]
    exact hm.keep (keep_cell W P 3 v') (Ne.symm h.ePm)
  · exact hrow.far (keep_cell W P 3 v') fun j e1 e2 => h.eP hK (by rw [← hv, e1, e2])
  · exact (hk.mono fun j e => by
      rcases e with rfl | e
      · exact h.sm
      · exact (h.row.own e).1).more (Keep.setCell _ (show S P from h.sp) _)

omit [DecidableEq α] in
/-- the first half is moved by one -/
theorem move_range (hK : KdOk K) {w W : World} {g off cap i : Nat} {r : List (Nat × α)} (hra : w.rangeAt g off (flat K r)) (ht : w.there g off (cap * (K.c + 1))) (hi : i + 1 < r.length) (hc : r.length ≤ cap) (hW : W = w.setCells g (off + (K.c + 1)) (flat K (r.take i))) :
    W.rangeAt g (off + (K.c + 1)) (flat K (r.eraseIdx i)) := by
  have e2 : (flat K (r.take i)).length = i * (K.c + 1) := by rw [flat_length hK.cln, List.length_take, Nat.min_eq_left (by omega)]
  have e4 : (i + 1) * (K.c + 1) ≤ cap * (K.c + 1) := Nat.mul_le_mul_right _ (by omega)
  rw [Nat.add_mul, Nat.one_mul] at e4
  rw [List.eraseIdx_eq_take_drop_succ, flat_append, hW]
  intro j u hu
  by_cases hj : j < (flat K (r.take i)).length
  · rw [List.getElem?_append_left hj] at hu
    exact World.rangeAt_setCells_same w g (off + (K.c + 1)) (flat K (r.take i)) (fun j hj => by rw [Nat.add_assoc]; exact ht _ (by omega)) j u hu
  · rw [List.getElem?_append_right (by omega), e2, flat_drop hK r (i + 1) (by omega), List.getElem?_drop] at hu
    have h1 := hra _ u hu
    rw [World.cell?_setCells_out g _ _ w _ (fun _ _ => .inr (by show off + (K.c + 1) + (flat K (r.take i)).length ≤ off + (K.c + 1) + j; omega)), ← h1]
    congr 2
    rw [Nat.add_mul, Nat.one_mul]
    omega
end

set_option maxRecDepth 100000 in
set_option maxHeartbeats 4000000 in
theorem takeI {S : Nat → Prop} {P i n : Nat} {k : _} {s : St _} (w : World) (h : QAt KI S w P s) (hi : s.row[i]? = some (n, k)) :
    Calls Try.prog 49 #[.pointer (some ⟨P, 0, none⟩), .int .i64 i] w fun e w' => e = .returned (.tuple #[]) ∧ QAt KI S w' P (s.take i) ∧ Keep S w w' := by
  obtain ⟨hok, hks, m, v, h⟩ := h
  have hil : i < s.row.length := (List.getElem?_eq_some_iff.1 hi).1
  have hlen := Nat.le_trans hok.len hok.pl
  obtain ⟨g, off, cap, rfl, hSg, hcs, hc, hcm, hra, hth⟩ := h.row.full (by omega)
  have c2 := h.c2
  have c3 := h.c3
  have hx : w.cell? ⟨g, off + i * 2 + 1, none⟩ = some (KI.enc k) := RowAt.at_ okI hra hi (j := 1) (by decide) rfl
  obtain ⟨w1, hdel, m1, k1, s1⟩ := (h.mp.of_blk (w' := w.drew) rfl).drop okI okI.um (k := k) (hks _ (List.mem_of_getElem? hi)) 0
  have k1' : Keep (fun j => j = m) w w1 := (Keep.drew _ w).more k1
  have hgm : g ≠ m := fun e => h.em (by rw [← e]; rfl)
  have hgP : g ≠ P := fun e => h.eP okI (by rw [← e]; rfl)
  have hra1 := rangeAt_keep hra k1' (fun e => hgm e)
  have hth1 := there_keep hth k1' (fun e => hgm e) (by obtain ⟨cs, hcs⟩ := hcs; exact lt_blk hcs)
  have hcs1 : ∃ cs, w1.heap[g]? = some (.cells cs KI.te (0, 0)) := by obtain ⟨cs, hcs⟩ := hcs; exact ⟨cs, k1'.blk hcs (fun e => hgm e)⟩
  have d3 := k1'.cell c3 (fun e => h.ePm e)
  have df : w1.frozen? ⟨P, 3, none⟩ = false := frozen_blk (k1'.blk h.blk (fun e => h.ePm e)) 3
  have H := hide h
  have HO := hide hok
  have HKs := hide hks
  have HI := hide hi
  have K1 := hide k1'
  have M1 := hide m1
  have hcm' : cap ≤ 9223372036854775807 := hcm
  have DL := hide (delI i w1 g off cap hra1 hth1 hil hc hcm' hlen hcs1)
  by_cases hh : s.row.length / 2 ≤ i
  · have hq : ((s.row.length : Int) / 2 ≤ (i : Int)) := by omega
    have HRn := hide hlen
    have HC := hide hc
    have HCm := hide hcm
    have HSg := hide hSg
    unfold KI at hx hdel
    generalize hnn : s.row.length = nn at *
    have HN := hide hnn
    clear h hok hks hi hra hth hcs hra1 hth1 hcs1 m1 k1 k1' s1 hcm hnn hlen hSg
    go_enter Try.func49, Try.ntmps49
    go_wp2_with fail
    go_region
    go_wp2_with (go_at_call 59
                 refine DL.out.mono ?_
                 rintro e w2 ⟨rfl, r2, t2, b2, k2⟩
                 have e3 := k2.cell d3 (fun e => hgP e.symm)
                 have ef : w2.frozen? ⟨P, 3, none⟩ = false := frozen_blk (k2.blk (K1.out.blk H.out.blk (fun e => H.out.ePm e)) (fun e => hgP e.symm)) 3
                 have R2 := hide r2
                 have T2 := hide t2
                 have B2 := hide b2
                 have K2 := hide k2
                 clear r2 t2 b2 k2)
    go_returns
    have fin := H.out.taken okI HO.out HI.out (W := w2) (v' := .slice (some ⟨g, off, none⟩) (nn - 1) cap) (M1.out.keep K2.out (fun e => hgm e.symm)) (.inr ⟨g, off, cap, by rw [List.length_eraseIdx_of_lt (by rw [HN.out]; exact hil), HN.out], HSg.out, B2.out, by rw [List.length_eraseIdx_of_lt (by rw [HN.out]; exact hil), HN.out]; omega, HCm.out, R2.out, T2.out⟩) rfl ((K1.out.mono fun j e => .inl e).more (K2.out.mono fun j e => .inr (by rw [e]; rfl)))
    exact ⟨rfl, ⟨HO.out.take i, fun e he => HKs.out e ((List.eraseIdx_sublist _ _).subset he), m, _, fin.1⟩, fin.2⟩
  · have hq : ¬ ((s.row.length : Int) / 2 ≤ (i : Int)) := by omega
    have hn2 : i + 1 < s.row.length := by omega
    have hln : (flat KI (s.row.take i)).length = i * 2 := by rw [flat_length okI.cln, List.length_take, Nat.min_eq_left (by omega)]; rfl
    obtain ⟨W2, hW2⟩ : ∃ W2, W2 = w1.drew.setCells g (off + 2) (flat KI (s.row.take i)) := ⟨_, rfl⟩
    have hcp : ∀ ty, (Builtin.copy_ #[64, 64] ty #[.slice (some ⟨g, off + 2, none⟩) (s.row.length - 1) (cap - 1), .slice (some ⟨g, off, none⟩) i cap]).run Try.prog w1.drew = .ok (.int .i64 (i : Int)) W2 := fun ty => by
      rw [hW2]
      refine run_copy_rows w1.drew _ _ ty _ 2 g (off + 2) _ _ ⟨g, off, none⟩ _ _ i _ okI.ul (by obtain ⟨i0, hi0, _, hz1, _⟩ := info_parts infoI; rw [show KI.te = _ from rfl]; simp [KI, hi0, hz1]) (Nat.min_eq_left (by omega)) hln (fun j u hu => ?_) (fun j hj => by rw [Nat.add_assoc]; exact hth1 _ (by have : KI.c = 1 := rfl; rw [this]; omega)) (flat_one okI _)
      rw [flat_take okI _ _ (by omega), List.getElem?_take] at hu
      split at hu
      · rw [Addr.add_mid]; exact hra1 j u hu
      · cases hu
    have k2 : Keep (fun j => j = g) w1 W2 := by rw [hW2]; exact (Keep.drew _ _).more (keep_cells _ _ _ _)
    have t2 : W2.there g off (cap * 2) := by rw [hW2]; exact World.there_setCells (w := w1.drew) hth1 _ _ _
    have r2 : W2.rangeAt g (off + 2) (flat KI (s.row.eraseIdx i)) := move_range okI (w := w1.drew) hra1 hth1 hn2 hc hW2
    have b2 : ∃ cs, W2.heap[g]? = some (.cells cs KI.te (0, 0)) := by rw [hW2]; exact blk_cells _ _ _ hcs1
    obtain ⟨x0, hx0⟩ := Option.isSome_iff_exists.1 (t2 0 (by omega)).1
    obtain ⟨x1, hx1⟩ := Option.isSome_iff_exists.1 (t2 1 (by omega)).1
    have f0 := (t2 0 (by omega)).2
    have f1 := (t2 1 (by omega)).2
    rw [Nat.add_zero] at hx0 f0
    have e3 := k2.cell d3 (fun e => hgP e.symm)
    have eb := k2.blk (K1.out.blk H.out.blk (fun e => H.out.ePm e)) (fun e => hgP e.symm)
    have ef : W2.frozen? ⟨P, 3, none⟩ = false := frozen_blk eb 3
    have hPg : P ≠ g := Ne.symm hgP
    have R2 := hide r2
    have T2 := hide t2
    have B2 := hide b2
    have K2 := hide k2
    have HC := hide hc
    have HCm := hide hcm
    have HSg := hide hSg
    have hc1 : ¬ cap = 1 := by omega
    have hc2 : 1 ≤ s.row.length := by omega
    have hc3 : 0 < s.row.length := by omega
    have hc4 : i ≤ cap := by omega
    unfold KI at hx hdel
    generalize hnn : s.row.length = nn at *
    have HN := hide hnn
    clear h hok hks hi hra hth hcs hra1 hth1 hcs1 m1 k1 k1' s1 hcm hnn hlen hSg hW2 k2 t2 r2 b2 eb hln DL
    go_enter Try.func49, Try.ntmps49
    go_wp2_with fail
    go_region
    go_wp2_with fail
    go_region
    go_wp2
    go_end0
    have kz : Keep (fun j => j = g) W2 (W2.setCells g off KI.zc) := keep_cells _ _ _ _
    have fin := H.out.taken okI HO.out HI.out (W := W2.setCells g off KI.zc) (v' := .slice (some ⟨g, off + 2, none⟩) (nn - 1) (cap - 1)) (M1.out.keep (K2.out.more kz) (fun e => hgm e.symm)) (.inr ⟨g, off + 2, cap - 1, by rw [List.length_eraseIdx_of_lt (by rw [HN.out]; exact hil), HN.out], HSg.out, blk_cells _ _ _ B2.out, by rw [List.length_eraseIdx_of_lt (by rw [HN.out]; exact hil), HN.out]; have := HC.out; omega, by have := HCm.out; omega, World.rangeAt_setCells_apart R2.out _ _ _ (.inr (.inr (Nat.le_refl _))), ?_⟩) rfl ((K1.out.mono fun j e => .inl e).more ((K2.out.more kz).mono fun j e => .inr (by rw [e]; rfl)))
    · exact ⟨rfl, ⟨HO.out.take i, fun e he => HKs.out e ((List.eraseIdx_sublist _ _).subset he), m, _, fin.1⟩, fin.2⟩
    · intro j hj
      rw [Nat.add_assoc]
      exact World.there_setCells T2.out _ _ _ _ (by have h1 : j < (cap - 1) * 2 := hj; omega)
set_option maxRecDepth 100000 in
set_option maxHeartbeats 4000000 in
theorem takeS {S : Nat → Prop} {P i n : Nat} {k : _} {s : St _} (w : World) (h : QAt KS S w P s) (hi : s.row[i]? = some (n, k)) :
    Calls Try.prog 45 #[.pointer (some ⟨P, 0, none⟩), .int .i64 i] w fun e w' => e = .returned (.tuple #[]) ∧ QAt KS S w' P (s.take i) ∧ Keep S w w' := by
  obtain ⟨hok, hks, m, v, h⟩ := h
  have hil : i < s.row.length := (List.getElem?_eq_some_iff.1 hi).1
  have hlen := Nat.le_trans hok.len hok.pl
  obtain ⟨g, off, cap, rfl, hSg, hcs, hc, hcm, hra, hth⟩ := h.row.full (by omega)
  have c2 := h.c2
  have c3 := h.c3
  have hx : w.cell? ⟨g, off + i * 2 + 1, none⟩ = some (KS.enc k) := RowAt.at_ okS hra hi (j := 1) (by decide) rfl
  obtain ⟨w1, hdel, m1, k1, s1⟩ := (h.mp.of_blk (w' := w.drew) rfl).drop okS okS.um (k := k) (hks _ (List.mem_of_getElem? hi)) 0
  have k1' : Keep (fun j => j = m) w w1 := (Keep.drew _ w).more k1
  have hgm : g ≠ m := fun e => h.em (by rw [← e]; rfl)
  have hgP : g ≠ P := fun e => h.eP okS (by rw [← e]; rfl)
  have hra1 := rangeAt_keep hra k1' (fun e => hgm e)
  have hth1 := there_keep hth k1' (fun e => hgm e) (by obtain ⟨cs, hcs⟩ := hcs; exact lt_blk hcs)
  have hcs1 : ∃ cs, w1.heap[g]? = some (.cells cs KS.te (0, 0)) := by obtain ⟨cs, hcs⟩ := hcs; exact ⟨cs, k1'.blk hcs (fun e => hgm e)⟩
  have d3 := k1'.cell c3 (fun e => h.ePm e)
  have df : w1.frozen? ⟨P, 3, none⟩ = false := frozen_blk (k1'.blk h.blk (fun e => h.ePm e)) 3
  have H := hide h
  have HO := hide hok
  have HKs := hide hks
  have HI := hide hi
  have K1 := hide k1'
  have M1 := hide m1
  have hcm' : cap ≤ 9223372036854775807 := hcm
  have DL := hide (delS i w1 g off cap hra1 hth1 hil hc hcm' hlen hcs1)
  by_cases hh : s.row.length / 2 ≤ i
  · have hq : ((s.row.length : Int) / 2 ≤ (i : Int)) := by omega
    have HRn := hide hlen
    have HC := hide hc
    have HCm := hide hcm
    have HSg := hide hSg
    unfold KS at hx hdel
    generalize hnn : s.row.length = nn at *
    have HN := hide hnn
    clear h hok hks hi hra hth hcs hra1 hth1 hcs1 m1 k1 k1' s1 hcm hnn hlen hSg
    go_enter Try.func45, Try.ntmps45
    go_wp2_with fail
    go_region
    go_wp2_with (go_at_call 57
                 refine DL.out.mono ?_
                 rintro e w2 ⟨rfl, r2, t2, b2, k2⟩
                 have e3 := k2.cell d3 (fun e => hgP e.symm)
                 have ef : w2.frozen? ⟨P, 3, none⟩ = false := frozen_blk (k2.blk (K1.out.blk H.out.blk (fun e => H.out.ePm e)) (fun e => hgP e.symm)) 3
                 have R2 := hide r2
                 have T2 := hide t2
                 have B2 := hide b2
                 have K2 := hide k2
                 clear r2 t2 b2 k2)
    go_returns
    have fin := H.out.taken okS HO.out HI.out (W := w2) (v' := .slice (some ⟨g, off, none⟩) (nn - 1) cap) (M1.out.keep K2.out (fun e => hgm e.symm)) (.inr ⟨g, off, cap, by rw [List.length_eraseIdx_of_lt (by rw [HN.out]; exact hil), HN.out], HSg.out, B2.out, by rw [List.length_eraseIdx_of_lt (by rw [HN.out]; exact hil), HN.out]; omega, HCm.out, R2.out, T2.out⟩) rfl ((K1.out.mono fun j e => .inl e).more (K2.out.mono fun j e => .inr (by rw [e]; rfl)))
    exact ⟨rfl, ⟨HO.out.take i, fun e he => HKs.out e ((List.eraseIdx_sublist _ _).subset he), m, _, fin.1⟩, fin.2⟩
  · have hq : ¬ ((s.row.length : Int) / 2 ≤ (i : Int)) := by omega
    have hn2 : i + 1 < s.row.length := by omega
    have hln : (flat KS (s.row.take i)).length = i * 2 := by rw [flat_length okS.cln, List.length_take, Nat.min_eq_left (by omega)]; rfl
    obtain ⟨W2, hW2⟩ : ∃ W2, W2 = w1.drew.setCells g (off + 2) (flat KS (s.row.take i)) := ⟨_, rfl⟩
    have hcp : ∀ ty, (Builtin.copy_ #[68, 68] ty #[.slice (some ⟨g, off + 2, none⟩) (s.row.length - 1) (cap - 1), .slice (some ⟨g, off, none⟩) i cap]).run Try.prog w1.drew = .ok (.int .i64 (i : Int)) W2 := fun ty => by
      rw [hW2]
      refine run_copy_rows w1.drew _ _ ty _ 2 g (off + 2) _ _ ⟨g, off, none⟩ _ _ i _ okS.ul (by obtain ⟨i0, hi0, _, hz1, _⟩ := info_parts infoS; rw [show KS.te = _ from rfl]; simp [KS, hi0, hz1]) (Nat.min_eq_left (by omega)) hln (fun j u hu => ?_) (fun j hj => by rw [Nat.add_assoc]; exact hth1 _ (by have : KS.c = 1 := rfl; rw [this]; omega)) (flat_one okS _)
      rw [flat_take okS _ _ (by omega), List.getElem?_take] at hu
      split at hu
      · rw [Addr.add_mid]; exact hra1 j u hu
      · cases hu
    have k2 : Keep (fun j => j = g) w1 W2 := by rw [hW2]; exact (Keep.drew _ _).more (keep_cells _ _ _ _)
    have t2 : W2.there g off (cap * 2) := by rw [hW2]; exact World.there_setCells (w := w1.drew) hth1 _ _ _
    have r2 : W2.rangeAt g (off + 2) (flat KS (s.row.eraseIdx i)) := move_range okS (w := w1.drew) hra1 hth1 hn2 hc hW2
    have b2 : ∃ cs, W2.heap[g]? = some (.cells cs KS.te (0, 0)) := by rw [hW2]; exact blk_cells _ _ _ hcs1
    obtain ⟨x0, hx0⟩ := Option.isSome_iff_exists.1 (t2 0 (by omega)).1
    obtain ⟨x1, hx1⟩ := Option.isSome_iff_exists.1 (t2 1 (by omega)).1
    have f0 := (t2 0 (by omega)).2
    have f1 := (t2 1 (by omega)).2
    rw [Nat.add_zero] at hx0 f0
    have e3 := k2.cell d3 (fun e => hgP e.symm)
    have eb := k2.blk (K1.out.blk H.out.blk (fun e => H.out.ePm e)) (fun e => hgP e.symm)
    have ef : W2.frozen? ⟨P, 3, none⟩ = false := frozen_blk eb 3
    have hPg : P ≠ g := Ne.symm hgP
    have R2 := hide r2
    have T2 := hide t2
    have B2 := hide b2
    have K2 := hide k2
    have HC := hide hc
    have HCm := hide hcm
    have HSg := hide hSg
    have hc1 : ¬ cap = 1 := by omega
    have hc2 : 1 ≤ s.row.length := by omega
    have hc3 : 0 < s.row.length := by omega
    have hc4 : i ≤ cap := by omega
    unfold KS at hx hdel
    generalize hnn : s.row.length = nn at *
    have HN := hide hnn
    clear h hok hks hi hra hth hcs hra1 hth1 hcs1 m1 k1 k1' s1 hcm hnn hlen hSg hW2 k2 t2 r2 b2 eb hln DL
    go_enter Try.func45, Try.ntmps45
    go_wp2_with fail
    go_region
    go_wp2_with fail
    go_region
    go_wp2
    go_end0
    have kz : Keep (fun j => j = g) W2 (W2.setCells g off KS.zc) := keep_cells _ _ _ _
    have fin := H.out.taken okS HO.out HI.out (W := W2.setCells g off KS.zc) (v' := .slice (some ⟨g, off + 2, none⟩) (nn - 1) (cap - 1)) (M1.out.keep (K2.out.more kz) (fun e => hgm e.symm)) (.inr ⟨g, off + 2, cap - 1, by rw [List.length_eraseIdx_of_lt (by rw [HN.out]; exact hil), HN.out], HSg.out, blk_cells _ _ _ B2.out, by rw [List.length_eraseIdx_of_lt (by rw [HN.out]; exact hil), HN.out]; have := HC.out; omega, by have := HCm.out; omega, World.rangeAt_setCells_apart R2.out _ _ _ (.inr (.inr (Nat.le_refl _))), ?_⟩) rfl ((K1.out.mono fun j e => .inl e).more ((K2.out.more kz).mono fun j e => .inr (by rw [e]; rfl)))
    · exact ⟨rfl, ⟨HO.out.take i, fun e he => HKs.out e ((List.eraseIdx_sublist _ _).subset he), m, _, fin.1⟩, fin.2⟩
    · intro j hj
      rw [Nat.add_assoc]
      exact World.there_setCells T2.out _ _ _ _ (by have h1 : j < (cap - 1) * 2 := hj; omega)

end Qu
end Go.Proofs.Ytobmnkoohgkiiaa
