/- The document's Parse: takes: lines of needs and after (written by tkm_gen.py). -/
import Derived.Test.YtfoahfgehmghcaaGreatDoorUSp8
namespace Go.Proofs.YtfoahfgehmghcaaGreatDoor
namespace U
namespace Sp
open Go.RowKit

theorem Rws.farI {B : Nat} {w : World} {R : List Rw} (h : Rws B w R) {D : Nat} {cs : Array Value} {t : TypeId} (hD : w.heap[D]? = some (.cells cs t (0, 0))) (ht : ¬ TyOk t) {i : Nat} {r : Rw} (hr : R[i]? = some r) {g : Nat} (hg : r.v.ownBlock = some g) : D ≠ g :=
  fun e => h.far hD ht r (List.mem_of_getElem? hr) g hg e.symm
/-- a row of one's own that is not empty -/
theorem own_some {w : World} {b : Nat} {e : TypeId} {v : Value} {n : Nat} {xs : List Value} (h : w.ownsRow b e 1 v n xs) (hn : 0 < n) : ∃ g cap, v = .slice (some ⟨g, 0, none⟩) n cap ∧ (∃ cur, w.heap[g]? = some (.cells cur e (0, 0))) ∧ ∀ (j : Nat) u, xs[j]? = some u → w.cell? ⟨g, j, none⟩ = some u ∧ w.frozen? ⟨g, j, none⟩ = false := by
  rcases h.2 with ⟨e1, e2⟩ | ⟨g, cap, cur, e1, e2, e3, e4, e5, e6, e7⟩
  · omega
  · refine ⟨g, cap, e1, ⟨cur, e3⟩, fun j u hu => ⟨?_, frozen_blk e3 _⟩⟩
    rw [← e7, List.getElem?_take] at hu
    split at hu
    · exact cell_blk e3 _ (by simpa using hu)
    · cases hu
theorem svs_set (L : List (Option Addr × Nat × Nat)) (k : Nat) (s : Option Addr × Nat × Nat) : (svs L).set k (.slice s.1 s.2.1 s.2.2) = svs (L.set k s) := by unfold svs; rw [List.map_set]
theorem ivs_set (l : List Nat) (k x : Nat) : (ivs l).set k (.int .i64 (x : Int)) = ivs (l.set k x) := by unfold ivs; rw [List.map_set]
theorem rds_tail {w : World} {g off : Nat} {f : List UInt8} {ws : List (List UInt8)} (h : RdS w (some ⟨g, off, none⟩) (f :: ws)) {a' : Option Addr} (ha : ws.length ≠ 0 → a' = some ⟨g, off + 1, none⟩) : RdS w a' ws := by
  obtain ⟨g', off', e, hg, hc⟩ := h.resolve_left (by simp)
  cases e
  cases ws with
  | nil => exact .inl rfl
  | cons y r => exact .inr ⟨g, off + 1, ha (by simp), hg, fun j z hz => by rw [Nat.add_assoc, Nat.add_comm 1 j]; exact hc (j + 1) z (by simpa using hz)⟩
/-- what stands behind the two stores: kind 0 -/
theorem df_men0 {B : Nat} {w : World} {D : Nat} {d : Dr} {p : Nat} {vn vl vN vA vL vP : Value} {L M : List (Option Addr × Nat × Nat)} (X : DfX B w D d vn vl vN vA vL vP L M) (hI : DI d p) (h0 : lnOf d.ms (d.nds.length - 1) 0 = 0) {gN cN gL cL : Nat} (hN : vN = .slice (some ⟨gN, 0, none⟩) L.length cN) (hL : vL = .slice (some ⟨gL, 0, none⟩) (rowL d.ms d.nds.length 0).length cL) (s : Option Addr × Nat × Nat) (ws : List (List UInt8)) (hs : s.2.1 = ws.length) (hr : RdS w s.1 ws) (hn ha : Bool) :
    DfAt B ((w.setCell ⟨gN, d.nds.length - 1, none⟩ (.slice s.1 s.2.1 s.2.2)).setCell ⟨gL, d.nds.length - 1, none⟩ (.int .i64 (p : Int))) D { d with hn := hn, ha := ha, ms := d.ms ++ [⟨p, d.nds.length - 1, 0, ws⟩] } ∧ Fq B w ((w.setCell ⟨gN, d.nds.length - 1, none⟩ (.slice s.1 s.2.1 s.2.2)).setCell ⟨gL, d.nds.length - 1, none⟩ (.int .i64 (p : Int))) := by
  have hf := free_of hI.ms h0
  have r1 := X.1.rws.set (i := 2) rfl hN (d.nds.length - 1) (.slice s.1 s.2.1 s.2.2)
  have r2 := r1.set (i := 4) rfl hL (d.nds.length - 1) (.int .i64 (p : Int))
  have t1 := row_tq X.1.rws (i := 2) rfl (g := gN) (by simp only; rw [hN]; rfl)
  have t2 := row_tq r1 (i := 4) rfl (g := gL) (by simp only; rw [hL]; rfl)
  have f1 : Fq B w (w.setCell ⟨gN, d.nds.length - 1, none⟩ (.slice s.1 s.2.1 s.2.2)) := Fq.ofKeep (keep_cell w gN _ _) fun i e => by subst e; exact t1
  have f2 : Fq B (w.setCell ⟨gN, d.nds.length - 1, none⟩ (.slice s.1 s.2.1 s.2.2)) _ := Fq.ofKeep (keep_cell _ gL (d.nds.length - 1) (.int .i64 (p : Int))) fun i e => by subst e; exact t2
  have hDN : D ≠ gN := X.1.rws.farI X.1.blk draft_ty (i := 2) rfl (g := gN) (by simp only; rw [hN]; rfl)
  have hDL : D ≠ gL := X.1.rws.farI X.1.blk draft_ty (i := 4) rfl (g := gL) (by simp only; rw [hL]; rfl)
  have hb := (keep_cell _ gL (d.nds.length - 1) (.int .i64 (p : Int))).blk ((keep_cell w gN (d.nds.length - 1) (.slice s.1 s.2.1 s.2.2)).blk X.1.blk hDN) hDL
  refine ⟨⟨vn, vl, vN, vA, vL, vP, L.set (d.nds.length - 1) s, M, ⟨X.1.lo, hb, ?_⟩, ?_, ?_⟩, f1.trans f2⟩
  · show Rws B _ (rw6 vn vl vN vA vL vP (d.nds.map fun x => (no x).q) d.places (L.set (d.nds.length - 1) s) M (rowL (d.ms ++ [⟨p, d.nds.length - 1, 0, ws⟩]) d.nds.length 0) (rowL (d.ms ++ [⟨p, d.nds.length - 1, 0, ws⟩]) d.nds.length 1))
    rw [rowL_set d.ms ⟨p, d.nds.length - 1, 0, ws⟩ rfl hf, rowL_same d.ms ⟨p, d.nds.length - 1, 0, ws⟩ d.nds.length 1 (by simp)]
    unfold rw6
    rw [← svs_set, ← ivs_set, List.length_set, List.length_set]
    exact r2
  · show Sx _ (L.set (d.nds.length - 1) s) (rowN (d.ms ++ [⟨p, d.nds.length - 1, 0, ws⟩]) d.nds.length 0)
    rw [rowN_set d.ms ⟨p, d.nds.length - 1, 0, ws⟩ rfl hf]
    exact (X.2.1.fq (f1.trans f2)).set _ s ws hs ((f1.trans f2).rdS hr)
  · show Sx _ M (rowN (d.ms ++ [⟨p, d.nds.length - 1, 0, ws⟩]) d.nds.length 1)
    rw [rowN_same d.ms ⟨p, d.nds.length - 1, 0, ws⟩ d.nds.length 1 (by simp)]
    exact X.2.2.fq (f1.trans f2)
/-- what stands behind the two stores: kind 1 -/
theorem df_men1 {B : Nat} {w : World} {D : Nat} {d : Dr} {p : Nat} {vn vl vN vA vL vP : Value} {L M : List (Option Addr × Nat × Nat)} (X : DfX B w D d vn vl vN vA vL vP L M) (hI : DI d p) (h0 : lnOf d.ms (d.nds.length - 1) 1 = 0) {gN cN gL cL : Nat} (hN : vA = .slice (some ⟨gN, 0, none⟩) M.length cN) (hL : vP = .slice (some ⟨gL, 0, none⟩) (rowL d.ms d.nds.length 1).length cL) (s : Option Addr × Nat × Nat) (ws : List (List UInt8)) (hs : s.2.1 = ws.length) (hr : RdS w s.1 ws) (hn ha : Bool) :
    DfAt B ((w.setCell ⟨gN, d.nds.length - 1, none⟩ (.slice s.1 s.2.1 s.2.2)).setCell ⟨gL, d.nds.length - 1, none⟩ (.int .i64 (p : Int))) D { d with hn := hn, ha := ha, ms := d.ms ++ [⟨p, d.nds.length - 1, 1, ws⟩] } ∧ Fq B w ((w.setCell ⟨gN, d.nds.length - 1, none⟩ (.slice s.1 s.2.1 s.2.2)).setCell ⟨gL, d.nds.length - 1, none⟩ (.int .i64 (p : Int))) := by
  have hf := free_of hI.ms h0
  have r1 := X.1.rws.set (i := 3) rfl hN (d.nds.length - 1) (.slice s.1 s.2.1 s.2.2)
  have r2 := r1.set (i := 5) rfl hL (d.nds.length - 1) (.int .i64 (p : Int))
  have t1 := row_tq X.1.rws (i := 3) rfl (g := gN) (by simp only; rw [hN]; rfl)
  have t2 := row_tq r1 (i := 5) rfl (g := gL) (by simp only; rw [hL]; rfl)
  have f1 : Fq B w (w.setCell ⟨gN, d.nds.length - 1, none⟩ (.slice s.1 s.2.1 s.2.2)) := Fq.ofKeep (keep_cell w gN _ _) fun i e => by subst e; exact t1
  have f2 : Fq B (w.setCell ⟨gN, d.nds.length - 1, none⟩ (.slice s.1 s.2.1 s.2.2)) _ := Fq.ofKeep (keep_cell _ gL (d.nds.length - 1) (.int .i64 (p : Int))) fun i e => by subst e; exact t2
  have hDN : D ≠ gN := X.1.rws.farI X.1.blk draft_ty (i := 3) rfl (g := gN) (by simp only; rw [hN]; rfl)
  have hDL : D ≠ gL := X.1.rws.farI X.1.blk draft_ty (i := 5) rfl (g := gL) (by simp only; rw [hL]; rfl)
  have hb := (keep_cell _ gL (d.nds.length - 1) (.int .i64 (p : Int))).blk ((keep_cell w gN (d.nds.length - 1) (.slice s.1 s.2.1 s.2.2)).blk X.1.blk hDN) hDL
  refine ⟨⟨vn, vl, vN, vA, vL, vP, L, M.set (d.nds.length - 1) s, ⟨X.1.lo, hb, ?_⟩, ?_, ?_⟩, f1.trans f2⟩
  · show Rws B _ (rw6 vn vl vN vA vL vP (d.nds.map fun x => (no x).q) d.places L (M.set (d.nds.length - 1) s) (rowL (d.ms ++ [⟨p, d.nds.length - 1, 1, ws⟩]) d.nds.length 0) (rowL (d.ms ++ [⟨p, d.nds.length - 1, 1, ws⟩]) d.nds.length 1))
    rw [rowL_set d.ms ⟨p, d.nds.length - 1, 1, ws⟩ rfl hf, rowL_same d.ms ⟨p, d.nds.length - 1, 1, ws⟩ d.nds.length 0 (by simp)]
    unfold rw6
    rw [← svs_set, ← ivs_set, List.length_set, List.length_set]
    exact r2
  · show Sx _ L (rowN (d.ms ++ [⟨p, d.nds.length - 1, 1, ws⟩]) d.nds.length 0)
    rw [rowN_same d.ms ⟨p, d.nds.length - 1, 1, ws⟩ d.nds.length 0 (by simp)]
    exact X.2.1.fq (f1.trans f2)
  · show Sx _ (M.set (d.nds.length - 1) s) (rowN (d.ms ++ [⟨p, d.nds.length - 1, 1, ws⟩]) d.nds.length 1)
    rw [rowN_set d.ms ⟨p, d.nds.length - 1, 1, ws⟩ rfl hf]
    exact (X.2.2.fq (f1.trans f2)).set _ s ws hs ((f1.trans f2).rdS hr)
set_option maxRecDepth 100000 in
set_option maxHeartbeats 4000000 in
theorem takes_men0 (B D : Nat) (d : Dr) (p : Nat) (a : Option Addr) (c : Nat) (ws : List (List UInt8)) (w : World) (hD : DfAt B w D d) (hI : DI d p) (hr : RdS w a (kwNeeds :: ws)) (hz : ∀ x ∈ kwNeeds :: ws, x.length ≤ 65536) (hl : (kwNeeds :: ws).length ≤ 1000000) (hcp : (kwNeeds :: ws).length ≤ c) (h0 : d.place ≠ 0) (hn : d.nds.length ≤ 1000000) :
    Calls Tryz.prog 25 #[.pointer (some ⟨D, 0, none⟩), .slice a (kwNeeds :: ws).length c, .int .i64 (p : Nat)] w (TkEnd B D (step d p (kwNeeds :: ws)) w) := by
  have HST : Hid (step d p (kwNeeds :: ws) = if d.nds ≠ [] ∧ ws ≠ [] ∧ ws.all nmL = true ∧ lnOf d.ms (d.nds.length - 1) 0 = 0 then some { d with hn := true, ha := d.ha, ms := d.ms ++ [⟨p, d.nds.length - 1, 0, ws⟩] } else none) := men_doc hI 0 (.inl rfl) ws
  obtain ⟨vn, vl, vN, vA, vL, vP, L, M, X⟩ := hD
  have c3 := cell_blk X.cs 3 (v := .int .i64 (d.place : Int)) rfl
  have i3 : ((d.place : Int) == 0) = false := by simp; omega
  have c2 := cell_blk X.cs 2 (v := vn) rfl
  obtain ⟨va, vc, hvn⟩ := own_shape (X.1.rws.own 0 _ rfl)
  have hvn : vn = .slice va (d.nds.map fun x => (no x).q).length vc := hvn
  subst hvn
  simp only [List.length_map] at c2
  obtain ⟨g, off, rfl, _, hc⟩ := hr.resolve_left (by simp)
  have e0 := hc 0 kwNeeds rfl
  rw [Nat.add_zero] at e0
  have q1 : ((ba kwNeeds).toList == [110, 111, 100, 101]) = false := (string_lit kwNeeds kwNode).trans (decide_eq_false (by decide))
  have q2 : ((ba kwNeeds).toList == [110, 101, 101, 100, 115]) = true := (string_lit kwNeeds kwNeeds).trans (decide_eq_true (by decide))
  have q3 : ((ba kwNeeds).toList == [97, 102, 116, 101, 114]) = false := (string_lit kwNeeds kwAfter).trans (decide_eq_false (by decide))
  have HC := hide hc
  have HZ := hide hz
  have HR := hide hr
  have HX := hide X
  have HI := hide hI
  generalize hkn : ba kwNeeds = kn at *
  have HNM := hide (fun x (h : x ∈ ws) W => refName_any x W (hz x (List.mem_cons_of_mem _ h)))
  have HSL := hide (slice_one g off ws.length c (by simpa using hcp))
  have i0 : (0 : Int) < ((kwNeeds :: ws).length : Nat) := by simp
  have hlen : (kwNeeds :: ws).length = ws.length + 1 := rfl
  generalize hm : d.nds.length = m at *
  have HM := hide hm
  generalize hN : (kwNeeds :: ws).length = n at *
  clear hc hr hz X hI hkn hm
  generalize step d p (kwNeeds :: ws) = R at *
  by_cases hm0 : m = 0
  · obtain rfl : R = none := by rw [HST.out, if_neg (fun h => h.1 (List.eq_nil_of_length_eq_zero (by rw [HM.out]; exact hm0)))]
    subst hm0
    clear HSL
    go_enter Tryz.func25, Tryz.ntmps25
    go_wp2_with fail
    go_ret
    exact TkEnd.no
  · by_cases hw0 : ws.length = 0
    · obtain rfl : R = none := by rw [HST.out, if_neg (fun h => h.2.1 (List.eq_nil_of_length_eq_zero hw0))]
      have i2 : (n : Int) < 2 := by omega
      have i4 : ¬ ((m : Int) - 1 < 0) := by omega
      have i5 : ¬ ((m : Int) < 1) := by omega
      clear HSL hw0 hm0 hlen
      go_enter Tryz.func25, Tryz.ntmps25
      go_wp2_with fail
      go_ret
      exact TkEnd.no
    · have i2 : ¬ (n : Int) < 2 := by omega
      have i4 : ¬ ((m : Int) - 1 < 0) := by omega
      have i5 : ¬ ((m : Int) < 1) := by omega
      obtain ⟨k, hk⟩ : ∃ k : Nat, m = k + 1 := ⟨m - 1, by omega⟩
      have hki : (m : Int) - 1 = k := by omega
      have HNL := hide hlen
      have HW0 : Hid (ws ≠ []) := fun e => hw0 (by rw [e]; rfl)
      have HNE : Hid (d.nds ≠ []) := fun e => hm0 (by rw [← HM.out, e]; rfl)
      have HKM := hide hk
      clear hw0 hm0 hlen hk
      go_enter Tryz.func25, Tryz.ntmps25
      go_wp2_with fail
      go_loopw [13] (fun iv wr => ∃ i : Nat, iv = .int .i64 (i : Nat) ∧ 1 ≤ i ∧ i ≤ n ∧ wr = w ∧ Hid ((ws.take (i - 1)).all nmL = true)) (fun iv _ => n - (intOf iv).toNat)
      case atStart => exact ⟨1, rfl, Nat.le_refl _, by omega, rfl, (by show (ws.take (1 - 1)).all nmL = true; simp)⟩
      case round =>
        obtain ⟨i, rfl, hi1, hi, rfl, HD⟩ := hrel
        by_cases hlt : i < n
        · obtain ⟨x, hx⟩ : ∃ x, ws[i - 1]? = some x := ⟨_, List.getElem?_eq_getElem (by have := HNL.out; omega)⟩
          have cx := HC.out i x (by rw [show i = (i - 1) + 1 by omega, List.getElem?_cons_succ]; exact hx)
          have NX := hide (HNM.out x (List.mem_of_getElem? hx) wr)
          have ii : (i : Int) < n := by omega
          have htk : ws.take (i + 1 - 1) = ws.take (i - 1) ++ [x] := by rw [show i + 1 - 1 = (i - 1) + 1 by omega]; exact Gr.take_snoc ws (i - 1) x hx
          cases hb : nmL x with
          | false =>
            obtain rfl : R = none := by
              rw [HST.out, if_neg]
              rintro ⟨_, _, h3, _⟩
              have := List.all_eq_true.1 h3 x (List.mem_of_getElem? hx)
              rw [hb] at this
              cases this
            rw [hb] at NX
            clear hb hx htk
            go_wp2_with (go_at_call 45; refine NX.out.mono ?_; rintro e wz ⟨rfl, rfl⟩)
            go_ret
            exact TkEnd.no
          | true =>
            rw [hb] at NX
            have HD2 : Hid ((ws.take (i + 1 - 1)).all nmL = true) := by show _ = _; rw [htk, List.all_append, HD.out]; simp [hb]
            clear hb hx htk HD
            go_wp2_with (go_at_call 45; refine NX.out.mono ?_; rintro e wz ⟨rfl, rfl⟩)
            go_roundw
            · exact ⟨i + 1, rfl, by omega, by omega, trivial, HD2.out⟩
            · show n - ((i : Int) + 1).toNat < n - (i : Int).toNat
              omega
        · have hall : ws.all nmL = true := by
            have := HD.out
            rwa [List.take_of_length_le (by have := HNL.out; omega)] at this
          have HAL := hide hall
          have ii : ¬ (i : Int) < n := by omega
          have X := HX.out
          have hkl : 0 < d.nds.length := by rw [HM.out, HKM.out]; omega
          have LLn : L.length = d.nds.length := (X.2.1.1).trans (rowN_len ..)
          obtain ⟨gN, cN, hgN, _, hcN⟩ := own_some (X.1.rws.own 2 _ rfl) (by show 0 < L.length; rw [LLn]; exact hkl)
          have hgN : vN = .slice (some ⟨gN, 0, none⟩) L.length cN := hgN
          obtain ⟨gL, cL, hgL, ⟨curL, hbL⟩, hcL⟩ := own_some (X.1.rws.own 4 _ rfl) (by show 0 < (rowL d.ms d.nds.length 0).length; rw [rowL_len]; exact hkl)
          have hgL : vL = .slice (some ⟨gL, 0, none⟩) (rowL d.ms d.nds.length 0).length cL := hgL
          have cN0 := cell_blk X.cs 5 (v := vN) rfl
          have cL0 := cell_blk X.cs 7 (v := vL) rfl
          rw [hgN, LLn, HM.out] at cN0
          rw [hgL, rowL_len, HM.out] at cL0
          have hkk : d.nds.length - 1 = k := by rw [HM.out, HKM.out]; rfl
          obtain ⟨u0, hu0⟩ : ∃ u, L[k]? = some u := ⟨_, List.getElem?_eq_getElem (by rw [LLn, HM.out, HKM.out]; omega)⟩
          obtain ⟨cNk, fNk⟩ := hcN k (.slice u0.1 u0.2.1 u0.2.2) (by show (svs L)[k]? = _; simp [svs, hu0])
          obtain ⟨cLk, fLk⟩ := hcL k (.int .i64 ((lnOf d.ms k 0 : Nat) : Int)) (by show (ivs (rowL d.ms d.nds.length 0))[k]? = _; unfold ivs; rw [List.getElem?_map, rowL_get d.ms 0 (by rw [HM.out, HKM.out]; omega)]; rfl)
          have hgg : gN ≠ gL := fun e => X.1.rws.ap 2 4 _ _ rfl rfl (by decide) gN (by show Value.ownBlock vN = _; rw [hgN]; rfl) (by show Value.ownBlock vL = _; rw [hgL, e]; rfl)
          have hDN : D ≠ gN := X.1.rws.farI X.1.blk draft_ty (i := 2) rfl (g := gN) (by show Value.ownBlock vN = _; rw [hgN]; rfl)
          obtain ⟨a', hsl, ha'⟩ := HSL.out
          have HA' := hide ha'
          have km : (k : Int) < m := by have := HKM.out; omega
          have HDM := hide (fun h0 => df_men0 X HI.out h0 hgN hgL (a', ws.length, c - 1) ws rfl (rds_tail HR.out HA'.out) true d.ha)
          rw [hkk] at HDM
          have hkk2 : m - 1 = k := by rw [HKM.out]; rfl
          rw [hkk2] at HST
          clear hkk hkk2
          clear X hcN hcL hgN hgL hu0 hall HD HX ha' LLn hkl
          generalize hwn : ws.length = wn at *
          by_cases hz0 : lnOf d.ms k 0 = 0
          · have hR := HST.out
            rw [if_pos ⟨HNE.out, HW0.out, HAL.out, hz0⟩] at hR
            subst hR
            have hDF := HDM.out hz0
            have HDF := hide hDF
            rw [hz0] at cLk
            have cL1 := (keep_cell wr gN k (.slice a' wn (c - 1))).cell cL0 (fun e => hDN e)
            have cLk1 := (keep_cell wr gN k (.slice a' wn (c - 1))).cell cLk (fun e => hgg e.symm)
            have fLk1 : (wr.setCell ⟨gN, k, none⟩ (.slice a' wn (c - 1))).frozen? ⟨gL, k, none⟩ = false := frozen_blk ((keep_cell wr gN k (.slice a' wn (c - 1))).blk hbL (fun e => hgg e.symm)) k
            have hn1 : (n : Int) = wn + 1 := by have := HNL.out; omega
            have hnn : n = wn + 1 := by omega
            clear HDM hDF hz0 hbL
            subst hnn
            go_upto_region 29 with fail
            go_region
            go_wp2_with fail
            go_ret
            exact ⟨rfl, (fun d' h => by cases h; exact HDF.out.1.below (Below.refl _ _).drew), HDF.out.2.trans (Fq.ofBelow (Below.refl _ _).drew)⟩
          · obtain rfl : R = none := by rw [HST.out, if_neg (fun h => hz0 h.2.2.2)]
            have hzz : (((lnOf d.ms k 0 : Nat) : Int) != 0) = true := by simp; omega
            generalize lnOf d.ms k 0 = ln at *
            clear HDM hz0 HST
            go_wp2_with fail
            go_ret
            exact TkEnd.no
set_option maxRecDepth 100000 in
set_option maxHeartbeats 4000000 in
theorem takes_men1 (B D : Nat) (d : Dr) (p : Nat) (a : Option Addr) (c : Nat) (ws : List (List UInt8)) (w : World) (hD : DfAt B w D d) (hI : DI d p) (hr : RdS w a (kwAfter :: ws)) (hz : ∀ x ∈ kwAfter :: ws, x.length ≤ 65536) (hl : (kwAfter :: ws).length ≤ 1000000) (hcp : (kwAfter :: ws).length ≤ c) (h0 : d.place ≠ 0) (hn : d.nds.length ≤ 1000000) :
    Calls Tryz.prog 25 #[.pointer (some ⟨D, 0, none⟩), .slice a (kwAfter :: ws).length c, .int .i64 (p : Nat)] w (TkEnd B D (step d p (kwAfter :: ws)) w) := by
  have HST : Hid (step d p (kwAfter :: ws) = if d.nds ≠ [] ∧ ws ≠ [] ∧ ws.all nmL = true ∧ lnOf d.ms (d.nds.length - 1) 1 = 0 then some { d with hn := d.hn, ha := true, ms := d.ms ++ [⟨p, d.nds.length - 1, 1, ws⟩] } else none) := men_doc hI 1 (.inr rfl) ws
  obtain ⟨vn, vl, vN, vA, vL, vP, L, M, X⟩ := hD
  have c3 := cell_blk X.cs 3 (v := .int .i64 (d.place : Int)) rfl
  have i3 : ((d.place : Int) == 0) = false := by simp; omega
  have c2 := cell_blk X.cs 2 (v := vn) rfl
  obtain ⟨va, vc, hvn⟩ := own_shape (X.1.rws.own 0 _ rfl)
  have hvn : vn = .slice va (d.nds.map fun x => (no x).q).length vc := hvn
  subst hvn
  simp only [List.length_map] at c2
  obtain ⟨g, off, rfl, _, hc⟩ := hr.resolve_left (by simp)
  have e0 := hc 0 kwAfter rfl
  rw [Nat.add_zero] at e0
  have q1 : ((ba kwAfter).toList == [110, 111, 100, 101]) = false := (string_lit kwAfter kwNode).trans (decide_eq_false (by decide))
  have q2 : ((ba kwAfter).toList == [110, 101, 101, 100, 115]) = false := (string_lit kwAfter kwNeeds).trans (decide_eq_false (by decide))
  have q3 : ((ba kwAfter).toList == [97, 102, 116, 101, 114]) = true := (string_lit kwAfter kwAfter).trans (decide_eq_true (by decide))
  have HC := hide hc
  have HZ := hide hz
  have HR := hide hr
  have HX := hide X
  have HI := hide hI
  generalize hkn : ba kwAfter = kn at *
  have HNM := hide (fun x (h : x ∈ ws) W => refName_any x W (hz x (List.mem_cons_of_mem _ h)))
  have HSL := hide (slice_one g off ws.length c (by simpa using hcp))
  have i0 : (0 : Int) < ((kwAfter :: ws).length : Nat) := by simp
  have hlen : (kwAfter :: ws).length = ws.length + 1 := rfl
  generalize hm : d.nds.length = m at *
  have HM := hide hm
  generalize hN : (kwAfter :: ws).length = n at *
  clear hc hr hz X hI hkn hm
  generalize step d p (kwAfter :: ws) = R at *
  by_cases hm0 : m = 0
  · obtain rfl : R = none := by rw [HST.out, if_neg (fun h => h.1 (List.eq_nil_of_length_eq_zero (by rw [HM.out]; exact hm0)))]
    subst hm0
    clear HSL
    go_enter Tryz.func25, Tryz.ntmps25
    go_wp2_with fail
    go_ret
    exact TkEnd.no
  · by_cases hw0 : ws.length = 0
    · obtain rfl : R = none := by rw [HST.out, if_neg (fun h => h.2.1 (List.eq_nil_of_length_eq_zero hw0))]
      have i2 : (n : Int) < 2 := by omega
      have i4 : ¬ ((m : Int) - 1 < 0) := by omega
      have i5 : ¬ ((m : Int) < 1) := by omega
      clear HSL hw0 hm0 hlen
      go_enter Tryz.func25, Tryz.ntmps25
      go_wp2_with fail
      go_ret
      exact TkEnd.no
    · have i2 : ¬ (n : Int) < 2 := by omega
      have i4 : ¬ ((m : Int) - 1 < 0) := by omega
      have i5 : ¬ ((m : Int) < 1) := by omega
      obtain ⟨k, hk⟩ : ∃ k : Nat, m = k + 1 := ⟨m - 1, by omega⟩
      have hki : (m : Int) - 1 = k := by omega
      have HNL := hide hlen
      have HW0 : Hid (ws ≠ []) := fun e => hw0 (by rw [e]; rfl)
      have HNE : Hid (d.nds ≠ []) := fun e => hm0 (by rw [← HM.out, e]; rfl)
      have HKM := hide hk
      clear hw0 hm0 hlen hk
      go_enter Tryz.func25, Tryz.ntmps25
      go_wp2_with fail
      go_loopw [13] (fun iv wr => ∃ i : Nat, iv = .int .i64 (i : Nat) ∧ 1 ≤ i ∧ i ≤ n ∧ wr = w ∧ Hid ((ws.take (i - 1)).all nmL = true)) (fun iv _ => n - (intOf iv).toNat)
      case atStart => exact ⟨1, rfl, Nat.le_refl _, by omega, rfl, (by show (ws.take (1 - 1)).all nmL = true; simp)⟩
      case round =>
        obtain ⟨i, rfl, hi1, hi, rfl, HD⟩ := hrel
        by_cases hlt : i < n
        · obtain ⟨x, hx⟩ : ∃ x, ws[i - 1]? = some x := ⟨_, List.getElem?_eq_getElem (by have := HNL.out; omega)⟩
          have cx := HC.out i x (by rw [show i = (i - 1) + 1 by omega, List.getElem?_cons_succ]; exact hx)
          have NX := hide (HNM.out x (List.mem_of_getElem? hx) wr)
          have ii : (i : Int) < n := by omega
          have htk : ws.take (i + 1 - 1) = ws.take (i - 1) ++ [x] := by rw [show i + 1 - 1 = (i - 1) + 1 by omega]; exact Gr.take_snoc ws (i - 1) x hx
          cases hb : nmL x with
          | false =>
            obtain rfl : R = none := by
              rw [HST.out, if_neg]
              rintro ⟨_, _, h3, _⟩
              have := List.all_eq_true.1 h3 x (List.mem_of_getElem? hx)
              rw [hb] at this
              cases this
            rw [hb] at NX
            clear hb hx htk
            go_wp2_with (go_at_call 45; refine NX.out.mono ?_; rintro e wz ⟨rfl, rfl⟩)
            go_ret
            exact TkEnd.no
          | true =>
            rw [hb] at NX
            have HD2 : Hid ((ws.take (i + 1 - 1)).all nmL = true) := by show _ = _; rw [htk, List.all_append, HD.out]; simp [hb]
            clear hb hx htk HD
            go_wp2_with (go_at_call 45; refine NX.out.mono ?_; rintro e wz ⟨rfl, rfl⟩)
            go_roundw
            · exact ⟨i + 1, rfl, by omega, by omega, trivial, HD2.out⟩
            · show n - ((i : Int) + 1).toNat < n - (i : Int).toNat
              omega
        · have hall : ws.all nmL = true := by
            have := HD.out
            rwa [List.take_of_length_le (by have := HNL.out; omega)] at this
          have HAL := hide hall
          have ii : ¬ (i : Int) < n := by omega
          have X := HX.out
          have hkl : 0 < d.nds.length := by rw [HM.out, HKM.out]; omega
          have LLn : M.length = d.nds.length := (X.2.2.1).trans (rowN_len ..)
          obtain ⟨gN, cN, hgN, _, hcN⟩ := own_some (X.1.rws.own 3 _ rfl) (by show 0 < M.length; rw [LLn]; exact hkl)
          have hgN : vA = .slice (some ⟨gN, 0, none⟩) M.length cN := hgN
          obtain ⟨gL, cL, hgL, ⟨curL, hbL⟩, hcL⟩ := own_some (X.1.rws.own 5 _ rfl) (by show 0 < (rowL d.ms d.nds.length 1).length; rw [rowL_len]; exact hkl)
          have hgL : vP = .slice (some ⟨gL, 0, none⟩) (rowL d.ms d.nds.length 1).length cL := hgL
          have cN0 := cell_blk X.cs 6 (v := vA) rfl
          have cL0 := cell_blk X.cs 8 (v := vP) rfl
          rw [hgN, LLn, HM.out] at cN0
          rw [hgL, rowL_len, HM.out] at cL0
          have hkk : d.nds.length - 1 = k := by rw [HM.out, HKM.out]; rfl
          obtain ⟨u0, hu0⟩ : ∃ u, M[k]? = some u := ⟨_, List.getElem?_eq_getElem (by rw [LLn, HM.out, HKM.out]; omega)⟩
          obtain ⟨cNk, fNk⟩ := hcN k (.slice u0.1 u0.2.1 u0.2.2) (by show (svs M)[k]? = _; simp [svs, hu0])
          obtain ⟨cLk, fLk⟩ := hcL k (.int .i64 ((lnOf d.ms k 1 : Nat) : Int)) (by show (ivs (rowL d.ms d.nds.length 1))[k]? = _; unfold ivs; rw [List.getElem?_map, rowL_get d.ms 1 (by rw [HM.out, HKM.out]; omega)]; rfl)
          have hgg : gN ≠ gL := fun e => X.1.rws.ap 3 5 _ _ rfl rfl (by decide) gN (by show Value.ownBlock vA = _; rw [hgN]; rfl) (by show Value.ownBlock vP = _; rw [hgL, e]; rfl)
          have hDN : D ≠ gN := X.1.rws.farI X.1.blk draft_ty (i := 3) rfl (g := gN) (by show Value.ownBlock vA = _; rw [hgN]; rfl)
          obtain ⟨a', hsl, ha'⟩ := HSL.out
          have HA' := hide ha'
          have km : (k : Int) < m := by have := HKM.out; omega
          have HDM := hide (fun h0 => df_men1 X HI.out h0 hgN hgL (a', ws.length, c - 1) ws rfl (rds_tail HR.out HA'.out) d.hn true)
          rw [hkk] at HDM
          have hkk2 : m - 1 = k := by rw [HKM.out]; rfl
          rw [hkk2] at HST
          clear hkk hkk2
          clear X hcN hcL hgN hgL hu0 hall HD HX ha' LLn hkl
          generalize hwn : ws.length = wn at *
          by_cases hz0 : lnOf d.ms k 1 = 0
          · have hR := HST.out
            rw [if_pos ⟨HNE.out, HW0.out, HAL.out, hz0⟩] at hR
            subst hR
            have hDF := HDM.out hz0
            have HDF := hide hDF
            rw [hz0] at cLk
            have cL1 := (keep_cell wr gN k (.slice a' wn (c - 1))).cell cL0 (fun e => hDN e)
            have cLk1 := (keep_cell wr gN k (.slice a' wn (c - 1))).cell cLk (fun e => hgg e.symm)
            have fLk1 : (wr.setCell ⟨gN, k, none⟩ (.slice a' wn (c - 1))).frozen? ⟨gL, k, none⟩ = false := frozen_blk ((keep_cell wr gN k (.slice a' wn (c - 1))).blk hbL (fun e => hgg e.symm)) k
            have hn1 : (n : Int) = wn + 1 := by have := HNL.out; omega
            have hnn : n = wn + 1 := by omega
            clear HDM hDF hz0 hbL
            subst hnn
            go_upto_region 34 with fail
            go_region
            go_wp2_with fail
            go_ret
            exact ⟨rfl, (fun d' h => by cases h; exact HDF.out.1.below (Below.refl _ _).drew), HDF.out.2.trans (Fq.ofBelow (Below.refl _ _).drew)⟩
          · obtain rfl : R = none := by rw [HST.out, if_neg (fun h => hz0 h.2.2.2)]
            have hzz : (((lnOf d.ms k 1 : Nat) : Int) != 0) = true := by simp; omega
            generalize lnOf d.ms k 1 = ln at *
            clear HDM hz0 HST
            go_wp2_with fail
            go_ret
            exact TkEnd.no
/-- takes, whatever the line -/
theorem takes_any (B D : Nat) (d : Dr) (p : Nat) (a : Option Addr) (c : Nat) (ws : List (List UInt8)) (w : World) (hD : DfAt B w D d) (hI : DI d p) (hr : RdS w a ws) (hne : ws ≠ []) (hz : ∀ x ∈ ws, x.length ≤ 65536) (hl : ws.length ≤ 1000000) (hcp : ws.length ≤ c) (hn : d.nds.length < 1000000) :
    Calls Tryz.prog 25 #[.pointer (some ⟨D, 0, none⟩), .slice a ws.length c, .int .i64 (p : Nat)] w (TkEnd B D (step d p ws) w) := by
  by_cases h0 : d.place = 0
  · exact takes_begin B D d p a c ws w hD hI hr hne hz h0
  · cases ws with
    | nil => exact absurd rfl hne
    | cons f r =>
      by_cases h1 : f = kwNode
      · subst h1; exact takes_node B D d p a c r w hD hI hr hz hl h0 hn
      · by_cases h2 : f = kwNeeds
        · subst h2; exact takes_men0 B D d p a c r w hD hI hr hz hl hcp h0 (by omega)
        · by_cases h3 : f = kwAfter
          · subst h3; exact takes_men1 B D d p a c r w hD hI hr hz hl hcp h0 (by omega)
          · exact takes_none B D d p a c f r w hD hr h0 h1 h2 h3 (by omega)
end Sp
end U
end Go.Proofs.YtfoahfgehmghcaaGreatDoor
