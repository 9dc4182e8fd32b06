import Derived.Test.YtilpidioengnbaaDTw
/- DiskPlays: the document's Spoil (ag_gen.py, out of DTx.part). -/
namespace Go.Proofs.Ytilpidioengnbaa
namespace DP
open Go.RowKit

theorem LsIn.stayG {S : Nat → Prop} {w w' : World} {v : Value} {L : List Sv} (h : LsIn S w v L) {g : Nat} (hk : Keep (fun b => b = g) w w') (hn : ¬ Bl v L g) : LsIn S w' v L :=
  ⟨ownsRow_keep h.row hk fun b e (e2 : b = g) => hn (.inl (e2 ▸ e)), fun e he => (h.by8 e he).keep hk fun b e2 (e3 : b = g) => hn (.inr ⟨e, he, e3 ▸ e2⟩), h.sep, h.sv, h.sb⟩
theorem Bl_set {v nv : Value} {L : List Sv} {i g : Nat} {k : Int} {nb : List Nat} (h : Bl v (L.set i ⟨k, nb, nv⟩) g) : Bl v L g ∨ nv.ownBlock = some g := by
  rcases h with e | ⟨x, hx, e⟩
  · exact .inl (.inl e)
  · rcases List.mem_or_eq_of_mem_set hx with hx | rfl
    · exact .inl (.inr ⟨x, hx, e⟩)
    · exact .inr e
theorem RAt.setT {S : Nat → Prop} {w w1 : World} {P cap : Nat} {vt vs nv : Value} {lt ls : List Sv} {left : Option Nat} {off : Bool} {g i : Nat} {e : Sv} {nb : List Nat} (h : RAt S w P cap vt lt vs ls left off) (hg : vt.ownBlock = some g) (hi : lt[i]? = some e) (k1 : Keep (fun _ => False) w w1) (hn : Row w1 nv nb) (hf : ∀ g, nv.ownBlock = some g → w.heap.size ≤ g) (hS : ∀ i, w.heap.size ≤ i → S i) :
    RAt S (w1.setCell ⟨g, i * 2 + 1, none⟩ nv) P cap vt (lt.set i ⟨e.k, nb, nv⟩) vs ls left off ∧ Keep S w (w1.setCell ⟨g, i * 2 + 1, none⟩ nv) := by
  have h1 := h.stay k1 (fun _ _ _ f => f)
  have kc := keep_cell w1 g (i * 2 + 1) nv
  have hPg : ¬ P = g := fun e => h1.t.neP h1.blk (.inl (e ▸ hg))
  refine ⟨⟨kc.blk h1.blk hPg, h.sp, h.t.setv hg hi k1 hn hf hS, h1.s.stayG kc (h1.ap g (.inl hg)), fun b hb hb2 => ?_⟩, (k1.mono fun _ f => f.elim).more (Keep.setCell _ (h.t.sv g hg) _)⟩
  rcases Bl_set hb with hb | hb
  · exact h.ap b hb hb2
  · have h2 := hf b hb
    have h3 := h.s.lt hb2
    omega
theorem RAt.setS {S : Nat → Prop} {w w1 : World} {P cap : Nat} {vt vs nv : Value} {lt ls : List Sv} {left : Option Nat} {off : Bool} {g i : Nat} {e : Sv} {nb : List Nat} (h : RAt S w P cap vt lt vs ls left off) (hg : vs.ownBlock = some g) (hi : ls[i]? = some e) (k1 : Keep (fun _ => False) w w1) (hn : Row w1 nv nb) (hf : ∀ g, nv.ownBlock = some g → w.heap.size ≤ g) (hS : ∀ i, w.heap.size ≤ i → S i) :
    RAt S (w1.setCell ⟨g, i * 2 + 1, none⟩ nv) P cap vt lt vs (ls.set i ⟨e.k, nb, nv⟩) left off ∧ Keep S w (w1.setCell ⟨g, i * 2 + 1, none⟩ nv) := by
  have h1 := h.stay k1 (fun _ _ _ f => f)
  have kc := keep_cell w1 g (i * 2 + 1) nv
  have hPg : ¬ P = g := fun e => h1.s.neP h1.blk (.inl (e ▸ hg))
  refine ⟨⟨kc.blk h1.blk hPg, h.sp, h1.t.stayG kc (fun hb => h1.ap g hb (.inl hg)), h.s.setv hg hi k1 hn hf hS, fun b hb hb2 => ?_⟩, (k1.mono fun _ f => f.elim).more (Keep.setCell _ (h.s.sv g hg) _)⟩
  rcases Bl_set hb2 with hb2 | hb2
  · exact h.ap b hb hb2
  · have h2 := hf b hb2
    have h3 := h.t.lt hb
    omega
theorem modS_no {l : List Sg} {k : Int} (h : lookS l k = none) (f : List Nat → List Nat) : modS l k f = l := by
  unfold modS
  rw [lookS_none] at h
  conv => rhs; rw [← List.map_id l]
  refine List.map_congr_left fun e he => ?_
  rw [if_neg (h e he)]
  rfl
theorem modS_same {l : List Sg} (hs : SrtS l) {k : Int} {b : List Nat} (h : lookS l k = some b) (f : List Nat → List Nat) (hf : f b = b) : modS l k f = l := by
  unfold modS
  conv => rhs; rw [← List.map_id l]
  refine List.map_congr_left fun e he => ?_
  split
  · rename_i hk
    have h1 := hs.mem he
    rw [hk, h] at h1
    injection h1 with h1
    rw [← h1, hf, h1]
    rfl
  · rfl
theorem row_fz {w : World} {B n : Nat} {v : Value} {xs : List Value} (h : w.ownsRow B 77 2 v n xs) {g : Nat} (hg : v.ownBlock = some g) (j : Nat) : w.frozen? ⟨g, j, none⟩ = false := by
  rcases h.2 with ⟨rfl, _⟩ | ⟨g', cap, cur, rfl, _, h2, _⟩
  · cases hg
  · have e : some g' = some g := hg
    injection e with e
    subst e
    exact frozen_blk h2 j

set_option maxRecDepth 100000 in
set_option maxHeartbeats 4000000 in
theorem refSpoil_any (S : Nat → Prop) (w : World) (P : Nat) (r : Rf) (k a : Int) (m : Nat) (h : RIn S w P r) (hs1 : SrtS r.th) (hs2 : SrtS r.sf) (hS : ∀ i, w.heap.size ≤ i → S i) (hm : m < 256)
    (_h1 : -9223372036854775808 ≤ a) (_h2 : a ≤ 9223372036854775807) (hlen : r.th.length ≤ 1099511627776) (hsf : r.sf.length ≤ 1099511627776) (hby : ∀ e ∈ r.th, e.2.length ≤ 67108864) (hby2 : ∀ e ∈ r.sf, e.2.length ≤ 67108864) :
    Calls Try.prog 41 #[.pointer (some ⟨P, 0, none⟩), .int .i64 k, .int .i64 a, .int .u8 (m : Nat)] w (DidR S w P (r.spoil k a m)) := by
  have HSame := hide h
  obtain ⟨vt, lt, vs, ls, h, ht, hs⟩ := h
  obtain ⟨rc, rth, rsf, rl, ro⟩ := r
  dsimp only at h ht hs hs1 hs2 hlen hsf hby hby2
  have c4 := cell_blk h.blk 4 (v := .bool ro) rfl
  obtain ⟨ta, tc, hvt, _⟩ := ownsRow_sh h.t.row
  subst hvt
  obtain ⟨sa, sc, hvs, _⟩ := ownsRow_sh h.s.row
  subst hvs
  have c1 := cell_blk h.blk 1 (v := .slice ta lt.length tc) rfl
  have hll : lt.length ≤ 1099511627776 := by rw [ht, List.length_map] at hlen; exact hlen
  have hls : ls.length ≤ 1099511627776 := by rw [hs, List.length_map] at hsf; exact hsf
  have HPl := hide (place_any _ lt k w h.t.row (by omega))
  have HD := hide h
  have HT := hide ht
  have HSs := hide hs
  have HSf := hide hS
  have HB2 := hide hby2
  have HS1 := hide hs1
  have HS2 := hide hs2
  have HLs := hide hls
  unfold Rf.spoil
  dsimp only
  cases ro with
  | true =>
    clear h ht hs hS hs1 hs2 hby hby2 hlen hsf hll hls
    rw [if_pos rfl]
    unfold DidR
    go_enter Try.func41, Try.ntmps41
    go_wp2
    go_ret
    exact ⟨rfl, HSame.out, Keep.refl _ _⟩
  | false =>
    rw [if_neg (by decide)]
    have hlk := idxK_look (L := lt) (k := k)
    rw [← ht] at hlk
    cases hi : idxK lt k with
    | none =>
      rw [atK_none hi] at HPl
      have hN := hlk.1.1 hi
      rw [hN]
      dsimp only
      clear hN h ht hs hS hs1 hs2 hby hby2 hlen hsf hll hls hlk hi
      unfold DidR
      go_enter Try.func41, Try.ntmps41
      go_wp2_with (go_at_call 54; refine HPl.out.mono ?_; rintro e w1 ⟨rfl, hw⟩; have hw := hw.symm; subst hw)
      go_ret
      exact ⟨rfl, HSame.out, Keep.refl _ _⟩
    | some i =>
      rw [atK_some hi] at HPl
      obtain ⟨e, he, hek, hle⟩ := hlk.2 i hi
      have hil := (List.getElem?_eq_some_iff.1 he).1
      have hlt' : (i : Int) < (lt.length : Int) := by omega
      have hn0 : ¬ (i : Int) < 0 := by omega
      obtain ⟨g, cap, hv, _, z1⟩ := row_at h.t.row he
      injection hv with hv1 _ hv2
      subst hv1 hv2
      have hem := List.mem_of_getElem? he
      have hrb := h.t.by8 e hem
      have hbl : e.b.length ≤ 67108864 := by
        have h1 := hby e.sg (by rw [ht]; exact List.mem_map_of_mem hem)
        have h2 : e.sg.2.length = e.b.length := rfl
        omega
      rw [hle]
      dsimp only
      have HE := hide he
      have HRB := hide hrb
      have HLE := hide hle
      obtain ⟨ek, eb, ev⟩ := e
      dsimp only at z1 hbl hek ⊢
      subst hek
      obtain ⟨ba, bc, hev, _⟩ := ownsRow_sh hrb.1
      dsimp only at hev
      subst hev
      clear h ht hs hS hs1 hs2 hby hby2 hlen hsf hll hls hlk hi he hle hrb hem hil
      by_cases ha0 : a < 0
      · rw [if_pos (.inl ha0)]
        unfold DidR
        go_enter Try.func41, Try.ntmps41
        go_wp2_with (go_at_call 54; refine HPl.out.mono ?_; rintro e w1 ⟨rfl, hw⟩; have hw := hw.symm; subst hw)
        go_ret
        exact ⟨rfl, HSame.out, Keep.refl _ _⟩
      · by_cases ha1 : (eb.length : Int) ≤ a
        · rw [if_pos (.inr ha1)]
          have ha1' : a ≥ (eb.length : Int) := ha1
          unfold DidR
          go_enter Try.func41, Try.ntmps41
          go_wp2_with (go_at_call 54; refine HPl.out.mono ?_; rintro e w1 ⟨rfl, hw⟩; have hw := hw.symm; subst hw)
          go_ret
          exact ⟨rfl, HSame.out, Keep.refl _ _⟩
        · rw [if_neg (by omega)]
          obtain ⟨q, rfl⟩ : ∃ q : Nat, a = q := ⟨a.toNat, by omega⟩
          have ha1' : ¬ (q : Int) ≥ (eb.length : Int) := by omega
          have hq : q < eb.length := by omega
          rw [Int.toNat_natCast]
          have HTu := hide fun W (kk : Keep (fun _ => False) w W) => turned_any W _ eb q m (HRB.out.keep kk fun _ _ f => f) hq hm (by omega)
          have HC1 := hide c1
          have HZ1 := hide z1
          have HBL := hide hbl
          have HAI := hide ha1
          have HQ := hide hq
          clear ha1 hbl hq
          unfold DidR
          go_enter Try.func41, Try.ntmps41
          go_upto_region 8 with (go_at_call 54; refine HPl.out.mono ?_; rintro e w1 ⟨rfl, hw⟩; have hw := hw.symm; subst hw)
          have HS8 : Hid (∀ W, Keep (fun _ => False) w W → (fun W' : World => W'.cell? ⟨P, 1, none⟩ = some (.slice (some ⟨g, 0, none⟩) lt.length tc) ∧ W'.cell? ⟨g, i * 2 + 1, none⟩ = some (.slice ba eb.length bc)) W) := fun W kk => ⟨kk.cell HC1.out fun f => f, kk.cell HZ1.out fun f => f⟩
          refine RL.wp_region_held_last (S := fun W' : World => W'.cell? ⟨P, 1, none⟩ = some (.slice (some ⟨g, 0, none⟩) lt.length tc) ∧ W'.cell? ⟨g, i * 2 + 1, none⟩ = some (.slice ba eb.length bc)) rfl (by kernel_rfl) (by kernel_rfl) (HS8.out _ (Keep.drew _ _)) (fun hHeld => ?_)
          change wpAnyH _ _ _ _ _ 19 (Array.replicate 19 false) _ _
          simp only [List.dropLast, List.getLast, List.cons_append, List.nil_append, RL.still]
          refine wpAnyH_take (i := 0) (oi := _) (v := ?_) rfl (by kernel_rfl) (by kernel_rfl) (by kernel_rfl) (fun _ _ _ h => h) (Or.inl ⟨by rfl, ?_⟩) (by assumption) ?_
          rotate_left
          · (intro w hSw; (try dsimp only at hSw); go_simp)
            all_goals with_reducible rfl
          go_simp
          refine wpAnyH_take (i := 1) (oi := _) (v := ?_) rfl (by kernel_rfl) (by kernel_rfl) (by kernel_rfl) (fun _ _ _ h => h) (Or.inl ⟨by rfl, ?_⟩) (by assumption) ?_
          rotate_left
          · (intro w hSw; (try dsimp only at hSw); go_simp)
            all_goals with_reducible rfl
          go_simp
          refine wpAnyH_take (i := 2) (oi := _) (v := ?_) rfl (by kernel_rfl) (by kernel_rfl) (by kernel_rfl) (fun _ _ _ h => h) (Or.inl ⟨by rfl, ?_⟩) (by assumption) ?_
          rotate_left
          · (intro w hSw; (try dsimp only at hSw); go_simp)
            all_goals with_reducible rfl
          go_simp
          refine wpAnyH_take (i := 3) (oi := _) (v := ?_) rfl (by kernel_rfl) (by kernel_rfl) (by kernel_rfl) (fun _ _ _ h => h) (Or.inl ⟨by rfl, ?_⟩) (by assumption) ?_
          rotate_left
          · (intro w hSw; (try dsimp only at hSw); go_simp)
            all_goals with_reducible rfl
          go_simp
          refine wpAnyH_take (i := 4) (oi := _) (v := ?_) rfl (by kernel_rfl) (by kernel_rfl) (by kernel_rfl) (fun _ _ _ h => h) (Or.inl ⟨by rfl, ?_⟩) (by assumption) ?_
          rotate_left
          · (intro w hSw; (try dsimp only at hSw); go_simp)
            all_goals with_reducible rfl
          go_simp
          refine wpAnyH_take (i := 5) (oi := _) (v := ?_) rfl (by kernel_rfl) (by kernel_rfl) (by kernel_rfl) (fun _ _ _ h => h) (Or.inl ⟨by rfl, ?_⟩) (by assumption) ?_
          rotate_left
          · (intro w hSw; (try dsimp only at hSw); go_simp)
            all_goals with_reducible rfl
          go_simp
          refine wpAnyH_take (i := 6) (oi := _) (v := ?_) rfl (by kernel_rfl) (by kernel_rfl) (by kernel_rfl) (fun _ _ _ h => h) (Or.inl ⟨by rfl, ?_⟩) (by assumption) ?_
          rotate_left
          · (intro w hSw; (try dsimp only at hSw); go_simp)
            all_goals with_reducible rfl
          go_simp
          refine wpAnyH_take (i := 7) (oi := _) (v := ?_) rfl (by kernel_rfl) (by kernel_rfl) (by kernel_rfl) (fun _ _ _ h => h) (Or.inl ⟨by rfl, ?_⟩) (by assumption) ?_
          rotate_left
          · (intro w hSw; (try dsimp only at hSw); go_simp)
            all_goals with_reducible rfl
          go_simp
          refine wpAnyH_take (i := 8) (oi := _) (v := ?_) rfl (by kernel_rfl) (by kernel_rfl) (by kernel_rfl) (fun _ _ _ h => h) (Or.inl ⟨by rfl, ?_⟩) (by assumption) ?_
          rotate_left
          · (intro w hSw; (try dsimp only at hSw); go_simp)
            all_goals with_reducible rfl
          go_simp
          refine wpAnyH_take (i := 9) (oi := _) (v := ?_) rfl (by kernel_rfl) (by kernel_rfl) (by kernel_rfl) (fun _ _ _ h => h) (Or.inl ⟨by rfl, ?_⟩) (by assumption) ?_
          rotate_left
          · (intro w hSw; (try dsimp only at hSw); go_simp)
            all_goals with_reducible rfl
          go_simp
          refine wpAnyH_take (i := 10) (oi := _) (v := ?_) rfl (by kernel_rfl) (by kernel_rfl) (by kernel_rfl) (fun _ _ _ h => h) (Or.inl ⟨by rfl, ?_⟩) (by assumption) ?_
          rotate_left
          · (intro w hSw; (try dsimp only at hSw); go_simp)
            all_goals with_reducible rfl
          go_simp
          refine wpAnyH_take (i := 11) (oi := _) (v := ?_) rfl (by kernel_rfl) (by kernel_rfl) (by kernel_rfl) (fun _ _ _ h => h) (Or.inl ⟨by rfl, ?_⟩) (by assumption) ?_
          rotate_left
          · (intro w hSw; (try dsimp only at hSw); go_simp)
            all_goals with_reducible rfl
          go_simp
          refine wpAnyH_take (i := 12) (oi := _) (v := ?_) rfl (by kernel_rfl) (by kernel_rfl) (by kernel_rfl) (fun _ _ _ h => h) (Or.inl ⟨by rfl, ?_⟩) (by assumption) ?_
          rotate_left
          · (intro w hSw; (try dsimp only at hSw); go_simp)
            all_goals with_reducible rfl
          go_simp
          refine wpAnyH_take (i := 13) (oi := _) (v := ?_) rfl (by kernel_rfl) (by kernel_rfl) (by kernel_rfl) (fun _ _ _ h => h) (Or.inl ⟨by rfl, ?_⟩) (by assumption) ?_
          rotate_left
          · (intro w hSw; (try dsimp only at hSw); go_simp)
            all_goals with_reducible rfl
          go_simp
          refine wpAnyH_take (i := 14) (oi := _) (v := ?_) rfl (by kernel_rfl) (by kernel_rfl) (by kernel_rfl) (fun _ _ _ h => h) (Or.inl ⟨by rfl, ?_⟩) (by assumption) ?_
          rotate_left
          · (intro w hSw; (try dsimp only at hSw); go_simp)
            all_goals with_reducible rfl
          go_simp
          have kD0 : Keep (fun _ => False) w w.drew := Keep.drew _ _
          refine wpAnyH_ready (rs := [15]) (by kernel_rfl) (by simp) ?_
          refine AllReadyH.cons (o := _) rfl (fun K hK => ?_) AllReadyH.nil
          rw [if_pos (by rfl)]
          go_simp
          go_at_call 59
          refine (HTu.out _ kD0).mono ?_
          rintro e w1 ⟨nv, rfl, hnr, hnn, hnk⟩
          obtain ⟨na, nc, hnv, _⟩ := ownsRow_sh hnr.1
          generalize (flip eb q m).length = nl at hnv
          subst hnv
          have kC : Keep (fun _ => False) w w1 := kD0.more hnk
          refine hK.out _ _ (HS8.out _ kC) (fun hHeld => ?_)
          clear hK K
          try simp only [Act.put, List.setIfInBounds_toArray]
          refine wpAnyH_take (i := 16) (oi := _) (v := ?_) rfl (by kernel_rfl) (by kernel_rfl) (by kernel_rfl) (fun _ _ _ h => h) (Or.inl ⟨by rfl, ?_⟩) (by assumption) ?_
          rotate_left
          · (intro w hSw; (try dsimp only at hSw); go_simp)
            all_goals with_reducible rfl
          go_simp
          refine wpAnyH_take (i := 17) (oi := _) (v := ?_) rfl (by kernel_rfl) (by kernel_rfl) (by kernel_rfl) (fun _ _ _ h => h) (Or.inl ⟨by rfl, ?_⟩) (by assumption) ?_
          rotate_left
          · (intro w hSw; (try dsimp only at hSw); go_simp)
            all_goals with_reducible rfl
          go_simp
          refine wpAnyH_take (i := 18) (oi := _) (v := ?_) rfl (by kernel_rfl) (by kernel_rfl) (by kernel_rfl) (fun _ _ _ h => h) (Or.inl ⟨by rfl, ?_⟩) (by assumption) ?_
          rotate_left
          · (intro w hSw; (try dsimp only at hSw); go_simp)
            all_goals with_reducible rfl
          go_simp
          refine wpAnyH_done (by kernel_rfl) ?_ _
          simp only [RL.endQ]
          have d1 := (HS8.out _ kC).2
          have f1 := row_fz (ownsRow_keep HD.out.t.row kC fun _ _ f => f) rfl (i * 2 + 1)
          unfold Oper.wp
          go_simp
          have hX := HD.out.setT (e := ⟨ek, eb, _⟩) rfl HE.out kC hnr hnn HSf.out
          obtain ⟨w2, hw2⟩ : ∃ w2, w2 = w1.setCell ⟨g, i * 2 + 1, none⟩ (.slice na nl nc) := ⟨_, rfl⟩
          rw [← hw2] at hX ⊢
          clear hw2 d1 f1 hnr hnn hnk kC kD0 hHeld HTu HS8
          obtain ⟨hX, hXk⟩ := hX
          have HX := hide hX
          have HXk := hide hXk
          have c2 := cell_blk hX.blk 2 (v := .slice sa ls.length sc) rfl
          have HPs := hide (place_any _ ls ek w2 hX.s.row (by have := HLs.out; omega))
          have HTh : Hid ((lt.set i ⟨ek, flip eb q m, .slice na nl nc⟩).map Sv.sg = modS rth ek fun l => flip l q m) := by
            have h1 := set_sg (L := lt) (by rw [← HT.out]; exact HS1.out) HE.out (fun l => flip l q m) (.slice na nl nc)
            rw [← HT.out] at h1
            exact h1
          have hlk := idxK_look (L := ls) (k := ek)
          rw [← HSs.out] at hlk
          clear hX hXk c1 c4 z1
          cases hj : idxK ls ek with
          | none =>
            rw [atK_none hj] at HPs
            have HN : Hid (modS rsf ek (fun l => if q < l.length then flip l q m else l) = rsf) := modS_no (hlk.1.1 hj) _
            clear hlk hj
            go_wp2_with (go_at_call 54; refine HPs.out.mono ?_; rintro e w3 ⟨rfl, hw⟩; have hw := hw.symm; subst hw)
            go_ret
            refine ⟨rfl, ⟨_, _, _, _, HX.out, HTh.out.symm, ?_⟩, HXk.out⟩
            rw [HN.out]
            exact HSs.out
          | some j =>
            rw [atK_some hj] at HPs
            obtain ⟨x, hx, hxk, hlx⟩ := hlk.2 j hj
            have hjl := (List.getElem?_eq_some_iff.1 hx).1
            have hjt : (j : Int) < (ls.length : Int) := by omega
            have hj0 : (j : Int) ≥ 0 := by omega
            obtain ⟨g2, cap2, hv, _, z2⟩ := row_at HX.out.s.row hx
            injection hv with hv1 _ hv2
            subst hv1 hv2
            have hxm := List.mem_of_getElem? hx
            have hxb := HX.out.s.by8 x hxm
            have hxl : x.b.length ≤ 67108864 := by
              have h1 := HB2.out x.sg (by rw [HSs.out]; exact List.mem_map_of_mem hxm)
              have h2 : x.sg.2.length = x.b.length := rfl
              omega
            have HXe := hide hx
            have HXek := hide hxk
            have HXb := hide hxb
            have HXl := hide hlx
            obtain ⟨xk, xb, xv⟩ := x
            dsimp only at z2 hxl
            obtain ⟨xa, xc, hev, _⟩ := ownsRow_sh hxb.1
            dsimp only at hev
            subst hev
            clear hlk hj hx hxk hlx hxb hxm hjl
            by_cases hqx : q < xb.length
            · have hqx' : (q : Int) < (xb.length : Int) := by omega
              have HQx := hide hqx
              have HTu := hide fun W (kk : Keep (fun _ => False) w2 W) => turned_any W _ xb q m (HXb.out.keep kk fun _ _ f => f) hqx hm (by omega)
              have HC2 := hide c2
              have HZ2 := hide z2
              have hnq : ¬ (j : Int) < 0 := by omega
              clear hqx hxl
              go_upto_region 11 with (go_at_call 54; refine HPs.out.mono ?_; rintro e w3 ⟨rfl, hw⟩; have hw := hw.symm; subst hw)
              have HS8 : Hid (∀ W, Keep (fun _ => False) w2 W → (fun W' : World => W'.cell? ⟨P, 2, none⟩ = some (.slice (some ⟨g2, 0, none⟩) ls.length sc) ∧ W'.cell? ⟨g2, j * 2 + 1, none⟩ = some (.slice xa xb.length xc)) W) := fun W kk => ⟨kk.cell HC2.out fun f => f, kk.cell HZ2.out fun f => f⟩
              refine RL.wp_region_held_last (S := fun W' : World => W'.cell? ⟨P, 2, none⟩ = some (.slice (some ⟨g2, 0, none⟩) ls.length sc) ∧ W'.cell? ⟨g2, j * 2 + 1, none⟩ = some (.slice xa xb.length xc)) rfl (by kernel_rfl) (by kernel_rfl) (HS8.out _ (Keep.drew _ _)) (fun hHeld => ?_)
              change wpAnyH _ _ _ _ _ 19 (Array.replicate 19 false) _ _
              simp only [List.dropLast, List.getLast, List.cons_append, List.nil_append, RL.still]
              refine wpAnyH_take (i := 0) (oi := _) (v := ?_) rfl (by kernel_rfl) (by kernel_rfl) (by kernel_rfl) (fun _ _ _ h => h) (Or.inl ⟨by rfl, ?_⟩) (by assumption) ?_
              rotate_left
              · (intro w hSw; (try dsimp only at hSw); go_simp)
                all_goals with_reducible rfl
              go_simp
              refine wpAnyH_take (i := 1) (oi := _) (v := ?_) rfl (by kernel_rfl) (by kernel_rfl) (by kernel_rfl) (fun _ _ _ h => h) (Or.inl ⟨by rfl, ?_⟩) (by assumption) ?_
              rotate_left
              · (intro w hSw; (try dsimp only at hSw); go_simp)
                all_goals with_reducible rfl
              go_simp
              refine wpAnyH_take (i := 2) (oi := _) (v := ?_) rfl (by kernel_rfl) (by kernel_rfl) (by kernel_rfl) (fun _ _ _ h => h) (Or.inl ⟨by rfl, ?_⟩) (by assumption) ?_
              rotate_left
              · (intro w hSw; (try dsimp only at hSw); go_simp)
                all_goals with_reducible rfl
              go_simp
              refine wpAnyH_take (i := 3) (oi := _) (v := ?_) rfl (by kernel_rfl) (by kernel_rfl) (by kernel_rfl) (fun _ _ _ h => h) (Or.inl ⟨by rfl, ?_⟩) (by assumption) ?_
              rotate_left
              · (intro w hSw; (try dsimp only at hSw); go_simp)
                all_goals with_reducible rfl
              go_simp
              refine wpAnyH_take (i := 4) (oi := _) (v := ?_) rfl (by kernel_rfl) (by kernel_rfl) (by kernel_rfl) (fun _ _ _ h => h) (Or.inl ⟨by rfl, ?_⟩) (by assumption) ?_
              rotate_left
              · (intro w hSw; (try dsimp only at hSw); go_simp)
                all_goals with_reducible rfl
              go_simp
              refine wpAnyH_take (i := 5) (oi := _) (v := ?_) rfl (by kernel_rfl) (by kernel_rfl) (by kernel_rfl) (fun _ _ _ h => h) (Or.inl ⟨by rfl, ?_⟩) (by assumption) ?_
              rotate_left
              · (intro w hSw; (try dsimp only at hSw); go_simp)
                all_goals with_reducible rfl
              go_simp
              refine wpAnyH_take (i := 6) (oi := _) (v := ?_) rfl (by kernel_rfl) (by kernel_rfl) (by kernel_rfl) (fun _ _ _ h => h) (Or.inl ⟨by rfl, ?_⟩) (by assumption) ?_
              rotate_left
              · (intro w hSw; (try dsimp only at hSw); go_simp)
                all_goals with_reducible rfl
              go_simp
              refine wpAnyH_take (i := 7) (oi := _) (v := ?_) rfl (by kernel_rfl) (by kernel_rfl) (by kernel_rfl) (fun _ _ _ h => h) (Or.inl ⟨by rfl, ?_⟩) (by assumption) ?_
              rotate_left
              · (intro w hSw; (try dsimp only at hSw); go_simp)
                all_goals with_reducible rfl
              go_simp
              refine wpAnyH_take (i := 8) (oi := _) (v := ?_) rfl (by kernel_rfl) (by kernel_rfl) (by kernel_rfl) (fun _ _ _ h => h) (Or.inl ⟨by rfl, ?_⟩) (by assumption) ?_
              rotate_left
              · (intro w hSw; (try dsimp only at hSw); go_simp)
                all_goals with_reducible rfl
              go_simp
              refine wpAnyH_take (i := 9) (oi := _) (v := ?_) rfl (by kernel_rfl) (by kernel_rfl) (by kernel_rfl) (fun _ _ _ h => h) (Or.inl ⟨by rfl, ?_⟩) (by assumption) ?_
              rotate_left
              · (intro w hSw; (try dsimp only at hSw); go_simp)
                all_goals with_reducible rfl
              go_simp
              refine wpAnyH_take (i := 10) (oi := _) (v := ?_) rfl (by kernel_rfl) (by kernel_rfl) (by kernel_rfl) (fun _ _ _ h => h) (Or.inl ⟨by rfl, ?_⟩) (by assumption) ?_
              rotate_left
              · (intro w hSw; (try dsimp only at hSw); go_simp)
                all_goals with_reducible rfl
              go_simp
              refine wpAnyH_take (i := 11) (oi := _) (v := ?_) rfl (by kernel_rfl) (by kernel_rfl) (by kernel_rfl) (fun _ _ _ h => h) (Or.inl ⟨by rfl, ?_⟩) (by assumption) ?_
              rotate_left
              · (intro w hSw; (try dsimp only at hSw); go_simp)
                all_goals with_reducible rfl
              go_simp
              refine wpAnyH_take (i := 12) (oi := _) (v := ?_) rfl (by kernel_rfl) (by kernel_rfl) (by kernel_rfl) (fun _ _ _ h => h) (Or.inl ⟨by rfl, ?_⟩) (by assumption) ?_
              rotate_left
              · (intro w hSw; (try dsimp only at hSw); go_simp)
                all_goals with_reducible rfl
              go_simp
              refine wpAnyH_take (i := 13) (oi := _) (v := ?_) rfl (by kernel_rfl) (by kernel_rfl) (by kernel_rfl) (fun _ _ _ h => h) (Or.inl ⟨by rfl, ?_⟩) (by assumption) ?_
              rotate_left
              · (intro w hSw; (try dsimp only at hSw); go_simp)
                all_goals with_reducible rfl
              go_simp
              refine wpAnyH_take (i := 14) (oi := _) (v := ?_) rfl (by kernel_rfl) (by kernel_rfl) (by kernel_rfl) (fun _ _ _ h => h) (Or.inl ⟨by rfl, ?_⟩) (by assumption) ?_
              rotate_left
              · (intro w hSw; (try dsimp only at hSw); go_simp)
                all_goals with_reducible rfl
              go_simp
              have kD0 : Keep (fun _ => False) w2 w2.drew := Keep.drew _ _
              refine wpAnyH_ready (rs := [15]) (by kernel_rfl) (by simp) ?_
              refine AllReadyH.cons (o := _) rfl (fun K hK => ?_) AllReadyH.nil
              rw [if_pos (by rfl)]
              go_simp
              go_at_call 59
              refine (HTu.out _ kD0).mono ?_
              rintro e w3 ⟨nv, rfl, hnr, hnn, hnk⟩
              obtain ⟨na2, nc2, hnv, _⟩ := ownsRow_sh hnr.1
              generalize (flip xb q m).length = nl2 at hnv
              subst hnv
              have kC : Keep (fun _ => False) w2 w3 := kD0.more hnk
              refine hK.out _ _ (HS8.out _ kC) (fun hHeld => ?_)
              clear hK K
              try simp only [Act.put, List.setIfInBounds_toArray]
              refine wpAnyH_take (i := 16) (oi := _) (v := ?_) rfl (by kernel_rfl) (by kernel_rfl) (by kernel_rfl) (fun _ _ _ h => h) (Or.inl ⟨by rfl, ?_⟩) (by assumption) ?_
              rotate_left
              · (intro w hSw; (try dsimp only at hSw); go_simp)
                all_goals with_reducible rfl
              go_simp
              refine wpAnyH_take (i := 17) (oi := _) (v := ?_) rfl (by kernel_rfl) (by kernel_rfl) (by kernel_rfl) (fun _ _ _ h => h) (Or.inl ⟨by rfl, ?_⟩) (by assumption) ?_
              rotate_left
              · (intro w hSw; (try dsimp only at hSw); go_simp)
                all_goals with_reducible rfl
              go_simp
              refine wpAnyH_take (i := 18) (oi := _) (v := ?_) rfl (by kernel_rfl) (by kernel_rfl) (by kernel_rfl) (fun _ _ _ h => h) (Or.inl ⟨by rfl, ?_⟩) (by assumption) ?_
              rotate_left
              · (intro w hSw; (try dsimp only at hSw); go_simp)
                all_goals with_reducible rfl
              go_simp
              refine wpAnyH_done (by kernel_rfl) ?_ _
              simp only [RL.endQ]
              have d1 := (HS8.out _ kC).2
              have f1 := row_fz (ownsRow_keep HX.out.s.row kC fun _ _ f => f) rfl (j * 2 + 1)
              unfold Oper.wp
              go_simp
              have hX := HX.out.setS (e := ⟨xk, xb, _⟩) rfl HXe.out kC hnr hnn (fun i hi => HSf.out i (Nat.le_trans HXk.out.size hi))
              obtain ⟨w4, hw4⟩ : ∃ w4, w4 = w3.setCell ⟨g2, j * 2 + 1, none⟩ (.slice na2 nl2 nc2) := ⟨_, rfl⟩
              rw [← hw4] at hX ⊢
              clear hw4 d1 f1 hnr hnn hnk kC kD0 hHeld HTu HS8
              have HTs : Hid ((ls.set j ⟨xk, flip xb q m, .slice na2 nl2 nc2⟩).map Sv.sg = modS rsf ek fun l => if q < l.length then flip l q m else l) := by
                have h1 := set_sg (L := ls) (by rw [← HSs.out]; exact HS2.out) HXe.out (fun l => if q < l.length then flip l q m else l) (.slice na2 nl2 nc2)
                rw [← HSs.out, show (⟨xk, xb, .slice xa xb.length xc⟩ : Sv).k = ek from HXek.out] at h1
                rw [← h1]
                show _ = List.map Sv.sg (ls.set j ⟨ek, if q < xb.length then flip xb q m else xb, _⟩)
                rw [if_pos HQx.out, show xk = ek from HXek.out]
              go_wp2
              go_ret
              exact ⟨rfl, ⟨_, _, _, _, hX.1, HTh.out.symm, HTs.out.symm⟩, HXk.out.more hX.2⟩
            · have hqx' : ¬ (q : Int) < (xb.length : Int) := by omega
              have HN : Hid (modS rsf ek (fun l => if q < l.length then flip l q m else l) = rsf) := modS_same HS2.out HXl.out _ (if_neg hqx)
              clear hqx
              go_wp2_with (go_at_call 54; refine HPs.out.mono ?_; rintro e w3 ⟨rfl, hw⟩; have hw := hw.symm; subst hw)
              go_ret
              refine ⟨rfl, ⟨_, _, _, _, HX.out, HTh.out.symm, ?_⟩, HXk.out⟩
              rw [HN.out]
              exact HSs.out
end DP
end Go.Proofs.Ytilpidioengnbaa

/- DiskPlays: the document's Append (ag_gen.py, out of DTy.part). -/
namespace Go.Proofs.Ytilpidioengnbaa
namespace DP
open Go.RowKit

theorem LsIn.stayB {S : Nat → Prop} {w w' : World} {v : Value} {L : List Sv} (h : LsIn S w v L) {T : Nat → Prop} (hk : Keep T w w') (hn : ∀ g, Bl v L g → ¬ T g) : LsIn S w' v L :=
  ⟨ownsRow_keep h.row hk fun b e => hn b (.inl e), fun e he => (h.by8 e he).keep hk fun b e2 => hn b (.inr ⟨e, he, e2⟩), h.sep, h.sv, h.sb⟩
theorem at_other {L : List Sv} {i : Nat} {y x : Sv} (hx : x ∈ L.set i y) : x = y ∨ ∃ j, j ≠ i ∧ L[j]? = some x := by
  obtain ⟨j, hj⟩ := List.getElem?_of_mem hx
  rw [List.getElem?_set] at hj
  split at hj
  · split at hj
    · injection hj with hj; exact .inl hj.symm
    · cases hj
  · rename_i hne
    exact .inr ⟨j, fun e => hne e.symm, hj⟩
theorem LsIn.far {S : Nat → Prop} {w : World} {v : Value} {L : List Sv} (h : LsIn S w v L) {i j : Nat} {e x : Sv} (hi : L[i]? = some e) (hj : L[j]? = some x) (hne : j ≠ i) {g : Nat} (h1 : x.v.ownBlock = some g) : e.v.ownBlock ≠ some g := by
  have hp := List.pairwise_iff_getElem.1 h.sep
  obtain ⟨l1, e1⟩ := List.getElem?_eq_some_iff.1 hi
  obtain ⟨l2, e2⟩ := List.getElem?_eq_some_iff.1 hj
  rcases Nat.lt_trichotomy i j with hlt | heq | hlt
  · intro e3
    exact hp i j l1 l2 hlt g (by rw [e1]; exact e3) (by rw [e2]; exact h1)
  · exact absurd heq.symm hne
  · have := hp j i l2 l1 hlt g (by rw [e2]; exact h1)
    rw [e1] at this
    exact this
/-- a segment's bytes exchanged for such that lie where they lay, or in a new block -/
theorem LsIn.setv2 {S : Nat → Prop} {w w1 : World} {v nv : Value} {L : List Sv} {g i : Nat} {e : Sv} {nb : List Nat} (h : LsIn S w v L) (hg : v.ownBlock = some g) (hi : L[i]? = some e) (k1 : Keep (fun b => e.v.ownBlock = some b) w w1) (hn : Row w1 nv nb) (hf : ∀ g, nv.ownBlock = some g → e.v.ownBlock = some g ∨ w.heap.size ≤ g) (hS : ∀ i, w.heap.size ≤ i → S i) :
    LsIn S (w1.setCell ⟨g, i * 2 + 1, none⟩ nv) v (L.set i ⟨e.k, nb, nv⟩) := by
  have hem := List.mem_of_getElem? hi
  have hr1 : w1.ownsRow 0 77 2 v L.length (rowS L) := ownsRow_keep h.row k1 fun b hb e2 => seg_ne h.row (h.by8 e hem) e2 hb
  have kc := keep_cell w1 g (i * 2 + 1) nv
  refine ⟨?_, fun x hx => ?_, ?_, h.sv, fun x hx g' e2 => ?_⟩
  · rw [List.length_set]
    exact row_setv hr1 hg hi nb nv
  · rcases at_other hx with rfl | ⟨j, hne, hj⟩
    · exact hn.keep kc fun b hb (e2 : b = g) => seg_ne hr1 hn hb (e2 ▸ hg)
    · have hxm := List.mem_of_getElem? hj
      have hb1 := (h.by8 x hxm).keep k1 fun b hb => h.far hi hj hne hb
      exact hb1.keep kc fun b hb (e2 : b = g) => seg_ne hr1 hb1 hb (e2 ▸ hg)
  · rw [List.pairwise_iff_getElem]
    intro a b ha hb hab q e1 e2
    have ha' : a < L.length := by simpa using ha
    have hb' : b < L.length := by simpa using hb
    have hp := List.pairwise_iff_getElem.1 h.sep
    rw [List.getElem_set] at e1 e2
    split at e1
    · rename_i hia
      split at e2
      · omega
      · rename_i hib
        have hbx : L[b]? = some L[b] := List.getElem?_eq_getElem hb'
        rcases hf q e1 with h1 | h1
        · exact h.far hi hbx (fun e => hib e.symm) e2 h1
        · have := ((h.by8 _ (List.getElem_mem hb')).1.lt q e2).2
          omega
    · rename_i hia
      split at e2
      · have hax : L[a]? = some L[a] := List.getElem?_eq_getElem ha'
        rcases hf q e2 with h1 | h1
        · exact h.far hi hax (fun e => hia e.symm) e1 h1
        · have := ((h.by8 _ (List.getElem_mem ha')).1.lt q e1).2
          omega
      · exact hp a b ha' hb' hab q e1 e2
  · rcases List.mem_or_eq_of_mem_set hx with hx | rfl
    · exact h.sb x hx g' e2
    · rcases hf g' e2 with h1 | h1
      · exact h.sb e hem g' h1
      · exact hS _ h1
theorem RAt.setT2 {S : Nat → Prop} {w w1 : World} {P cap : Nat} {vt vs nv : Value} {lt ls : List Sv} {left : Option Nat} {off : Bool} {g i : Nat} {e : Sv} {nb : List Nat} (h : RAt S w P cap vt lt vs ls left off) (hg : vt.ownBlock = some g) (hi : lt[i]? = some e) (k1 : Keep (fun b => e.v.ownBlock = some b) w w1) (hn : Row w1 nv nb) (hf : ∀ g, nv.ownBlock = some g → e.v.ownBlock = some g ∨ w.heap.size ≤ g) (hS : ∀ i, w.heap.size ≤ i → S i) :
    RAt S (w1.setCell ⟨g, i * 2 + 1, none⟩ nv) P cap vt (lt.set i ⟨e.k, nb, nv⟩) vs ls left off ∧ Keep S w (w1.setCell ⟨g, i * 2 + 1, none⟩ nv) := by
  have hem := List.mem_of_getElem? hi
  have hb1 := k1.blk h.blk fun e2 => h.t.neP h.blk (.inr ⟨e, hem, e2⟩)
  have kc := keep_cell w1 g (i * 2 + 1) nv
  have hPg : ¬ P = g := fun e => h.t.neP h.blk (.inl (e ▸ hg))
  have hs1 : LsIn S w1 vs ls := h.s.stayB k1 fun b hb e2 => h.ap b (.inr ⟨e, hem, e2⟩) hb
  refine ⟨⟨kc.blk hb1 hPg, h.sp, h.t.setv2 hg hi k1 hn hf hS, hs1.stayG kc (h.ap g (.inl hg)), fun b hb hb2 => ?_⟩, (k1.mono fun b e2 => h.t.sb e hem b e2).more (Keep.setCell _ (h.t.sv g hg) _)⟩
  rcases Bl_set hb with hb | hb
  · exact h.ap b hb hb2
  · rcases hf b hb with h2 | h2
    · exact h.ap b (.inr ⟨e, hem, h2⟩) hb2
    · have h3 := h.s.lt hb2
      omega
theorem B8_at2 {w : World} {ad : Addr} {n : Nat} {b : List Nat} (hb : Rd w (some ad) n b) : ∀ j u, (B8 b)[j]? = some u → w.cell? (ad.add j) = some u := hb.cells
/-- bytes appended to a row of bytes -/
theorem app_run8 {w : World} {v : Value} {l : List Nat} (h : Row w v l) {a : Option Addr} {n c : Nat} {b : List Nat} (hb : Rd w a n b) (h0 : a = none → c = 0) (hlen : l.length + n ≤ 140737488355328) (ty : TypeId) :
    ∃ a' c' w', (Builtin.append_ #[33, 33] ty #[v, .slice a n c]).run Try.prog w = .ok (.slice a' (l ++ b).length c') w' ∧ Row w' (.slice a' (l ++ b).length c') (l ++ b) ∧ Keep (fun k => v.ownBlock = some k) w w' ∧ ∀ k, (Value.slice a' (l ++ b).length c').ownBlock = some k → v.ownBlock = some k ∨ w.heap.size ≤ k := by
  obtain ⟨i0, hi, hz0, hz1, hz2⟩ := info_parts info_u8
  have hn := hb.1
  have hl : (l ++ b).length = l.length + n := by rw [List.length_append, hn]
  have hd : ∀ d ∈ l ++ b, d < 256 := fun d hd => by
    rcases List.mem_append.1 hd with hd | hd
    · exact h.2 d hd
    · exact hb.2.2.1 d hd
  rw [hl]
  cases a with
  | none =>
    have e0 : n = 0 := hb.2.2.2.elim id (fun ⟨b, off, e, _⟩ => by cases e)
    subst e0
    rw [h0 rfl]
    have hbn : b = [] := List.eq_nil_of_length_eq_zero hn.symm
    subst hbn
    obtain ⟨va, vc, rfl, _⟩ := ownsRow_sh h.1
    refine ⟨va, vc, w, ?_, ?_, Keep.refl _ _, fun k e => .inl e⟩
    · exact run_append_owned_none (P := Try.prog) w 0 33 ty 5 i0 1 Try.underlying33 hi _ l.length (B8 l) h.1
    · rw [List.append_nil, Nat.add_zero]
      exact h
  | some ad =>
    obtain ⟨v', w', h2, h3, h4, _, h5⟩ := run_append_own_at (P := Try.prog) w 0 33 ty 5 i0 (.int .u8 0) 1 1 Try.underlying33 hi hz0 hz1 hz2 rfl (by decide) v l.length (B8 l) h.1 ad n c (B8 b) (by rw [B8_len, ← hn, Nat.mul_one]) hb.cells (B8_one b) (by unfold maxLen; omega) (by omega) (Nat.zero_le _)
    obtain ⟨va, vc, rfl, _⟩ := ownsRow_sh h3
    have h6 : Row w' (.slice va (l.length + n) vc) (l ++ b) := by
      refine ⟨?_, hd⟩
      rw [hl, B8_append]
      exact h3
    refine ⟨va, vc, w', h2, h6, ⟨h4.os, h4.tape, h4.output, h4.size, fun k hk hn => h4.block k hk fun e => hn e.symm⟩, fun k e => ?_⟩
    rcases h5 with h5 | h5
    · rw [h5] at e; exact .inl e
    · rw [h5] at e
      injection e with e
      exact .inr (by omega)

set_option maxRecDepth 100000 in
set_option maxHeartbeats 4000000 in
theorem refAppend_any (S : Nat → Prop) (w : World) (P : Nat) (r : Rf) (k : Int) (a : Option Addr) (n c : Nat) (b : List Nat) (h : RIn S w P r) (hs1 : SrtS r.th) (hS : ∀ i, w.heap.size ≤ i → S i) (hb : Rd w a n b) (h0 : a = none → c = 0)
    (hc : r.cap ≤ 67108864) (hsum : sumS r.th ≤ 1152921504606846976) (hlen : r.th.length ≤ 1099511627776) (hby : ∀ e ∈ r.th, e.2.length ≤ 67108864) (hl : ∀ n, r.left = some n → n ≤ 9223372036854775807) :
    Calls Try.prog 35 #[.pointer (some ⟨P, 0, none⟩), .int .i64 k, .slice a n c] w (DidR S w P (r.append k b)) := by
  have HSame := hide h
  have HRo := hide (room_any S w P r h hc hsum)
  obtain ⟨vt, lt, vs, ls, h, ht, hs⟩ := h
  have hroom : r.room ≤ 67108864 := by unfold Rf.room; omega
  obtain ⟨rc, rth, rsf, rl, ro⟩ := r
  dsimp only at h ht hs hs1 hlen hby hl
  have c4 := cell_blk h.blk 4 (v := .bool ro) rfl
  obtain ⟨ta, tc, hvt, _⟩ := ownsRow_sh h.t.row
  subst hvt
  have c1 := cell_blk h.blk 1 (v := .slice ta lt.length tc) rfl
  have hll : lt.length ≤ 1099511627776 := by rw [ht, List.length_map] at hlen; exact hlen
  have HPl := hide (place_any _ lt k w h.t.row (by omega))
  have HD := hide h
  have HT := hide ht
  have HSs := hide hs
  have HSf := hide hS
  have HS1 := hide hs1
  have HLf := hide hl
  have HBb := hide hb
  have H0 := hide h0
  have hbn : b.length = n := hb.1.symm
  unfold Rf.append
  dsimp only
  rw [hbn]
  generalize hM : (Rf.mk rc rth rsf rl ro).room = M at *
  clear hM hbn
  cases ro with
  | true =>
    clear h ht hs hS hs1 hby hlen hll hl hb h0 HRo hroom hsum hc
    rw [if_pos rfl]
    unfold DidR
    go_enter Try.func35, Try.ntmps35
    go_wp2
    go_ret
    exact ⟨rfl, HSame.out, Keep.refl _ _⟩
  | false =>
    rw [if_neg (by decide)]
    have hlk := idxK_look (L := lt) (k := k)
    rw [← ht] at hlk
    cases hi : idxK lt k with
    | none =>
      rw [atK_none hi] at HPl
      have hN := hlk.1.1 hi
      rw [if_pos hN]
      clear hN h ht hs hS hs1 hby hlen hll hlk hi hl hb h0 HRo hroom hsum hc
      unfold DidR
      go_enter Try.func35, Try.ntmps35
      go_wp2_with (go_at_call 54; refine HPl.out.mono ?_; rintro e w1 ⟨rfl, hw⟩; have hw := hw.symm; subst hw)
      go_ret
      exact ⟨rfl, HSame.out, Keep.refl _ _⟩
    | some i =>
      rw [atK_some hi] at HPl
      obtain ⟨e, he, hek, hle⟩ := hlk.2 i hi
      have hil := (List.getElem?_eq_some_iff.1 he).1
      have hlt' : (i : Int) < (lt.length : Int) := by omega
      have hn0 : ¬ (i : Int) < 0 := by omega
      obtain ⟨g, cap, hv, _, z1⟩ := row_at h.t.row he
      injection hv with hv1 _ hv2
      subst hv1 hv2
      have hem := List.mem_of_getElem? he
      have hrb := h.t.by8 e hem
      have hbl : e.b.length ≤ 67108864 := by
        have h1 := hby e.sg (by rw [ht]; exact List.mem_map_of_mem hem)
        have h2 : e.sg.2.length = e.b.length := rfl
        omega
      rw [if_neg (by rw [hle]; simp)]
      have HE := hide he
      have HRB := hide hrb
      obtain ⟨ek, eb, ev⟩ := e
      dsimp only at z1 hbl hek ⊢
      subst hek
      obtain ⟨ba, bc, hev, _⟩ := ownsRow_sh hrb.1
      dsimp only at hev
      subst hev
      clear h ht hs hS hs1 hby hlen hll hlk hi he hle hrb hem hil hl hb h0 hsum hc
      by_cases hrm : M < n
      · rw [if_pos hrm]
        have hrm' : (n : Int) > (M : Int) := by omega
        unfold DidR
        go_enter Try.func35, Try.ntmps35
        go_wp2_with (first
          | (go_at_call 54; refine HPl.out.mono ?_; rintro e w1 ⟨rfl, hw⟩; have hw := hw.symm; subst hw)
          | (go_at_call 55; refine HRo.out.mono ?_; rintro e w1 ⟨rfl, hw⟩; have hw := hw.symm; subst hw))
        go_ret
        exact ⟨rfl, HSame.out, Keep.refl _ _⟩
      · rw [if_neg hrm]
        have hrm' : ¬ (n : Int) > (M : Int) := by omega
        have HC1 := hide c1
        have HZ1 := hide z1
        have HBL := hide (show eb.length + n ≤ 140737488355328 by omega)
        clear hbl hrm hroom
        unfold DidR
        go_enter Try.func35, Try.ntmps35
        go_upto_region 8 with (first
          | (go_at_call 54; refine HPl.out.mono ?_; rintro e w1 ⟨rfl, hw⟩; have hw := hw.symm; subst hw)
          | (go_at_call 55; refine HRo.out.mono ?_; rintro e w1 ⟨rfl, hw⟩; have hw := hw.symm; subst hw))
        have HS8 : Hid (∀ W, Keep (fun b => (Value.slice ba eb.length bc).ownBlock = some b) w W → (fun W' : World => W'.cell? ⟨P, 1, none⟩ = some (.slice (some ⟨g, 0, none⟩) lt.length tc) ∧ W'.cell? ⟨g, i * 2 + 1, none⟩ = some (.slice ba eb.length bc)) W) := fun W kk => ⟨kk.cell HC1.out fun e2 => HD.out.t.neP HD.out.blk (.inr ⟨_, List.mem_of_getElem? HE.out, e2⟩), kk.cell HZ1.out fun e2 => seg_ne HD.out.t.row HRB.out e2 rfl⟩
        refine RL.wp_region_held_last (S := fun W' : World => W'.cell? ⟨P, 1, none⟩ = some (.slice (some ⟨g, 0, none⟩) lt.length tc) ∧ W'.cell? ⟨g, i * 2 + 1, none⟩ = some (.slice ba eb.length bc)) rfl (by kernel_rfl) (by kernel_rfl) (HS8.out _ (Keep.drew _ _)) (fun hHeld => ?_)
        change wpAnyH _ _ _ _ _ 18 (Array.replicate 18 false) _ _
        simp only [List.dropLast, List.getLast, List.cons_append, List.nil_append, RL.still]
        refine wpAnyH_take (i := 0) (oi := _) (v := ?_) rfl (by kernel_rfl) (by kernel_rfl) (by kernel_rfl) (fun _ _ _ h => h) (Or.inl ⟨by rfl, ?_⟩) (by assumption) ?_
        rotate_left
        · (intro w hSw; (try dsimp only at hSw); go_simp)
          all_goals with_reducible rfl
        go_simp
        refine wpAnyH_take (i := 1) (oi := _) (v := ?_) rfl (by kernel_rfl) (by kernel_rfl) (by kernel_rfl) (fun _ _ _ h => h) (Or.inl ⟨by rfl, ?_⟩) (by assumption) ?_
        rotate_left
        · (intro w hSw; (try dsimp only at hSw); go_simp)
          all_goals with_reducible rfl
        go_simp
        refine wpAnyH_take (i := 2) (oi := _) (v := ?_) rfl (by kernel_rfl) (by kernel_rfl) (by kernel_rfl) (fun _ _ _ h => h) (Or.inl ⟨by rfl, ?_⟩) (by assumption) ?_
        rotate_left
        · (intro w hSw; (try dsimp only at hSw); go_simp)
          all_goals with_reducible rfl
        go_simp
        refine wpAnyH_take (i := 3) (oi := _) (v := ?_) rfl (by kernel_rfl) (by kernel_rfl) (by kernel_rfl) (fun _ _ _ h => h) (Or.inl ⟨by rfl, ?_⟩) (by assumption) ?_
        rotate_left
        · (intro w hSw; (try dsimp only at hSw); go_simp)
          all_goals with_reducible rfl
        go_simp
        refine wpAnyH_take (i := 4) (oi := _) (v := ?_) rfl (by kernel_rfl) (by kernel_rfl) (by kernel_rfl) (fun _ _ _ h => h) (Or.inl ⟨by rfl, ?_⟩) (by assumption) ?_
        rotate_left
        · (intro w hSw; (try dsimp only at hSw); go_simp)
          all_goals with_reducible rfl
        go_simp
        refine wpAnyH_take (i := 5) (oi := _) (v := ?_) rfl (by kernel_rfl) (by kernel_rfl) (by kernel_rfl) (fun _ _ _ h => h) (Or.inl ⟨by rfl, ?_⟩) (by assumption) ?_
        rotate_left
        · (intro w hSw; (try dsimp only at hSw); go_simp)
          all_goals with_reducible rfl
        go_simp
        refine wpAnyH_take (i := 6) (oi := _) (v := ?_) rfl (by kernel_rfl) (by kernel_rfl) (by kernel_rfl) (fun _ _ _ h => h) (Or.inl ⟨by rfl, ?_⟩) (by assumption) ?_
        rotate_left
        · (intro w hSw; (try dsimp only at hSw); go_simp)
          all_goals with_reducible rfl
        go_simp
        refine wpAnyH_take (i := 7) (oi := _) (v := ?_) rfl (by kernel_rfl) (by kernel_rfl) (by kernel_rfl) (fun _ _ _ h => h) (Or.inl ⟨by rfl, ?_⟩) (by assumption) ?_
        rotate_left
        · (intro w hSw; (try dsimp only at hSw); go_simp)
          all_goals with_reducible rfl
        go_simp
        refine wpAnyH_take (i := 8) (oi := _) (v := ?_) rfl (by kernel_rfl) (by kernel_rfl) (by kernel_rfl) (fun _ _ _ h => h) (Or.inl ⟨by rfl, ?_⟩) (by assumption) ?_
        rotate_left
        · (intro w hSw; (try dsimp only at hSw); go_simp)
          all_goals with_reducible rfl
        go_simp
        refine wpAnyH_take (i := 9) (oi := _) (v := ?_) rfl (by kernel_rfl) (by kernel_rfl) (by kernel_rfl) (fun _ _ _ h => h) (Or.inl ⟨by rfl, ?_⟩) (by assumption) ?_
        rotate_left
        · (intro w hSw; (try dsimp only at hSw); go_simp)
          all_goals with_reducible rfl
        go_simp
        refine wpAnyH_take (i := 10) (oi := _) (v := ?_) rfl (by kernel_rfl) (by kernel_rfl) (by kernel_rfl) (fun _ _ _ h => h) (Or.inl ⟨by rfl, ?_⟩) (by assumption) ?_
        rotate_left
        · (intro w hSw; (try dsimp only at hSw); go_simp)
          all_goals with_reducible rfl
        go_simp
        refine wpAnyH_take (i := 11) (oi := _) (v := ?_) rfl (by kernel_rfl) (by kernel_rfl) (by kernel_rfl) (fun _ _ _ h => h) (Or.inl ⟨by rfl, ?_⟩) (by assumption) ?_
        rotate_left
        · (intro w hSw; (try dsimp only at hSw); go_simp)
          all_goals with_reducible rfl
        go_simp
        refine wpAnyH_take (i := 12) (oi := _) (v := ?_) rfl (by kernel_rfl) (by kernel_rfl) (by kernel_rfl) (fun _ _ _ h => h) (Or.inl ⟨by rfl, ?_⟩) (by assumption) ?_
        rotate_left
        · (intro w hSw; (try dsimp only at hSw); go_simp)
          all_goals with_reducible rfl
        go_simp
        refine wpAnyH_take (i := 13) (oi := _) (v := ?_) rfl (by kernel_rfl) (by kernel_rfl) (by kernel_rfl) (fun _ _ _ h => h) (Or.inl ⟨by rfl, ?_⟩) (by assumption) ?_
        rotate_left
        · (intro w hSw; (try dsimp only at hSw); go_simp)
          all_goals with_reducible rfl
        go_simp
        have kD0 : Keep (fun _ => False) w w.drew := Keep.drew _ _
        obtain ⟨va, vc, w1, hrun, hnr, hnk, hnn⟩ := app_run8 (HRB.out.keep kD0 fun _ _ f => f) (HBb.out.stay kD0 fun _ _ _ f => f) H0.out HBL.out 33
        obtain ⟨nl, hnl⟩ : ∃ nl, nl = (eb ++ b).length := ⟨_, rfl⟩
        rw [← hnl] at hrun hnr hnn
        clear hnl
        have kC : Keep (fun b => (Value.slice ba eb.length bc).ownBlock = some b) w w1 := (kD0.mono fun _ f => f.elim).more hnk
        refine wpAnyH_ready (rs := [14]) (by kernel_rfl) (by simp) ?_
        refine AllReadyH.cons (o := _) rfl (fun K hK => ?_) AllReadyH.nil
        refine step_append_run rfl _ _ _ rfl _ _ rfl rfl hrun ?_
        refine hK.out _ _ (HS8.out _ kC) (fun hHeld => ?_)
        clear hK K
        try simp only [Act.put, List.setIfInBounds_toArray]
        refine wpAnyH_take (i := 15) (oi := _) (v := ?_) rfl (by kernel_rfl) (by kernel_rfl) (by kernel_rfl) (fun _ _ _ h => h) (Or.inl ⟨by rfl, ?_⟩) (by assumption) ?_
        rotate_left
        · (intro w hSw; (try dsimp only at hSw); go_simp)
          all_goals with_reducible rfl
        go_simp
        refine wpAnyH_take (i := 16) (oi := _) (v := ?_) rfl (by kernel_rfl) (by kernel_rfl) (by kernel_rfl) (fun _ _ _ h => h) (Or.inl ⟨by rfl, ?_⟩) (by assumption) ?_
        rotate_left
        · (intro w hSw; (try dsimp only at hSw); go_simp)
          all_goals with_reducible rfl
        go_simp
        refine wpAnyH_take (i := 17) (oi := _) (v := ?_) rfl (by kernel_rfl) (by kernel_rfl) (by kernel_rfl) (fun _ _ _ h => h) (Or.inl ⟨by rfl, ?_⟩) (by assumption) ?_
        rotate_left
        · (intro w hSw; (try dsimp only at hSw); go_simp)
          all_goals with_reducible rfl
        go_simp
        refine wpAnyH_done (by kernel_rfl) ?_ _
        simp only [RL.endQ]
        have d1 := (HS8.out _ kC).2
        have f1 := row_fz (ownsRow_keep HD.out.t.row kC fun b hb e2 => seg_ne HD.out.t.row HRB.out e2 hb) rfl (i * 2 + 1)
        unfold Oper.wp
        go_simp
        have hX := HD.out.setT2 (e := ⟨ek, eb, _⟩) rfl HE.out kC hnr hnn HSf.out
        obtain ⟨w2, hw2⟩ : ∃ w2, w2 = w1.setCell ⟨g, i * 2 + 1, none⟩ (.slice va nl vc) := ⟨_, rfl⟩
        rw [← hw2] at hX ⊢
        clear hw2 d1 f1 hnr hnn hnk kC kD0 hHeld HS8 hrun
        obtain ⟨hX, hXk⟩ := hX
        have HXk := hide hXk
        have hTh : (lt.set i ⟨ek, eb ++ b, .slice va nl vc⟩).map Sv.sg = modS rth ek (· ++ b) := by
          have h1 := set_sg (L := lt) (by rw [← HT.out]; exact HS1.out) HE.out (· ++ b) (.slice va nl vc)
          rw [← HT.out] at h1
          exact h1
        have HCt := hide (counted_any S w2 P ⟨rc, modS rth ek (· ++ b), rsf, rl, false⟩ ⟨_, _, _, _, hX, hTh.symm, HSs.out⟩ HLf.out)
        clear hX hXk hTh c1 c4 z1
        go_wp2_with (go_at_call 57; refine HCt.out.mono ?_; rintro e w3 ⟨rfl, hr3, hk3⟩)
        go_ret
        exact ⟨rfl, hr3, HXk.out.more hk3⟩
end DP
end Go.Proofs.Ytilpidioengnbaa
