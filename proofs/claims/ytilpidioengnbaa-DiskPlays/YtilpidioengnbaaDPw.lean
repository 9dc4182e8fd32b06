import Derived.Test.YtilpidioengnbaaDPu
/- DiskPlays: the document's Create, Sync. -/
namespace Go.Proofs.Ytilpidioengnbaa
namespace DP
open Go.RowKit

theorem insV_pw {R : Sv → Sv → Prop} {L : List Sv} {s : Sv} (h : L.Pairwise R) (h1 : ∀ x, R s x) (h2 : ∀ x, R x s) : (insV L s).Pairwise R := by
  induction L with
  | nil => exact List.pairwise_singleton _ _
  | cons e r ih =>
    have h' := List.pairwise_cons.1 h
    simp only [insV]
    split
    · exact List.pairwise_cons.2 ⟨fun x _ => h1 x, h⟩
    · refine List.pairwise_cons.2 ⟨fun x hx => ?_, ih h'.2⟩
      rcases insV_mem.1 hx with rfl | hx
      · exact h2 e
      · exact h'.1 x hx
theorem LsIn.ins {S : Nat → Prop} {w w' : World} {v v' : Value} {L : List Sv} {k : Int} (h : LsIn S w v L) (hk : Keep (fun _ => False) w w') (hrow : w'.ownsRow w.heap.size 77 2 v' (insV L (news k)).length (rowS (insV L (news k)))) (hS : ∀ i, w.heap.size ≤ i → S i) : LsIn S w' v' (insV L (news k)) := by
  refine ⟨hrow.mono (Nat.zero_le _), fun e he => ?_, insV_pw h.sep (fun x g e => by cases e) (fun x g _ e => by cases e), fun g e => hS g (hrow.lt g e).1, fun e he g e2 => ?_⟩
  · rcases insV_mem.1 he with rfl | he
    · exact row_nil w'
    · exact (h.by8 e he).keep hk fun _ _ f => f
  · rcases insV_mem.1 he with rfl | he
    · cases e2
    · exact h.sb e he g e2
theorem insV_ap {S : Nat → Prop} {w w' : World} {P cap : Nat} {vt vs v' : Value} {lt ls : List Sv} {left : Option Nat} {off : Bool} {k : Int} (h : RAt S w P cap vt lt vs ls left off) (hrow : w'.ownsRow w.heap.size 77 2 v' (insV lt (news k)).length (rowS (insV lt (news k)))) : ∀ g, Bl v' (insV lt (news k)) g → ¬ Bl vs ls g := fun g hg hg2 => by
  rcases hg with e | ⟨x, hx, e⟩
  · have h1 := (hrow.lt g e).1
    have h2 := h.s.lt hg2
    omega
  · rcases insV_mem.1 hx with rfl | hx
    · cases e
    · exact h.ap g (.inr ⟨x, hx, e⟩) hg2
set_option maxRecDepth 100000 in
set_option maxHeartbeats 800000 in
theorem refCreate_any (S : Nat → Prop) (w : World) (P : Nat) (r : Rf) (k : Int) (h : RIn S w P r) (_h1 : -9223372036854775808 ≤ k) (_h2 : k ≤ 9223372036854775807) (hS : ∀ i, w.heap.size ≤ i → S i) (hc : r.cap ≤ 67108864) (hsum : sumS r.th ≤ 1152921504606846976) (hlen : r.th.length ≤ 1099511627776) (hsf : r.sf.length ≤ 1099511627776) (hl : ∀ n, r.left = some n → n ≤ 9223372036854775807) :
    Calls Try.prog 34 #[.pointer (some ⟨P, 0, none⟩), .int .i64 k] w (DidR S w P (r.create k)) := by
  have HRo := hide (room_any S w P r h hc hsum)
  obtain ⟨vt, lt, vs, ls, h, ht, hs⟩ := h
  obtain ⟨rc, rth, rsf, rl, ro⟩ := r
  dsimp only at h ht hs hsf hl hsum hc hlen
  have hll : lt.length ≤ 1099511627776 := by rw [ht, List.length_map] at hlen; exact hlen
  have hls : ls.length ≤ 1099511627776 := by rw [hs, List.length_map] at hsf; exact hsf
  have HPl := hide (place_any vt lt k w h.t.row (by omega))
  have HPs := hide (place_any vs ls k w h.s.row (by omega))
  have HWi := hide (with_any vt lt k w h.t.row (fun e he => row_one (h.t.by8 e he)) hll)
  have hat := atK_in (L := lt) (k := k) (by omega)
  have has := atK_in (L := ls) (k := k) (by omega)
  have hnn := atK_neg (L := lt) (k := k)
  have hns := atK_neg (L := ls) (k := k)
  rw [← ht] at hnn
  rw [← hs] at hns
  have c4 := cell_blk h.blk 4 (v := .bool ro) rfl
  have c1 := cell_blk h.blk 1 (v := vt) rfl
  have c2 := cell_blk h.blk 2 (v := vs) rfl
  have HY := hide h
  have HT := hide ht
  have HS := hide hs
  have HSf := hide hS
  have HLf := hide hl
  have HSame : Hid (RIn S w P ⟨rc, rth, rsf, rl, ro⟩) := ⟨vt, lt, vs, ls, h, ht, hs⟩
  unfold Rf.create
  dsimp only
  generalize (Rf.mk rc rth rsf rl ro).room = M at *
  clear h ht hs hl hS hsum hsf hc hlen
  cases ro with
  | true =>
    rw [if_pos rfl]
    unfold DidR
    clear HRo
    go_enter Try.func34, Try.ntmps34
    go_wp2
    go_ret
    exact ⟨rfl, HSame.out, Keep.refl _ _⟩
  | false =>
    rw [if_neg (by decide)]
    generalize atK lt k = A at *
    generalize atK ls k = B at *
    by_cases ha : k < 1
    · rw [if_pos (.inl ha)]
      unfold DidR
      clear HRo hnn hns
      go_enter Try.func34, Try.ntmps34
      go_wp2
      go_ret
      exact ⟨rfl, HSame.out, Keep.refl _ _⟩
    · by_cases hb : 1099511627776 < k
      · rw [if_pos (.inr hb)]
        have hb' : k > 1099511627776 := hb
        unfold DidR
        clear HRo hnn hns
        go_enter Try.func34, Try.ntmps34
        go_wp2
        go_ret
        exact ⟨rfl, HSame.out, Keep.refl _ _⟩
      · rw [if_neg (by omega)]
        have hb' : ¬ k > 1099511627776 := hb
        by_cases hA : A < 0
        · have hA' : ¬ A ≥ 0 := by omega
          by_cases hB : B < 0
          · have hB' : ¬ B ≥ 0 := by omega
            rw [if_neg (by rw [hnn.1 hA, hns.1 hB]; simp)]
            by_cases hM : M < 64
            · rw [if_pos hM]
              have hM' : (M : Int) < 64 := by omega
              unfold DidR
              clear hnn hns
              go_enter Try.func34, Try.ntmps34
              go_wp2_with (first
                | (go_at_call 54; first | (with_reducible refine HPl.out.mono ?_; rintro e w1 ⟨rfl, hw⟩; have hw := hw.symm; subst hw) | (with_reducible refine HPs.out.mono ?_; rintro e w1 ⟨rfl, hw⟩; have hw := hw.symm; subst hw))
                | (go_at_call 55; refine HRo.out.mono ?_; rintro e w1 ⟨rfl, hw⟩; have hw := hw.symm; subst hw))
              go_ret
              exact ⟨rfl, HSame.out, Keep.refl _ _⟩
            · rw [if_neg hM]
              have hM' : ¬ (M : Int) < 64 := by omega
              clear hnn hns
              go_enter Try.func34, Try.ntmps34
              go_wp2_with (first
                | (go_at_call 54; first | (with_reducible refine HPl.out.mono ?_; rintro e w1 ⟨rfl, hw⟩; have hw := hw.symm; subst hw) | (with_reducible refine HPs.out.mono ?_; rintro e w1 ⟨rfl, hw⟩; have hw := hw.symm; subst hw))
                | (go_at_call 55; refine HRo.out.mono ?_; rintro e w1 ⟨rfl, hw⟩; have hw := hw.symm; subst hw)
                | (go_at_call 56
                   refine HWi.out.mono ?_
                   rintro e w1 ⟨v', rfl, hrow, hk1⟩
                   obtain ⟨a', c', rfl, _⟩ := ownsRow_sh hrow
                   have hb1 := (hk1.block P (Array.getElem?_eq_some_iff.1 HY.out.blk).1 fun f => f).trans HY.out.blk
                   have d1 := cell_blk hb1 1 (v := vt) rfl
                   have g1 := frozen_blk hb1 1
                   have hLs := HY.out.t.ins hk1 hrow HSf.out
                   have hX := HY.out.putT hk1 hLs (insV_ap HY.out hrow)
                   have HK2 := hide hX.2
                   have HC := hide (counted_any S _ P ⟨rc, insS rth (k, []), rsf, rl, false⟩ ⟨_, insV lt (news k), vs, ls, hX.1, by rw [insV_sg, HT.out]; rfl, HS.out⟩ HLf.out)
                   clear hb1 hLs hX hrow hk1)
                | (go_at_call 57
                   refine HC.out.mono ?_
                   rintro e w3 ⟨rfl, hr3, hk3⟩))
              go_ret
              exact ⟨rfl, hr3, HK2.out.more hk3⟩
          · have hB' : B ≥ 0 := by omega
            rw [if_pos (.inr fun e => hB (hns.2 e))]
            unfold DidR
            clear HRo hnn hns
            go_enter Try.func34, Try.ntmps34
            go_wp2_with (go_at_call 54; first | (with_reducible refine HPl.out.mono ?_; rintro e w1 ⟨rfl, hw⟩; have hw := hw.symm; subst hw) | (with_reducible refine HPs.out.mono ?_; rintro e w1 ⟨rfl, hw⟩; have hw := hw.symm; subst hw))
            go_ret
            exact ⟨rfl, HSame.out, Keep.refl _ _⟩
        · have hA' : A ≥ 0 := by omega
          rw [if_pos (.inl fun e => hA (hnn.2 e))]
          unfold DidR
          clear HRo hnn hns
          go_enter Try.func34, Try.ntmps34
          go_wp2_with (go_at_call 54; refine HPl.out.mono ?_; rintro e w1 ⟨rfl, hw⟩; have hw := hw.symm; subst hw)
          go_ret
          exact ⟨rfl, HSame.out, Keep.refl _ _⟩
end DP
end Go.Proofs.Ytilpidioengnbaa

/- DiskPlays: the document's Sync. -/
namespace Go.Proofs.Ytilpidioengnbaa
namespace DP
open Go.RowKit

/-- another list of what is safe, of blocks of its own -/
theorem RAt.putS {S : Nat → Prop} {w w1 : World} {P cap : Nat} {vt vs v' : Value} {lt ls L' : List Sv} {left : Option Nat} {off : Bool} (h : RAt S w P cap vt lt vs ls left off) (k1 : Keep (fun _ => False) w w1) (hL : LsIn (fun g => w.heap.size ≤ g) w1 v' L') (hS : ∀ i, w.heap.size ≤ i → S i) :
    RAt S (w1.setCell ⟨P, 2, none⟩ v') P cap vt lt v' L' left off ∧ Keep S w (w1.setCell ⟨P, 2, none⟩ v') := by
  have b1 : w1.heap[P]? = some (.cells (cellsR cap vt vs left off) 64 (0, 0)) := (k1.block P (Array.getElem?_eq_some_iff.1 h.blk).1 fun f => f).trans h.blk
  refine ⟨⟨(set_blk b1 2 v').trans rfl, h.sp, (h.t.stay k1 fun _ _ _ f => f).stayP b1 2 v', (hL.mono hS).stayP b1 2 v', fun g hg hg2 => ?_⟩, (k1.mono fun _ f => f.elim).more (Keep.setCell _ (show S P from h.sp) _)⟩
  have h1 := h.t.lt hg
  have h2 : w.heap.size ≤ g := by
    rcases hg2 with e | ⟨x, hx, e⟩
    · exact hL.sv g e
    · exact hL.sb x hx g e
  omega
theorem sumS_mem {L : List Sg} {e : Sg} (h : e ∈ L) : e.2.length ≤ sumS L := by
  induction L with
  | nil => cases h
  | cons x r ih =>
    have e1 : sumS (x :: r) = 64 + x.2.length + sumS r := by simp [sumS]
    rcases List.mem_cons.1 h with rfl | h
    · omega
    · have := ih h; omega
set_option maxRecDepth 100000 in
set_option maxHeartbeats 800000 in
theorem refSync_any (S : Nat → Prop) (w : World) (P : Nat) (r : Rf) (h : RIn S w P r) (hS : ∀ i, w.heap.size ≤ i → S i) (hlen : r.th.length ≤ 1099511627776) (hby : ∀ e ∈ r.th, e.2.length ≤ 67108864) (hl : ∀ n, r.left = some n → n ≤ 9223372036854775807) :
    Calls Try.prog 37 #[.pointer (some ⟨P, 0, none⟩)] w (DidR S w P r.sync) := by
  have HSame := hide h
  have HCt := hide (counted_any S w P r h hl)
  obtain ⟨vt, lt, vs, ls, h, ht, hs⟩ := h
  obtain ⟨rc, rth, rsf, rl, ro⟩ := r
  dsimp only at h ht hs hl hlen hby
  have hll : lt.length ≤ 1099511627776 := by rw [ht, List.length_map] at hlen; exact hlen
  have HCp := hide (copied_any vt lt w h.t hll fun e he => by
    have h1 := hby e.sg (by rw [ht]; exact List.mem_map_of_mem he)
    have h2 : e.sg.2.length = e.b.length := rfl
    omega)
  have c4 := cell_blk h.blk 4 (v := .bool ro) rfl
  have c3 := cell_blk h.blk 3 (v := .int .i64 (lefI rl)) rfl
  have c1 := cell_blk h.blk 1 (v := vt) rfl
  have HY := hide h
  have HT := hide ht
  have HSf := hide hS
  have HLf := hide hl
  unfold Rf.sync
  dsimp only
  clear h ht hs hS hlen hby
  cases ro with
  | true =>
    rw [if_pos rfl]
    unfold DidR
    clear HCt hl
    go_enter Try.func37, Try.ntmps37
    go_wp2
    go_ret
    exact ⟨rfl, HSame.out, Keep.refl _ _⟩
  | false =>
    rw [if_neg (by decide)]
    by_cases h0 : rl = some 0
    · rw [if_pos h0]
      subst h0
      replace c3 : w.cell? ⟨P, 3, none⟩ = some (.int .i64 0) := c3
      clear hl
      go_enter Try.func37, Try.ntmps37
      go_wp2_with (go_at_call 57; refine HCt.out.mono ?_; rintro e w3 ⟨rfl, hr3, hk3⟩)
      go_ret
      exact ⟨rfl, hr3, hk3⟩
    · rw [if_neg h0]
      have hne : ((lefI rl) == 0) = false := by
        unfold lefI
        cases rl with
        | none => rfl
        | some n => simp; intro e; exact h0 (by rw [e])
      have hne2 : ¬ lefI rl = 0 := by simpa using hne
      clear HCt hl h0
      generalize hq : lefI rl = Q at c3 hne hne2
      clear hq
      go_enter Try.func37, Try.ntmps37
      go_wp2_with (first
        | (go_at_call 30
           refine HCp.out.mono ?_
           rintro e w1 ⟨v', rfl, out, hL, hsg, hk1⟩
           obtain ⟨a', c', rfl, _⟩ := ownsRow_sh hL.row
           have hb1 := (hk1.block P (Array.getElem?_eq_some_iff.1 HY.out.blk).1 fun f => f).trans HY.out.blk
           have d2 := cell_blk hb1 2 (v := vs) rfl
           have g2 := frozen_blk hb1 2
           have hX := HY.out.putS hk1 hL HSf.out
           have HK2 := hide hX.2
           have HC := hide (counted_any S _ P ⟨rc, rth, rth, rl, false⟩ ⟨_, lt, _, out, hX.1, HT.out, by rw [hsg, HT.out]⟩ HLf.out)
           clear hb1 hL hX hsg hk1)
        | (go_at_call 57
           refine HC.out.mono ?_
           rintro e w3 ⟨rfl, hr3, hk3⟩))
      go_ret
      exact ⟨rfl, hr3, HK2.out.more hk3⟩
end DP
end Go.Proofs.Ytilpidioengnbaa
