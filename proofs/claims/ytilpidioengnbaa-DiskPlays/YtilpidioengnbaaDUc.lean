import Derived.Test.YtilpidioengnbaaDTz
/- DiskPlays: the document's Copy. -/
namespace Go.Proofs.Ytilpidioengnbaa
namespace DP
open Go.RowKit

/-- what Copy answers -/
def CopyR (w : World) (r : Rf) (e : Ending) (w' : World) : Prop := ∃ D, e = .returned (.pointer (some ⟨D, 0, none⟩)) ∧ RIn (fun g => w.heap.size ≤ g) w' D r ∧ Keep (fun _ => False) w w'
set_option maxRecDepth 100000 in
set_option maxHeartbeats 4000000 in
theorem refCopy_any (S : Nat → Prop) (w : World) (P : Nat) (r : Rf) (h : RIn S w P r) (hlen : r.th.length ≤ 1099511627776) (hsf : r.sf.length ≤ 1099511627776) (hby : ∀ e ∈ r.th, e.2.length ≤ 67108864) (hby2 : ∀ e ∈ r.sf, e.2.length ≤ 67108864) :
    Calls Try.prog 9 #[.pointer (some ⟨P, 0, none⟩)] w (CopyR w r) := by
  obtain ⟨vt, lt, vs, ls, h, ht, hs⟩ := h
  obtain ⟨rc, rth, rsf, rl, ro⟩ := r
  dsimp only at h ht hs hlen hsf hby hby2
  have hll : lt.length ≤ 1099511627776 := by rw [ht, List.length_map] at hlen; exact hlen
  have hls : ls.length ≤ 1099511627776 := by rw [hs, List.length_map] at hsf; exact hsf
  have hb1 : ∀ e ∈ lt, e.b.length ≤ 140737488355328 := fun e he => by
    have h1 := hby e.sg (by rw [ht]; exact List.mem_map_of_mem he)
    have h2 : e.sg.2.length = e.b.length := rfl
    omega
  have hb2 : ∀ e ∈ ls, e.b.length ≤ 140737488355328 := fun e he => by
    have h1 := hby2 e.sg (by rw [hs]; exact List.mem_map_of_mem he)
    have h2 : e.sg.2.length = e.b.length := rfl
    omega
  obtain ⟨w1, hw1⟩ : ∃ w1, w1 = w.alloc (.cells #[.int .i64 (rc : Nat), vt, vs, .int .i64 (lefI rl), .bool ro] 64) := ⟨_, rfl⟩
  have k1 : Keep (fun _ => False) w w1 := by rw [hw1]; exact Keep.alloc _ _ _
  have hB1 : w1.heap[w.heap.size]? = some (.cells #[.int .i64 (rc : Nat), vt, vs, .int .i64 (lefI rl), .bool ro] 64 (0, 0)) := by rw [hw1]; exact heap_alloc_new w _
  have h1 := h.stay k1 fun _ _ _ f => f
  have HCp1 := hide (copied_any vt lt w1 h1.t hll hb1)
  have hPl : P < w.heap.size := (Array.getElem?_eq_some_iff.1 h.blk).1
  have hsz1 : w1.heap.size = w.heap.size + 1 := by rw [hw1, World.size_alloc]
  have HSz1 := hide hsz1
  have HP := hide hPl
  have HB1 := hide hB1
  have HK1 := hide k1
  have H1 := hide h1
  have HW1 := hide hw1
  have HB2 := hide hb2
  have HLs := hide hls
  have HT := hide ht
  have HS := hide hs
  have c0 := cell_blk h.blk 0 (v := .int .i64 (rc : Nat)) rfl
  have c1 := cell_blk h.blk 1 (v := vt) rfl
  have c2 := cell_blk h.blk 2 (v := vs) rfl
  have c3 := cell_blk h.blk 3 (v := .int .i64 (lefI rl)) rfl
  have c4 := cell_blk h.blk 4 (v := .bool ro) rfl
  obtain ⟨ta, tc, hvt, _⟩ := ownsRow_sh h.t.row
  obtain ⟨sa, sc, hvs, _⟩ := ownsRow_sh h.s.row
  generalize lt.length = tn at hvt
  generalize ls.length = sn at hvs
  subst hvt hvs
  clear h ht hs hlen hsf hby hby2 hll hls hb1 hb2 k1 hB1 h1 hw1 hsz1
  go_enter Try.func9, Try.ntmps9
  go_wp2_with fail
  rw [← HW1.out]
  refine HCp1.out.mono ?_
  rintro e w2 ⟨v1, rfl, o1, hl1, hs1, hk2⟩
  obtain ⟨a1, c1', hv1, _⟩ := ownsRow_sh hl1.row
  obtain ⟨n1, hn1⟩ : ∃ n1, n1 = o1.length := ⟨_, rfl⟩
  rw [← hn1] at hv1
  clear hn1
  subst hv1
  have hB2 := hk2.blk HB1.out fun f => f
  have y1 := cell_blk hB2 1 (v := .slice ta tn tc) rfl
  have g1 := frozen_blk hB2 1
  have kD := keep_cell w2 w.heap.size 1 (.slice a1 n1 c1')
  have hB3 := set_blk hB2 1 (.slice a1 n1 c1')
  have hs2 := H1.out.s.stay hk2 fun _ _ _ f => f
  have hs3 := hs2.stayG kD (hs2.neP hB2)
  have HCp2 := hide (copied_any _ ls _ hs3 HLs.out HB2.out)
  have e2 : w2.cell? ⟨P, 2, none⟩ = some (.slice sa sn sc) := hk2.cell (HK1.out.cell c2 fun f => f) fun f => f
  have hne : ¬ P = w.heap.size := by have := HP.out; omega
  have hne2 : ¬ w.heap.size = P := by have := HP.out; omega
  obtain ⟨w3, hw3⟩ : ∃ w3, w3 = w2.setCell ⟨w.heap.size, 1, none⟩ (.slice a1 n1 c1') := ⟨_, rfl⟩
  have HW3 := hide hw3
  have hsz2 := hk2.size
  rw [← hw3] at kD hB3 HCp2
  have HL3 : Hid (LsIn (fun g => w1.heap.size ≤ g) w3 (.slice a1 n1 c1') o1) := by rw [hw3]; exact hl1.stayP hB2 1 _
  have HL3t : Hid (∀ g, Bl (.slice a1 n1 c1') o1 g → g < w2.heap.size) := fun g hg => hl1.lt hg
  have HK3 : Hid (Keep (fun _ => False) w w3) := (HK1.out.more hk2).trans kD fun b e3 => .inr (by have e3 : b = w.heap.size := e3; omega)
  have HS1 := hide (hs1.trans HT.out.symm)
  have HKs := hide kD.size
  have HB3 := hide hB3
  clear hl1 hs1 hk2 hB2 kD hB3 hs2 hs3 hw3 hsz2 c0 c1 c2 c3 c4
  go_wp2_with fail
  rw [← HW3.out]
  refine HCp2.out.mono ?_
  rintro e w4 ⟨v2, rfl, o2, hl2, hs2, hk4⟩
  obtain ⟨a2, c2', hv2, _⟩ := ownsRow_sh hl2.row
  obtain ⟨n2, hn2⟩ : ∃ n2, n2 = o2.length := ⟨_, rfl⟩
  rw [← hn2] at hv2
  clear hn2
  subst hv2
  have hB4 := hk4.blk HB3.out fun f => f
  have y2 := cell_blk hB4 2 (v := .slice sa sn sc) rfl
  have g2 := frozen_blk hB4 2
  have kE := keep_cell w4 w.heap.size 2 (.slice a2 n2 c2')
  have hB5 := set_blk hB4 2 (.slice a2 n2 c2')
  have HFin : Hid (CopyR w ⟨rc, rth, rsf, rl, ro⟩ (.returned (.pointer (some ⟨w.heap.size, 0, none⟩))) (w4.setCell ⟨w.heap.size, 2, none⟩ (.slice a2 n2 c2'))) := by
    have hz1 := HSz1.out
    have hz2 := HK3.out.size
    have hL4 := HL3.out.stay hk4 fun _ _ _ f => f
    refine ⟨_, rfl, ⟨_, o1, _, o2, ⟨hB5.trans rfl, Nat.le_refl _, (hL4.mono fun b (hb : w1.heap.size ≤ b) => (by omega : w.heap.size ≤ b)).stayP hB4 2 _, (hl2.mono fun b (hb : w3.heap.size ≤ b) => Nat.le_trans hz2 hb).stayP hB4 2 _, fun b hb hb2 => ?_⟩, HS1.out.symm, (hs2.trans HS.out.symm).symm⟩, (HK3.out.more hk4).trans kE fun b e3 => .inr (by have e3 : b = w.heap.size := e3; omega)⟩
    have h1 := HL3t.out b hb
    have h2 : w3.heap.size ≤ b := by
      rcases hb2 with e | ⟨x, hx, e⟩
      · exact hl2.sv b e
      · exact hl2.sb x hx b e
    have h3 := HKs.out
    omega
  clear hB4 kE hB5 hl2 hs2 hk4
  go_wp2_with fail
  go_ret
  exact HFin.out
end DP
end Go.Proofs.Ytilpidioengnbaa

/- DiskPlays: a step of the document's disk, and of both (mathematics). -/
namespace Go.Proofs.Ytilpidioengnbaa
namespace DP
open Go.RowKit

def stepR (r : Rf) (q : Stp) : Int × Rf :=
  if pickV q.what 12 = 0 then r.create q.seg else if pickV q.what 12 = 1 then r.append q.seg q.b else if pickV q.what 12 = 2 then r.remove q.seg else if pickV q.what 12 = 3 then r.sync
  else if pickV q.what 12 = 4 then r.append q.seg q.thick else if pickV q.what 12 = 5 then (if r.off then 56 else if lookS r.th q.seg = none then 53 else 0, r) else if pickV q.what 12 = 6 then (if r.off then 56 else 0, r)
  else if pickV q.what 12 = 7 then r.arm q.n else if pickV q.what 12 = 8 then (0, r) else if pickV q.what 12 = 9 then r.spoil q.seg q.n q.mask else if pickV q.what 12 = 10 then (if r.off then 56 else 0, r) else (0, r.crash q.fate)
def numR (r : Rf) (q : Stp) : Int := if pickV q.what 12 = 6 ∧ r.off = false then (r.room : Int) else 0
def isR (r : Rf) (q : Stp) : Bool := decide (pickV q.what 12 = 8) && r.off
def ksR (r : Rf) (q : Stp) : List Int := if pickV q.what 12 = 10 ∧ r.off = false then r.th.map Prod.fst else []
def bsR (r : Rf) (q : Stp) : List Nat := if pickV q.what 12 = 5 ∧ r.off = false then (lookS r.th q.seg).getD [] else []
theorem step_ag {r : Rf} {s t : St} {q : Stp} {c : Int} {n : Nat} (h : Ag r s) (g : Good n s) (hs : StepTo s q c t) : (stepR r q).1 = c ∧ Ag (stepR r q).2 t := by
  have hp := pickV_in q.what 12 (by decide)
  obtain ⟨h0, h1, h2, h3, h4, h5, h6, h7, h8, h9, h10, h11⟩ := hs
  have fin : ∀ {x : Int × Rf} {y : Int × St}, (c, t) = y → (x.1 = y.1 ∧ Ag x.2 y.2) → x.1 = c ∧ Ag x.2 t := fun e k => by rw [← e] at k; exact k
  unfold stepR
  by_cases g0 : pickV q.what 12 = 0
  · rw [if_pos g0]; exact fin (h0 g0) (h.create g _)
  rw [if_neg g0]
  by_cases g1 : pickV q.what 12 = 1
  · rw [if_pos g1]; exact fin (h1 g1) (h.append g _ _)
  rw [if_neg g1]
  by_cases g2 : pickV q.what 12 = 2
  · rw [if_pos g2]; exact fin (h2 g2) (h.remove _)
  rw [if_neg g2]
  by_cases g3 : pickV q.what 12 = 3
  · rw [if_pos g3]; exact fin (h3 g3) h.sync
  rw [if_neg g3]
  by_cases g4 : pickV q.what 12 = 4
  · rw [if_pos g4]; exact fin (h4 g4) (h.append g _ _)
  rw [if_neg g4]
  by_cases g5 : pickV q.what 12 = 5
  · rw [if_pos g5]
    obtain ⟨rfl, rfl⟩ := h5 g5
    refine ⟨?_, h⟩
    dsimp only
    unfold St.find
    rw [h.th, h.off]
  rw [if_neg g5]
  by_cases g6 : pickV q.what 12 = 6
  · rw [if_pos g6]
    obtain ⟨rfl, rfl⟩ := h6 g6
    exact ⟨by dsimp only; rw [h.off], h⟩
  rw [if_neg g6]
  by_cases g7 : pickV q.what 12 = 7
  · rw [if_pos g7]; exact fin (h7 g7) (h.arm _)
  rw [if_neg g7]
  by_cases g8 : pickV q.what 12 = 8
  · rw [if_pos g8]
    obtain ⟨rfl, rfl⟩ := h8 g8
    exact ⟨rfl, h⟩
  rw [if_neg g8]
  by_cases g9 : pickV q.what 12 = 9
  · rw [if_pos g9]; exact fin (h9 g9) (h.spoil _ _ _)
  rw [if_neg g9]
  by_cases g10 : pickV q.what 12 = 10
  · rw [if_pos g10]
    obtain ⟨rfl, rfl⟩ := h10 g10
    exact ⟨by dsimp only; rw [h.off], h⟩
  rw [if_neg g10]
  obtain ⟨rfl, hc⟩ := h11 (by omega)
  exact ⟨rfl, h.crash (fun k l m h1 h2 => g.pre k l m h1 h2) hc⟩
theorem ans_ag {r : Rf} {s : St} {q : Stp} {n : Nat} {N : Int} {is : Bool} {ks : List Int} {bs : List Nat} (h : Ag r s) (g : Good n s) (ha : Ans s q N is ks bs) : numR r q = N ∧ isR r q = is ∧ ksR r q = ks ∧ bsR r q = bs := by
  refine ⟨?_, ?_, ?_, ?_⟩
  · rw [ha.n, numR, h.off, h.room g]
  · rw [ha.is, isR, h.off]
  · unfold ksR
    refine open_uniq ?_ ha.srt fun k => ?_
    · split
      · exact (srtS_iff _).1 h.srt
      · exact List.Pairwise.nil
    · rw [ha.mem, h.off]
      split
      · rename_i g0
        rw [h.th]
        constructor
        · intro hk
          obtain ⟨e, he, rfl⟩ := List.mem_map.1 hk
          exact ⟨g0.1, g0.2, by rw [h.srt.mem he]; simp⟩
        · rintro ⟨_, _, hk⟩
          obtain ⟨b, hb⟩ := Option.ne_none_iff_exists'.1 hk
          exact List.mem_map.2 ⟨_, lookS_some hb, rfl⟩
      · rename_i g0
        constructor
        · intro hk; cases hk
        · rintro ⟨e1, e2, _⟩
          exact absurd ⟨e1, e2⟩ g0
  · rw [ha.bs, bsR, h.off]
    unfold St.bytes
    rw [h.th]
theorem fit2_of {r : Rf} {s : St} {n : Nat} (h : Ag r s) (g : Good n s) : ∀ e ∈ r.sf, e.2.length ≤ 67108864 := fun e he => by
  have h1 := h.srt2.mem he
  rw [← h.sf] at h1
  cases ht : s.there e.1 with
  | none =>
    exact g.len e.1 e.2 (by unfold St.held; rw [ht]; exact h1)
  | some l =>
    have h2 := (g.pre e.1 l e.2 ht h1).1
    have h3 := g.len e.1 l (by unfold St.held; rw [ht])
    omega
theorem crash_len {r : Rf} {s : St} {n : Nat} (h : Ag r s) (g : Good n s) (z : List Int) : (crashS r.th r.sf z).length ≤ 1099511627776 := by
  have hp : Pre r.th r.sf := fun k l m h1 h2 => g.pre k l m ((h.th k).trans h1) ((h.sf k).trans h2)
  refine srt_bound ((crash_all r.th r.sf h.srt h.srt2 hp).2.2 z).1 fun e he => ?_
  rcases crashS_mem _ _ _ _ he with ⟨x, hx, hxe⟩ | ⟨x, hx, hxe⟩
  · rw [← hxe]
    exact g.seg x.1 (by unfold St.held; rw [h.th, h.srt.mem hx]; simp)
  · rw [← hxe]
    refine g.seg x.1 ?_
    unfold St.held
    rw [h.sf, h.srt2.mem hx]
    cases s.there x.1 <;> simp
end DP
end Go.Proofs.Ytilpidioengnbaa
