/- The document's answer: the writer. -/
import Derived.Test.YteaokgolnhdloaaPKnown
namespace Go.Proofs.Yteaokgolnhdloaa
open Go.RowKit

/-- a writer in memory -/
structure Vr (w : World) (p : Nat) (v : Value) (s : K.WS) : Prop where
  blk : w.heap[p]? = some (.cells #[v, .int .i64 (s.most : Nat), .int .i64 (s.fault : Nat)] 107 (0, 0))
  row : w.ownsRow 0 5 1 v s.laid.length (B8 s.laid)
  byt : ∀ d ∈ s.laid, d < 256
  len : s.laid.length ≤ s.most
  top : s.most ≤ 16777216

theorem Vr.ne {w : World} {p : Nat} {v : Value} {s : K.WS} (h : Vr w p v s) : v.ownBlock ≠ some p := by
  intro e
  rcases h.row.2 with ⟨rfl, _⟩ | ⟨g, cap, cur, rfl, _, hg, _⟩
  · cases e
  · simp only [Value.ownBlock, Option.some.injEq] at e
    subst e
    rw [h.blk] at hg
    simp at hg

theorem Vr.keep {w w' : World} {p : Nat} {v : Value} {s : K.WS} (h : Vr w p v s) {S : Nat → Prop} (hk : Keep S w w') (hS : ∀ k, Wset p v k → ¬ S k) : Vr w' p v s := by
  refine ⟨hk.blk h.blk (hS p (.inl rfl)), ?_, h.byt, h.len, h.top⟩
  refine ⟨h.row.1, ?_⟩
  rcases h.row.2 with h' | ⟨g, cap, cur, rfl, hb, hg, rest⟩
  · exact .inl h'
  · exact .inr ⟨g, cap, cur, rfl, hb, hk.blk hg (hS g (.inr rfl)), rest⟩

/-- a writer at p, in a world that came of w0 by what writing does -/
structure VAt (S : Nat → Prop) (w0 : World) (p : Nat) (s : K.WS) (w : World) : Prop where
  keep : Keep S w0 w
  wr : ∃ v, Vr w p v s ∧ ∀ k, Wset p v k → S k ∨ w0.heap.size ≤ k

/-- whatever else is done, the writer's blocks untouched -/
theorem VAt.other {S : Nat → Prop} {w0 : World} {p : Nat} {s : K.WS} {w w' : World} (h : VAt S w0 p s w) {T : Nat → Prop} (hk : Keep T w w') (hT : ∀ k, T k → w.heap.size ≤ k) : VAt S w0 p s w' := by
  obtain ⟨v, hv, hs⟩ := h.wr
  refine ⟨h.keep.trans hk fun i hi => .inr (Nat.le_trans h.keep.size (hT i hi)), v, hv.keep hk fun k hw ht => ?_, hs⟩
  have := hT k ht
  rcases hw with rfl | hw
  · have := (Array.getElem?_eq_some_iff.1 hv.blk).1; omega
  · have := (hv.row.lt k hw).2; omega

theorem VAt.below {S : Nat → Prop} {w0 : World} {p : Nat} {s : K.WS} {w w' : World} (h : VAt S w0 p s w) (hb : Below w.heap.size w w') : VAt S w0 p s w' :=
  h.other (T := fun _ => False) (Keep.ofBelow hb (Nat.le_refl _)) fun _ h => h.elim

theorem Vr.set2 {w : World} {p : Nat} {v : Value} {s : K.WS} (h : Vr w p v s) (e : Nat) : Vr (w.setCell ⟨p, 2, none⟩ (.int .i64 (e : Nat))) p v { s with fault := e } := by
  have hk : Keep (fun k => k = p) w (w.setCell ⟨p, 2, none⟩ (.int .i64 (e : Nat))) := Keep.setCell (S := fun k => k = p) w (p := ⟨p, 2, none⟩) rfl _
  refine ⟨?_, ?_, h.byt, h.len, h.top⟩
  · rw [heap_setCell_same w p 2 _ _ _ h.blk]; rfl
  · refine ⟨h.row.1, ?_⟩
    rcases h.row.2 with h' | ⟨g, cap, cur, rfl, hb, hg, rest⟩
    · exact .inl h'
    · exact .inr ⟨g, cap, cur, rfl, hb, hk.blk hg (fun e => h.ne (by rw [e]; rfl)), rest⟩

/-- what the walk wants to see of a writer -/
theorem VAt.see {S : Nat → Prop} {w0 : World} {p : Nat} {s : K.WS} {w : World} (h : VAt S w0 p s w) :
    ∃ v c, w.cell? ⟨p, 0, none⟩ = some (.slice v s.laid.length c) ∧ w.cell? ⟨p, 1, none⟩ = some (.int .i64 (s.most : Nat)) ∧ w.cell? ⟨p, 2, none⟩ = some (.int .i64 (s.fault : Nat)) ∧ (∀ i, w.frozen? ⟨p, i, none⟩ = false) ∧ s.laid.length ≤ s.most ∧ s.most ≤ 16777216 := by
  obtain ⟨v, hv, _⟩ := h.wr
  obtain ⟨a, c, rfl, _⟩ := ownsRow_rd hv.row hv.byt (by have := hv.len; have := hv.top; omega)
  exact ⟨a, c, cell0 hv.blk, cell1 hv.blk, cell2 hv.blk, fun i => frozen_of_row w p i _ _ hv.blk, hv.len, hv.top⟩

theorem VAt.drew {S : Nat → Prop} {w0 : World} {p : Nat} {s : K.WS} {w : World} (h : VAt S w0 p s w) : VAt S w0 p s w.drew := h.other (T := fun _ => False) (Keep.drew _ _) fun _ h => h.elim

/-- behind an append to what was laid, and the store -/
theorem Vr.laid {w w2 : World} {p : Nat} {v v' : Value} {s : K.WS} {bs : List Nat} (h : Vr w p v s) (hg : w.grownBy w2 v.ownBlock) (hn : NewBlk w v v') (hr : w2.ownsRow 0 5 1 v' (s.laid ++ bs).length (B8 (s.laid ++ bs)))
    (hb : ∀ d ∈ bs, d < 256) (hl : s.laid.length + bs.length ≤ s.most) : Vr (w2.setCell ⟨p, 0, none⟩ v') p v' { s with laid := s.laid ++ bs } := by
  have hp := (Array.getElem?_eq_some_iff.1 h.blk).1
  have hblk : w2.heap[p]? = some (.cells #[v, .int .i64 (s.most : Nat), .int .i64 (s.fault : Nat)] 107 (0, 0)) := (hg.block p hp fun e => h.ne e.symm).trans h.blk
  have hk : Keep (fun k => k = p) w2 (w2.setCell ⟨p, 0, none⟩ v') := Keep.setCell (S := fun k => k = p) w2 (p := ⟨p, 0, none⟩) rfl _
  refine ⟨?_, ?_, ?_, by simpa using hl, h.top⟩
  · rw [heap_setCell_same w2 p 0 _ _ _ hblk]; rfl
  · refine ⟨hr.1, ?_⟩
    rcases hr.2 with h' | ⟨g, cap, cur, rfl, hb, hgg, rest⟩
    · exact .inl h'
    · refine .inr ⟨g, cap, cur, rfl, hb, hk.blk hgg (fun e => ?_), rest⟩
      subst e
      rcases hn with hn | hn
      · exact h.ne hn.symm
      · have := hn g rfl; omega
  · intro d hd
    rcases List.mem_append.1 hd with h' | h'
    · exact h.byt d h'
    · exact hb d h'

theorem VAt.laid {S : Nat → Prop} {w0 w w2 : World} {p : Nat} {v v' : Value} {s : K.WS} {bs : List Nat} (hk : Keep S w0 w) (h : Vr w p v s) (hs : ∀ k, Wset p v k → S k ∨ w0.heap.size ≤ k) (hg : w.grownBy w2 v.ownBlock) (hn : NewBlk w v v') (hr : w2.ownsRow 0 5 1 v' (s.laid ++ bs).length (B8 (s.laid ++ bs)))
    (hb : ∀ d ∈ bs, d < 256) (hl : s.laid.length + bs.length ≤ s.most) : VAt S w0 p { s with laid := s.laid ++ bs } (w2.setCell ⟨p, 0, none⟩ v') := by
  refine ⟨?_, v', h.laid hg hn hr hb hl, ?_⟩
  · refine (hk.grownNew hg fun k e => hs k (.inr e)).trans (T := fun k => k = p) (Keep.setCell (S := fun k => k = p) w2 (p := ⟨p, 0, none⟩) rfl _) fun i hi => hs i (.inl hi)
  · rintro k (rfl | e)
    · exact hs _ (.inl rfl)
    · rcases hn with hn | hn
      · exact hs k (.inr (hn ▸ e))
      · exact .inr (Nat.le_trans hk.size (hn k e))

theorem wrong_any (S : Nat → Prop) (w0 : World) (p : Nat) (s : K.WS) (e : Nat) (w : World) (h : VAt S w0 p s w) :
    Calls Try.prog 60 #[.pointer (some ⟨p, 0, none⟩), .int .i64 (e : Nat)] w fun en w' => en = .returned (.tuple #[]) ∧ VAt S w0 p (s.fail e) w' := by
  obtain ⟨v, c, h0, h1, h2, hf, _, _⟩ := h.see
  have hf2 := hf 2
  have HH := hide h
  clear h hf
  by_cases hz : s.fault = 0
  · have hz' : ((s.fault : Nat) : Int) = 0 := by omega
    rw [hz'] at h2
    go_enter Try.func60, Try.ntmps60
    go_wp2
    go_end0
    refine ⟨rfl, ?_⟩
    obtain ⟨v, hv, hs⟩ := HH.out.wr
    unfold K.WS.fail
    rw [if_pos hz]
    exact ⟨HH.out.keep.trans (T := fun k => k = p) (Keep.setCell (S := fun k => k = p) w (p := ⟨p, 2, none⟩) rfl _) fun i hi => hs i (.inl hi), v, hv.set2 e, hs⟩
  · have hz' : (((s.fault : Nat) : Int) == 0) = false := by simpa using hz
    go_enter Try.func60, Try.ntmps60
    go_wp2
    go_end0
    refine ⟨rfl, ?_⟩
    unfold K.WS.fail
    rw [if_neg hz]
    exact HH.out

theorem putW_fault {f : K.WS → K.WS} {s : K.WS} (h : ¬ s.fault = 0) : putW f s = s := by unfold putW; rw [if_neg h]

theorem Lay_any (S : Nat → Prop) (w0 : World) (p : Nat) (s : K.WS) (a : Option Addr) (n c : Nat) (bs : List Nat) (w : World) (h : VAt S w0 p s w) (hr : Rd w a n bs) (h0 : a = none → c = 0) (hn : n ≤ 140737488351300) :
    Calls Try.prog 61 #[.pointer (some ⟨p, 0, none⟩), .slice a n c] w fun en w' => en = .returned (.tuple #[]) ∧ VAt S w0 p (putW (fun s => s.lay bs) s) w' := by
  obtain ⟨v, hv, hs⟩ := h.wr
  obtain ⟨av, cv, rfl, _⟩ := ownsRow_rd hv.row hv.byt (by have := hv.len; have := hv.top; omega)
  have c0 := cell0 hv.blk
  have c1 := cell1 hv.blk
  have c2 := cell2 hv.blk
  have f2 := frozen_of_row w p 2 _ _ hv.blk
  have hlen := hv.len
  have htop := hv.top
  have hrn := hr.1
  have HRN := hide hrn
  have HV := hide hv
  have HS := hide hs
  have HH := hide h
  have HR := hide hr
  have H0 := hide h0
  clear hv hs h hr h0 hrn
  generalize hs' : putW (fun s => s.lay bs) s = s'
  have HS' := hide hs'
  clear hs'
  by_cases hz : s.fault = 0
  · rw [hz] at c2
    have c2' : w.cell? ⟨p, 2, none⟩ = some (.int .i64 0) := c2
    rw [putW_zero hz] at HS'
    have HZ := hide hz
    clear c2 hz
    by_cases hf : s.laid.length + n ≤ s.most
    · have HE : Hid ({ s with laid := s.laid ++ bs } = s') := by show _ = _; rw [← HS'.out]; show _ = K.WS.lay s bs; unfold K.WS.lay; rw [if_pos (by rw [← HRN.out]; exact hf)]
      have HVD := hide (HV.out.keep (Keep.drew (fun _ => False) w) fun _ _ h => h)
      have HKD := hide (HH.out.drew.keep)
      have HRD := hide (HR.out.keep (Below.refl w.heap.size w).drew)
      have HNL : Hid (s.laid.length + bs.length ≤ s.most) := by show _ ≤ _; rw [← HRN.out]; exact hf
      have hsum : s.laid.length + n ≤ 140737488355328 := by omega
      go_enter Try.func61, Try.ntmps61
      go_wp2
      go_region
      all_goals go_wp2_with (at_builtin; refine wpList_append_rd rfl _ _ rfl (.slice av s.laid.length cv) s.laid 0 rfl HVD.out.row a n c bs rfl HRD.out H0.out hsum (Nat.zero_le _) ?_; intro v' w2 ho hg hnb; obtain ⟨a', c', hv'⟩ := ownsRow_shape ho; obtain ⟨m1, hm1⟩ : ∃ m1, m1 = (s.laid ++ bs).length := ⟨_, rfl⟩; rw [← hm1] at hv'; have HM1 := hide hm1; clear hm1; subst hv'; have hb3 := (hg.block p (Array.getElem?_eq_some_iff.1 HVD.out.blk).1 (fun e => HVD.out.ne e.symm)).trans HVD.out.blk; have d0 := cell0 hb3; have d1 := frozen_of_row w2 p 0 _ _ hb3; have HA3 := hide (VAt.laid HKD.out HVD.out HS.out hg hnb ho HR.out.2.2.1 HNL.out); clear ho hg hnb hb3)
      all_goals go_end0
      all_goals (refine ⟨rfl, ?_⟩; rw [← HE.out]; exact HA3.out)
    · have HE : Hid ({ s with fault := 20 } = s') := by
        show _ = _
        rw [← HS'.out]
        show _ = K.WS.lay s bs
        unfold K.WS.lay
        rw [if_neg (by rw [← HRN.out]; exact hf)]
        unfold K.WS.fail
        rw [if_pos HZ.out]
      go_enter Try.func61, Try.ntmps61
      go_wp2
      go_region
      all_goals go_wp2
      all_goals (first | go_end0 | refine bodyPost_ret (results_none rfl _ _ _) rfl ?_)
      all_goals
        refine ⟨rfl, ?_⟩
        rw [← HE.out]
        obtain ⟨v9, hv9, hs9⟩ := HH.out.drew.wr
        exact ⟨HH.out.drew.keep.trans (T := fun k => k = p) (Keep.setCell (S := fun k => k = p) w.drew (p := ⟨p, 2, none⟩) rfl _) fun i hi => hs9 i (.inl hi), v9, hv9.set2 20, hs9⟩
  · have hz' : (((s.fault : Nat) : Int) == 0) = false := by simpa using hz
    rw [putW_fault hz] at HS'
    go_enter Try.func61, Try.ntmps61
    go_wp2
    first | go_end0 | refine bodyPost_ret (results_none rfl _ _ _) rfl ?_
    refine ⟨rfl, ?_⟩
    rw [← HS'.out]
    exact HH.out

set_option maxRecDepth 10000 in
set_option maxHeartbeats 400000 in
theorem LayNumber_any (n0 : Nat) (hn0 : n0 ≤ 9223372036854775807) (w : World) :
    Calls Try.prog 62 #[.int .i64 (n0 : Nat)] w fun en w' => ∃ a c, en = .returned (.slice a (K.num n0).length c) ∧ Rd w' a (K.num n0).length (K.num n0) ∧ (a = none → c = 0) ∧ Below w.heap.size w w' := by
  have HN := hide (K.num_len9 hn0)
  go_enter Try.func62, Try.ntmps62
  go_wp2
  go_loopw [0, 3] (fun i v wx => ∃ (n : Nat) (l : List Nat), i = .int .i64 (n : Nat) ∧ n ≤ 9223372036854775807 ∧ l ++ K.num n = K.num n0 ∧ (∀ d ∈ l, d < 256) ∧ wx.ownsRow w.heap.size 5 1 v l.length (B8 l) ∧ Below w.heap.size w wx) (fun i _ _ => (intOf i).toNat)
  case atStart => exact ⟨n0, [], rfl, hn0, rfl, (fun d hd => by cases hd), World.ownsRow_nil _ _ _ _, Below.refl _ _⟩
  case round =>
    obtain ⟨n, l, rfl, hn, hl, hd, ho, hb⟩ := hrel
    have hll : l.length ≤ 9 := by have := HN.out; have h2 := congrArg List.length hl; rw [List.length_append] at h2; omega
    have HL := hide hl
    have HD := hide hd
    have HO := hide ho
    have HB := hide hb
    have HR := fun d hd => hide (rd_one wr d hd)
    have HS : Hid (w.heap.size ≤ (wr.alloc (.cells #[.int .u8 0] 5)).heap.size) := by show _ ≤ _; have := hb.size; simp; omega
    clear hl hd ho hb
    by_cases hlt : n < 128
    · have hm : (n : Int) % 256 = (n : Int) := by omega
      go_wp2_with (at_builtin; refine wpList_append_rd rfl _ _ rfl _ l w.heap.size rfl (HO.out.alloc _) _ 1 1 [n] rfl (HR n (by omega)).out (fun e => by cases e) (by omega) (by have := HS.out; simp at this ⊢; omega) ?_; intro v' w2 ho2 hg hnb; obtain ⟨a', c', hv'⟩ := ownsRow_shape ho2; subst hv'; have HO2 := hide ho2; have HG := hide hg; clear ho2 hg hnb)
      go_ret
      have hnum : l ++ [n] = K.num n0 := by rw [← HL.out, K.num_small hlt]
      have ho2 := HO2.out
      rw [hnum] at ho2
      obtain ⟨a2, c2, h1, h2, h3, h4, h5⟩ := ownsRow_rd ho2 (K.num_lt n0) (by have := HN.out; omega)
      injection h1 with e1 e2 e3
      subst e1; subst e3
      exact ⟨a', c', by rw [← hnum]; simp, h2, h3, below_grown HB.out _ HG.out fun k hk => (HO.out.lt k hk).1⟩
    · obtain ⟨d, hd⟩ : ∃ d, d = n % 128 + 128 := ⟨_, rfl⟩
      have ht : (n : Int).tmod 128 = ((n % 128 : Nat) : Int) := by rw [Int.tmod_eq_emod_of_nonneg (by omega)]; omega
      have ht2 : (n : Int).tdiv 128 = ((n / 128 : Nat) : Int) := by rw [Int.tdiv_eq_ediv_of_nonneg (by omega)]; omega
      have HDD := hide hd
      have hd8 : d < 256 := by omega
      have HR2 : Hid (Rd (wr.alloc (.cells #[.int .u8 ((n : Int) % 128 + 128)] 5)) (some ⟨wr.heap.size, 0, none⟩) 1 [d]) := by
        have h := rd_one wr d hd8
        rw [show (d : Int) = (n : Int) % 128 + 128 by omega] at h
        exact h
      clear hd
      go_wp2_with (at_builtin; refine wpList_append_rd rfl _ _ rfl _ l w.heap.size rfl (HO.out.alloc _) _ 1 1 [d] rfl HR2.out (fun e => by cases e) (by omega) (by have := HS.out; simp at this ⊢; omega) ?_; intro v' w2 ho2 hg hnb; have HO2 := hide ho2; have HG := hide hg; clear ho2 hg hnb)
      go_roundw
      case rel =>
        refine ⟨n / 128, l ++ [d], by go_num, by omega, ?_, ?_, HO2.out, below_grown HB.out _ HG.out fun k hk => (HO.out.lt k hk).1⟩
        · rw [← HL.out, K.num_big (n := n) (by omega), HDD.out, List.append_assoc]; rfl
        · intro x hx
          rcases List.mem_append.1 hx with hx | hx
          · exact HD.out x hx
          · simp at hx; omega
      case measure => simp [intOf]; omega

theorem RNewWriter_any (m : Int) (w : World) :
    Calls Try.prog 21 #[.int .i64 m] w fun en w' => en = .returned (.pointer (some ⟨w.heap.size, 0, none⟩)) ∧ VAt (fun k => w.heap.size ≤ k) w w.heap.size ⟨[], room m, 0⟩ w' := by
  have HT : Hid (room m ≤ 16777216) := by show _ ≤ _; unfold room; omega
  have HF : Hid (∀ T, VAt (fun k => w.heap.size ≤ k) w w.heap.size ⟨[], room m, 0⟩ (w.alloc (.cells #[.slice none 0 0, .int .i64 (room m : Nat), .int .i64 0] 107)) ∨ T) := by
    refine fun T => .inl ⟨Keep.alloc _ _ _, .slice none 0 0, ⟨heap_alloc_new w _, World.ownsRow_nil _ _ _ _, (fun d hd => by cases hd), Nat.zero_le _, HT.out⟩, ?_⟩
    rintro k (rfl | h)
    · exact .inl (Nat.le_refl _)
    · cases h
  have HF2 := hide ((HF.out False).resolve_right id)
  clear HF
  by_cases h0 : m < 0
  · have hr : room m = 0 := by unfold room; omega
    rw [hr] at HF2 ⊢
    clear hr
    go_enter Try.func21, Try.ntmps21
    go_wp2
    go_ret
    exact ⟨rfl, HF2.out⟩
  · by_cases h1 : 16777216 < m
    · have hr : room m = 16777216 := by unfold room; omega
      rw [hr] at HF2 ⊢
      clear hr
      go_enter Try.func21, Try.ntmps21
      go_wp2
      go_ret
      exact ⟨rfl, HF2.out⟩
    · have hr : ((room m : Nat) : Int) = m := by unfold room; omega
      rw [hr] at HF2
      clear hr
      go_enter Try.func21, Try.ntmps21
      go_wp2
      go_ret
      exact ⟨rfl, HF2.out⟩

set_option maxRecDepth 10000 in
theorem RDone_any (S : Nat → Prop) (w0 : World) (p : Nat) (s : K.WS) (w : World) (h : VAt S w0 p s w) :
    Calls Try.prog 24 #[.pointer (some ⟨p, 0, none⟩)] w fun en w' => ∃ v, en = .returned (.tuple #[v, .int .i64 (s.fault : Nat)]) ∧ w'.ownsRow w.heap.size 5 1 v (told s).length (B8 (told s)) ∧ Below w.heap.size w w' ∧ Fine (told s) := by
  obtain ⟨v, hv, hs⟩ := h.wr
  have hlen : s.laid.length ≤ 16777216 := Nat.le_trans hv.len hv.top
  obtain ⟨a, c, rfl, hr, h0, _⟩ := ownsRow_rd hv.row hv.byt (by omega)
  have HFN : Hid (Fine (told s)) := by
    show Fine (told s)
    unfold told
    split
    · exact ⟨hv.byt, hlen⟩
    · exact ⟨fun d hd => (by cases hd), Nat.zero_le _⟩
  have c0 := cell0 hv.blk
  have c2 := cell2 hv.blk
  have hba := (Below.refl w.heap.size w).alloc (Nat.le_refl _) (.cells #[] 5)
  have c0' : (w.alloc (.cells #[] 5)).cell? ⟨p, 0, none⟩ = some (.slice a s.laid.length c) := (Keep.ofBelow (S := fun _ => False) hba (Nat.le_refl _)).cell c0 fun h => h
  have HR := hide (hr.keep hba)
  have H0 := hide h0
  have HO := hide (ownsRow_empty w)
  clear hv hs h hr h0 hba
  unfold told at HFN ⊢
  by_cases hz : s.fault = 0
  · rw [if_pos hz] at HFN ⊢
    rw [hz]
    rw [hz] at c2
    have c2' : w.cell? ⟨p, 2, none⟩ = some (.int .i64 0) := c2
    clear c2
    go_enter Try.func24, Try.ntmps24
    go_wp2_with (at_builtin; refine wpList_append_rd rfl _ _ rfl _ [] w.heap.size rfl HO.out a s.laid.length c s.laid rfl HR.out H0.out (by show 0 + _ ≤ _; omega) (by simp) ?_; intro v' w2 ho2 hg hnb; rw [List.nil_append] at ho2; have HO2 := hide ho2; have HG := hide hg; clear ho2 hg hnb)
    go_ret2
    exact ⟨v', rfl, HO2.out, below_grown (Below.refl _ _) _ HG.out fun k hk => (HO.out.lt k hk).1, HFN.out⟩
  · rw [if_neg hz] at HFN ⊢
    have hz' : ((s.fault : Nat) : Int) ≠ 0 := by omega
    go_enter Try.func24, Try.ntmps24
    go_wp2
    go_region
    all_goals go_wp2
    all_goals go_ret2
    all_goals exact ⟨_, rfl, World.ownsRow_nil _ _ _ _, (Below.refl _ _).drew, HFN.out⟩

end Go.Proofs.Yteaokgolnhdloaa
