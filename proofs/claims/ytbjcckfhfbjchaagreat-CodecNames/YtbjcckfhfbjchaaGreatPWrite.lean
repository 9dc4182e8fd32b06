/- Package pack: contracts of the writer's functions. -/
import Derived.Test.YtbjcckfhfbjchaaGreatPBase
import Derived.RegionTactic
namespace Go.Proofs.YtbjcckfhfbjchaaGreat
open Go.RowKit

theorem cell0 {w : World} {p : Nat} {x y z : Value} {T : TypeId} (h : w.heap[p]? = some (.cells #[x, y, z] T (0, 0))) : w.cell? ⟨p, 0, none⟩ = some x := by rw [cell_of_row _ _ 0 _ _ _ h]; rfl
theorem cell1 {w : World} {p : Nat} {x y z : Value} {T : TypeId} (h : w.heap[p]? = some (.cells #[x, y, z] T (0, 0))) : w.cell? ⟨p, 1, none⟩ = some y := by rw [cell_of_row _ _ 1 _ _ _ h]; rfl
theorem cell2 {w : World} {p : Nat} {x y z : Value} {T : TypeId} (h : w.heap[p]? = some (.cells #[x, y, z] T (0, 0))) : w.cell? ⟨p, 2, none⟩ = some z := by rw [cell_of_row _ _ 2 _ _ _ h]; rfl

theorem Wr.set2 {w : World} {p : Nat} {v : Value} {s : K.WS} (h : Wr w p v s) (e : Nat) : Wr (w.setCell ⟨p, 2, none⟩ (.int .i64 (e : Nat))) p v { s with fault := e } := by
  have hk : Keep (fun k => k = p) w (w.setCell ⟨p, 2, none⟩ (.int .i64 (e : Nat))) := Keep.setCell (S := fun k => k = p) w (p := ⟨p, 2, none⟩) rfl _
  refine ⟨?_, ?_, h.byt, h.len, h.top⟩
  · rw [heap_setCell_same w p 2 _ _ _ h.blk]; rfl
  · refine ⟨h.row.1, ?_⟩
    rcases h.row.2 with h' | ⟨g, cap, cur, rfl, hb, hg, rest⟩
    · exact .inl h'
    · exact .inr ⟨g, cap, cur, rfl, hb, hk.blk hg (fun e => h.ne (by rw [e]; rfl)), rest⟩

/-- what the walk wants to see of a writer -/
theorem WAt.see {S : Nat → Prop} {w0 : World} {p : Nat} {s : K.WS} {w : World} (h : WAt S w0 p s w) :
    ∃ v c, w.cell? ⟨p, 0, none⟩ = some (.slice v s.laid.length c) ∧ w.cell? ⟨p, 1, none⟩ = some (.int .i64 (s.most : Nat)) ∧ w.cell? ⟨p, 2, none⟩ = some (.int .i64 (s.fault : Nat)) ∧ (∀ i, w.frozen? ⟨p, i, none⟩ = false) ∧ s.laid.length ≤ s.most ∧ s.most ≤ 16777216 := by
  obtain ⟨v, hv, _⟩ := h.wr
  obtain ⟨a, c, rfl, _⟩ := ownsRow_rd hv.row hv.byt (by have := hv.len; have := hv.top; omega)
  exact ⟨a, c, cell0 hv.blk, cell1 hv.blk, cell2 hv.blk, fun i => frozen_of_row w p i _ _ hv.blk, hv.len, hv.top⟩

theorem fail_any (S : Nat → Prop) (w0 : World) (p : Nat) (s : K.WS) (e : Nat) (_he : e < 1000) (w : World) (h : WAt S w0 p s w) :
    Calls Tryz.prog 115 #[.pointer (some ⟨p, 0, none⟩), .int .i64 (e : Nat)] w fun en w' => en = .returned (.tuple #[]) ∧ WAt S w0 p (s.fail e) w' := by
  obtain ⟨v, c, h0, h1, h2, hf, _, _⟩ := h.see
  have hf2 := hf 2
  have HH := hide h
  clear h hf
  by_cases hz : s.fault = 0
  · have hz' : ((s.fault : Nat) : Int) = 0 := by omega
    rw [hz'] at h2
    go_enter Tryz.func115, Tryz.ntmps115
    go_wp2
    go_end0
    refine ⟨rfl, ?_⟩
    obtain ⟨v, hv, hs⟩ := HH.out.wr
    unfold K.WS.fail
    rw [if_pos hz]
    exact ⟨HH.out.keep.trans (T := fun k => k = p) (Keep.setCell (S := fun k => k = p) w (p := ⟨p, 2, none⟩) rfl _) fun i hi => hs i (.inl hi), v, hv.set2 e, hs⟩
  · have hz' : (((s.fault : Nat) : Int) == 0) = false := by simpa using hz
    go_enter Tryz.func115, Tryz.ntmps115
    go_wp2
    go_end0
    refine ⟨rfl, ?_⟩
    unfold K.WS.fail
    rw [if_neg hz]
    exact HH.out

theorem Fail_any (S : Nat → Prop) (w0 : World) (p : Nat) (s : K.WS) (w : World) (h : WAt S w0 p s w) :
    Calls Tryz.prog 69 #[.pointer (some ⟨p, 0, none⟩)] w fun en w' => en = .returned (.tuple #[]) ∧ WAt S w0 p (s.fail 22) w' := by
  have HH := hide h
  clear h
  go_enter Tryz.func69, Tryz.ntmps69
  go_wp2_with (go_at_call 115; refine (fail_any S w0 p s 22 (by decide) _ HH.out).mono ?_; rintro e w1 ⟨rfl, h1⟩)
  go_end0
  exact ⟨rfl, h1⟩

theorem WAt.drew {S : Nat → Prop} {w0 : World} {p : Nat} {s : K.WS} {w : World} (h : WAt S w0 p s w) : WAt S w0 p s w.drew := h.other (T := fun _ => False) (Keep.drew _ _) fun _ h => h.elim

theorem fits_yes (S : Nat → Prop) (w0 : World) (p : Nat) (s : K.WS) (n : Nat) (_hn : n ≤ 4611686018427387904) (w : World) (h : WAt S w0 p s w) (hz : s.laid.length + n ≤ s.most) :
    Calls Tryz.prog 137 #[.pointer (some ⟨p, 0, none⟩), .int .i64 (n : Nat)] w fun en w' => en = .returned (.bool true) ∧ WAt S w0 p s w' ∧ Below w.heap.size w w' := by
  obtain ⟨v, c, h0, h1, h2, hf, hl, ht⟩ := h.see
  have HH := hide h
  clear h hf
  go_enter Tryz.func137, Tryz.ntmps137
  go_wp2
  go_region
  all_goals go_wp2
  all_goals go_ret
  all_goals exact ⟨rfl, HH.out.drew, (Below.refl _ _).drew⟩

theorem fits_no (S : Nat → Prop) (w0 : World) (p : Nat) (s : K.WS) (n : Nat) (hn : n ≤ 4611686018427387904) (w : World) (h : WAt S w0 p s w) (hz : ¬ s.laid.length + n ≤ s.most) :
    Calls Tryz.prog 137 #[.pointer (some ⟨p, 0, none⟩), .int .i64 (n : Nat)] w fun en w' => en = .returned (.bool false) ∧ WAt S w0 p (s.fail 20) w' := by
  obtain ⟨v, c, h0, h1, h2, hf, hl, ht⟩ := h.see
  have HH := hide h
  clear h hf
  go_enter Tryz.func137, Tryz.ntmps137
  go_wp2
  go_region
  all_goals go_wp2_with (go_at_call 115; refine (fail_any S w0 p s 20 (by decide) _ HH.out.drew).mono ?_; rintro e w1 ⟨rfl, h1⟩)
  all_goals go_ret
  all_goals exact ⟨rfl, h1⟩

/-- behind an append to what was laid, and the store -/
theorem Wr.laid {w w2 : World} {p : Nat} {v v' : Value} {s : K.WS} {bs : List Nat} (h : Wr w p v s) (hg : w.grownBy w2 v.ownBlock) (hn : NewBlk w v v') (hr : w2.ownsRow 0 5 1 v' (s.laid ++ bs).length (B8 (s.laid ++ bs)))
    (hb : ∀ d ∈ bs, d < 256) (hl : s.laid.length + bs.length ≤ s.most) : Wr (w2.setCell ⟨p, 0, none⟩ v') p v' { s with laid := s.laid ++ bs } := by
  have hp := (Array.getElem?_eq_some_iff.1 h.blk).1
  have hblk : w2.heap[p]? = some (.cells #[v, .int .i64 (s.most : Nat), .int .i64 (s.fault : Nat)] 128 (0, 0)) := (hg.block p hp fun e => h.ne e.symm).trans h.blk
  have hk : Keep (fun k => k = p) w2 (w2.setCell ⟨p, 0, none⟩ v') := Keep.setCell (S := fun k => k = p) w2 (p := ⟨p, 0, none⟩) rfl _
  refine ⟨?_, ?_, ?_, by simpa using hl, h.top⟩
  · rw [heap_setCell_same w2 p 0 _ _ _ hblk]; rfl
  · refine ⟨hr.1, ?_⟩
    rcases hr.2 with h' | ⟨g, cap, cur, rfl, hb, hgg, rest⟩
    · exact .inl h'
    · refine .inr ⟨g, cap, cur, rfl, hb, hk.blk hgg (fun e => ?_), rest⟩
      subst e
      rcases hn with hn | hn
      · exact h.ne hn.symm
      · have := hn g rfl; omega
  · intro d hd
    rcases List.mem_append.1 hd with h' | h'
    · exact h.byt d h'
    · exact hb d h'

theorem WAt.laid {S : Nat → Prop} {w0 w w2 : World} {p : Nat} {v v' : Value} {s : K.WS} {bs : List Nat} (hk : Keep S w0 w) (h : Wr w p v s) (hs : ∀ k, Wset p v k → S k ∨ w0.heap.size ≤ k) (hg : w.grownBy w2 v.ownBlock) (hn : NewBlk w v v') (hr : w2.ownsRow 0 5 1 v' (s.laid ++ bs).length (B8 (s.laid ++ bs)))
    (hb : ∀ d ∈ bs, d < 256) (hl : s.laid.length + bs.length ≤ s.most) : WAt S w0 p { s with laid := s.laid ++ bs } (w2.setCell ⟨p, 0, none⟩ v') := by
  refine ⟨?_, v', h.laid hg hn hr hb hl, ?_⟩
  · refine (hk.grownNew hg fun k e => hs k (.inr e)).trans (T := fun k => k = p) (Keep.setCell (S := fun k => k = p) w2 (p := ⟨p, 0, none⟩) rfl _) fun i hi => hs i (.inl hi)
  · rintro k (rfl | e)
    · exact hs _ (.inl rfl)
    · rcases hn with hn | hn
      · exact hs k (.inr (hn ▸ e))
      · exact .inr (Nat.le_trans hk.size (hn k e))

theorem lay_yes (S : Nat → Prop) (w0 : World) (p : Nat) (s : K.WS) (a : Option Addr) (n c : Nat) (bs : List Nat) (w : World) (h : WAt S w0 p s w) (hr : Rd w a n bs) (h0 : a = none → c = 0) (hz : s.laid.length + n ≤ s.most) :
    Calls Tryz.prog 79 #[.pointer (some ⟨p, 0, none⟩), .slice a n c] w fun en w' => en = .returned (.tuple #[]) ∧ WAt S w0 p { s with laid := s.laid ++ bs } w' := by
  have HH := hide h
  have HR := hide hr
  have HZ := hide hz
  have H0 := hide h0
  have hn := hr.2.1
  clear h hr hz h0
  go_enter Tryz.func79, Tryz.ntmps79
  go_wp2_with fail
  refine (fits_yes S w0 p s n (by omega) _ HH.out HZ.out).mono ?_
  rintro e w1 ⟨rfl, h1, hb1⟩
  have HR1 := hide (HR.out.keep hb1)
  have HK := hide h1.keep
  obtain ⟨v, hv, hs⟩ := h1.wr
  have HV := hide hv
  have HS := hide hs
  obtain ⟨av, cv, rfl, _⟩ := ownsRow_rd hv.row hv.byt (by have := hv.len; have := hv.top; omega)
  have c0 := cell0 hv.blk
  have HSUM : Hid (s.laid.length + n ≤ 140737488355328) := by show _ ≤ _; have := HZ.out; have := hv.top; omega
  clear h1 hv hs hb1
  go_wp2_with (at_builtin; refine wpList_append_rd rfl _ _ rfl (.slice av s.laid.length cv) s.laid 0 rfl HV.out.row a n c bs rfl HR1.out H0.out HSUM.out (Nat.zero_le _) ?_; intro v' w2 ho hg hnb; rw [List.length_append] at ho; obtain ⟨a', c', rfl⟩ := ownsRow_shape ho; have HO := hide ho; have HG := hide hg; have HN := hide hnb; have c2 := cell0 ((hg.block p (Array.getElem?_eq_some_iff.1 HV.out.blk).1 (fun e => HV.out.ne e.symm)).trans HV.out.blk); have f2 := frozen_of_row w2 p 0 _ _ ((hg.block p (Array.getElem?_eq_some_iff.1 HV.out.blk).1 (fun e => HV.out.ne e.symm)).trans HV.out.blk); clear ho hg hnb)
  go_end0
  have hrn := HR.out.1
  exact ⟨rfl, WAt.laid HK.out HV.out HS.out HG.out HN.out (by rw [List.length_append]; exact HO.out) HR.out.2.2.1 (by rw [← hrn]; exact HZ.out)⟩

theorem lay_any (S : Nat → Prop) (w0 : World) (p : Nat) (s : K.WS) (a : Option Addr) (n c : Nat) (bs : List Nat) (w : World) (h : WAt S w0 p s w) (hr : Rd w a n bs) (h0 : a = none → c = 0) :
    Calls Tryz.prog 79 #[.pointer (some ⟨p, 0, none⟩), .slice a n c] w fun en w' => en = .returned (.tuple #[]) ∧ WAt S w0 p (s.lay bs) w' := by
  unfold K.WS.lay
  have hrn := hr.1
  by_cases hz : s.laid.length + n ≤ s.most
  · rw [if_pos (by omega)]
    exact lay_yes S w0 p s a n c bs w h hr h0 hz
  · rw [if_neg (by omega)]
    have HH := hide h
    have HZ := hide hz
    have hn := hr.2.1
    clear h hr hz h0 hrn
    go_enter Tryz.func79, Tryz.ntmps79
    go_wp2_with fail
    refine (fits_no S w0 p s n (by omega) _ HH.out HZ.out).mono ?_
    rintro e w1 ⟨rfl, h1⟩
    go_wp2
    go_end0
    exact ⟨rfl, h1⟩

end Go.Proofs.YtbjcckfhfbjchaaGreat
