/- Package wheel: Advance. -/
import Derived.Test.YtbjapgajbljhfaaWAdv
import Derived.RangeFuncBox
import Derived.Maps.AppendAt
namespace Go.Proofs.Ytbjapgajbljhfaa
namespace Wh
open Go.RowKit Go.Shelf
attribute [local go_sem] Oper.semAt_some

theorem info_timer : (Try.prog.info? 32).map (fun i => (i.zero, i.size, i.bytes)) = some (some (.agg #[.int .i64 0, .int .i64 0, .int .i64 0]), 3, 24) := by kernel_rfl

theorem cells_new3 (W : World) (a b c : Value) (t : TypeId) : ∀ j u, [a, b, c][j]? = some u → (W.alloc (.cells #[a, b, c] t)).cell? ((⟨W.heap.size, 0, none⟩ : Addr).add j) = some u := by
  intro j u hu
  have hadd : (⟨W.heap.size, 0, none⟩ : Addr).add j = ⟨W.heap.size, j, none⟩ := by unfold Addr.add; split <;> simp_all
  rw [hadd]
  exact cell_blk (heap_alloc_new _ _) j (by simpa using hu)

/-- a timer is laid behind the list -/
theorem AdI.appended {tw te ts tt : TypeId} {S0 : Nat → Prop} {W2 W w1 : World} {P Ba : Nat} {s : St} {to x : Nat} {out pre : List Nat} {m_ : St} {v v' : Value} {tmp : Obj} (h : AdI tw te ts tt S0 W2 P Ba s to out pre m_ v W) (hS : ∀ k, S0 k → k < W2.heap.size) (hSa : ¬ S0 Ba) (hBa : Ba < W2.heap.size) (hz : W2.heap.size + 1 < W.heap.size)
    (hown : w1.ownsRow (W2.heap.size + 2) tt 3 v' (pre.length + 1) (cells3 s pre ++ [.int .i64 (x : Nat), .int .i64 (s.due x : Nat), s.what x])) (hg : (W.alloc tmp).grownBy w1 v.ownBlock) :
    AdI tw te ts tt S0 W2 P Ba s to out (pre ++ [x]) m_ v' (w1.setCell ⟨Ba, 0, none⟩ v') ∧ Same2 W2.heap.size W (w1.setCell ⟨Ba, 0, none⟩ v') := by
  have hlt : ∀ k, v.ownBlock = some k → W2.heap.size + 2 ≤ k := fun k e => (h.row.lt k e).1
  have k1 : Keep (fun k => W2.heap.size + 2 ≤ k) W w1 := (Keep.alloc _ _ _).more (Keep.grown hg hlt)
  have k2 : Keep (fun k => W2.heap.size + 2 ≤ k ∨ k = Ba) W (w1.setCell ⟨Ba, 0, none⟩ v') := (k1.mono fun _ e => .inl e).more (Keep.setCell _ (.inr rfl) _)
  have hb1 := k1.blk h.box (by show ¬ (W2.heap.size + 2 ≤ Ba); omega)
  refine ⟨⟨h.mid, h.at_.stay k2 (fun k _ e1 e2 => ?_), set_blk hb1 0 v', ?_, ?_⟩, k2.same2 hz (by show ¬ (W2.heap.size + 2 ≤ W2.heap.size ∨ W2.heap.size = Ba); omega) (by show ¬ (W2.heap.size + 2 ≤ W2.heap.size + 1 ∨ W2.heap.size + 1 = Ba); omega)⟩
  · have := hS k e1
    rcases e2 with e2 | e2
    · omega
    · exact hSa (e2 ▸ e1)
  · rw [cells3_snoc, List.length_append]
    refine ⟨hown.1, hown.2.imp (fun x => x) fun ⟨g, cap, cur, h1, h2, h3, h4⟩ => ⟨g, cap, cur, h1, h2, (keep_cell w1 Ba 0 v').blk h3 (by show ¬ (g = Ba); omega), h4⟩⟩
  · exact h.keep.trans k2 fun k e => by
      rcases e with e | e
      · exact .inr (by omega)
      · exact .inl (.inr e)

/-- what Advance answers -/
def Advs (S : Nat → Prop) (w : World) (P : Nat) (s : St) (to : Nat) (e : Ending) (w' : World) : Prop :=
  ∃ xs v, e = .returned (.tuple #[v, .int .i64 0]) ∧ Adv s to xs ∧ WAt 75 80 S w' P (s.adv to) ∧ w'.ownsRow w.heap.size 32 3 v xs.length (cells3 s xs) ∧ Keep S w w'

set_option maxRecDepth 100000 in
set_option maxHeartbeats 4000000 in
theorem adv_any {S : Nat → Prop} {P : Nat} {s : St} (to : Nat) (w : World) (h : WAt 75 80 S w P s) (h1 : s.now ≤ to) (h2 : to ≤ M) (hlast : s.last < 1048580) (hwt : ∀ id ∈ s.ids, ∃ y1, s.what id = .int .i64 y1) :
    Calls Try.prog 9 #[.pointer (some ⟨P, 0, none⟩), .int .i64 (to : Nat)] w (Advs S w P s to) := by
  obtain ⟨S1, hx, hSl, hSs⟩ := h.exact
  have hdec : decide ((s.now : Int) ≤ (to : Int) ∧ (to : Int) ≤ 4611686018427387904) = true := by unfold M at h2; simp; omega
  have HX := hide hx
  have HSl := hide hSl
  have HSs := hide hSs
  have HT := hide hwt
  clear h hx hSl hSs hwt
  refine (callsIn_wide (n := 3)).1 (callsIn_of_wp_marks Try.func9 rfl trivial ?_ rfl)
  simp only [Try.ntmps9, List.size_toArray, List.length_cons, List.length_nil, Nat.reduceAdd, Nat.reduceSub, Array.replicate_succ, Array.replicate_zero, List.push_toArray, List.append_toArray, List.nil_append, List.cons_append]
  refine wpIn_wide.2 ?_
  go_wp2_with fail
  go_at_call 24
  obtain ⟨hok, m, at_, hw⟩ := HX.out
  refine (aheadI to _ hw).mono ?_
  rw [hdec]
  rintro e w1 ⟨rfl, k1⟩
  have H1 := hide (HX.out.new k1)
  have K1 := hide k1
  clear k1 hw hok
  go_wp2_with fail
  go_at_call 25
  refine (coming_any P to _).mono ?_
  rintro e w3 ⟨rfl, hw3⟩
  obtain ⟨Ba, hBa⟩ : ∃ Ba, Ba = w1.heap.size := ⟨_, rfl⟩
  rw [World.size_alloc, ← hBa]
  have hsz3 : w3.heap.size = Ba + 3 := by rw [hw3, hBa]; simp
  have g0 : Hid (w3.heap[Ba]? = some (.cells #[.slice none 0 0] 27 (0, 0))) := by
    rw [hw3, hBa]
    exact ((Keep.alloc (fun _ => False) _ _).more (Keep.alloc _ _ _)).blk (heap_alloc_new _ _) fun f => f
  have g1 : Hid (w3.cell? ⟨Ba + 1, 0, none⟩ = some (.pointer (some ⟨P, 0, none⟩))) := by
    rw [hw3, hBa]
    have := heap_alloc_new (w1.alloc (.cells #[.slice none 0 0] 27)) (.cells #[.pointer (some ⟨P, 0, none⟩)] 25)
    rw [World.size_alloc] at this
    exact (Keep.alloc (fun _ => False) _ _).cell (cell_blk this 0 rfl) fun f => f
  have g2 : Hid (w3.cell? ⟨Ba + 2, 0, none⟩ = some (.int .i64 (to : Nat))) := by
    rw [hw3, hBa]
    have := heap_alloc_new ((w1.alloc (.cells #[.slice none 0 0] 27)).alloc (.cells #[.pointer (some ⟨P, 0, none⟩)] 25)) (.cells #[.int .i64 (to : Nat)] 3)
    rw [World.size_alloc, World.size_alloc] at this
    exact cell_blk this 0 rfl
  have k13 : Keep (fun _ => False) w1 w3 := by rw [hw3]; exact ((Keep.alloc _ _ _).more (Keep.alloc _ _ _)).more (Keep.alloc _ _ _)
  have H3 := hide (H1.out.new k13)
  have K3 := hide (K1.out.more k13)
  have hszB : w.heap.size ≤ Ba := by rw [hBa]; exact K1.out.size
  clear hw3 k13 hBa
  go_wp2_with fail
  have hSz : ∀ k, S1 k → k < w3.heap.size := fun k e => by have := HSl.out k e; omega
  have hSa : ¬ S1 Ba := fun e => by have := HSl.out _ e; omega
  have hBa3 : Ba < w3.heap.size := by omega
  have hlen0 : s.ids.length ≤ 1048580 := by
    have := keys_bound (l := s.ids.map fun (i : Nat) => (i : Int)) (M := s.last) (by unfold List.Nodup; rw [List.pairwise_map]; exact H3.out.1.srt.imp fun h => by omega) (fun x hx => by obtain ⟨i, hi, rfl⟩ := List.mem_map.1 hx; have := H3.out.1.inn i hi; omega)
    simp at this
    omega
  refine wpIn_wide.1 (wp_range1 (n := 3) (gf := 44) (lb := #[.pointer (some ⟨Ba + 1, 0, none⟩), .pointer (some ⟨Ba + 2, 0, none⟩)]) rfl (enters_of Try.func44 (by kernel_rfl) rfl) (encs := fun x : Nat => #[.agg #[.int .i64 (x : Nat), .int .i64 (s.due x : Nat), s.what x]]) (fun _ => rfl)
    (fun pre W => ∃ m' v, AdI 75 80 27 32 S1 w3 P Ba s to pre pre m' v W) (fun pre x W => ∃ m' v, AdI 75 80 27 32 S1 w3 P Ba s to (pre ++ [x]) pre m' v W)
    (fun pre x a' W => ∃ Bx y m' v, s.what x = .int .i64 y ∧ a' = { tmps := #[.pointer (some ⟨P, 0, none⟩), .int .i64 (to : Nat), undef, undef, .slice none 0 0, .int .i64 0, .pointer (some ⟨Ba, 0, none⟩), .pointer (some ⟨Bx, 0, none⟩), .pointer (some ⟨P, 0, none⟩), .int .i64 (to : Nat), .bool true, .bool false, .pointer (some ⟨P, 0, none⟩), .int .i64 (to : Nat), .func (.func 44) #[] #[.pointer (some ⟨Ba + 1, 0, none⟩), .pointer (some ⟨Ba + 2, 0, none⟩)], .agg #[.int .i64 (x : Nat), .int .i64 (s.due x : Nat), .int .i64 y], undef, undef, undef, undef, undef], defers := [] } ∧ w3.heap.size + 1 < Bx ∧ W.heap[Bx]? = some (.cells #[.int .i64 (x : Nat), .int .i64 (s.due x : Nat), .int .i64 y] 32 (0, 0)) ∧ AdI 75 80 27 32 S1 w3 P Ba s to (pre ++ [x]) pre m' v W)
    (fun xs W' => Adv s to xs ∧ ∃ v, WAt 75 80 S1 W' P (s.adv to) ∧ W'.heap[Ba]? = some (.cells #[v] 27 (0, 0)) ∧ W'.ownsRow (w3.heap.size + 2) 32 3 v xs.length (cells3 s xs) ∧ Keep (fun k => S1 k ∨ k = Ba) w3 W') ?h0 ?hY ?hI ?assign ?body ?iter ?done)
  case h0 => exact fun r => ⟨s, .slice none 0 0, AdI.new ⟨Mid.start H3.out.1 h1, H3.out, g0.out, World.ownsRow_nil _ _ _ _, Keep.refl _ _⟩ ((Keep.alloc _ _ _).more (Keep.alloc _ _ _))⟩
  case hY =>
    rintro pre x a' W r ⟨Bx, y, m', v, e0, e1, e2, e3, e4⟩
    exact ⟨Bx, y, m', v, e0, e1, e2, (keep_put _ _ _).blk e3 (by show ¬ (Bx = w3.heap.size + 1); omega), e4.put hSz hBa3 _⟩
  case hI =>
    rintro pre W r ⟨m', v, h⟩
    exact ⟨m', v, h.put hSz hBa3 _⟩
  case iter =>
    intro L hLs hLz hR W hW hL
    exact com1 (Ba + 1) (Ba + 2) 3 H3.out.1 h2 (by omega) HT.out L _ hLs hLz hR W hW hL g1.out g2.out hSz hSa (fun e => by rcases e with e | e; have := HSl.out _ e; omega; omega) (fun e => by rcases e with e | e; have := HSl.out _ e; omega; omega)
  case assign =>
    rintro lr pre x W K ⟨m', v, hA⟩ hlt hK
    obtain ⟨y, hy⟩ := HT.out x (hA.mid.due x (by simp)).1
    rw [hy]
    gi_wp2
    exact hK _ _ ((Keep.alloc (fun _ => False) W _).same2 hlt (fun f => f) (fun f => f)) ⟨W.heap.size, y, m', v, hy, rfl, by omega, heap_alloc_new _ _, hA.new (Keep.alloc _ _ _)⟩
  case body =>
    rintro lr pre x a' W ⟨Bx, y, m', v, e0, rfl, e2, e3, e4⟩ hlt
    obtain ⟨i0, hi, hz0, hz1, hz2⟩ := info_parts info_timer
    have x0 := cell_blk e3 0 (v := .int .i64 (x : Nat)) rfl
    have x1 := cell_blk e3 1 (v := .int .i64 (s.due x : Nat)) rfl
    have x2 := cell_blk e3 2 (v := .int .i64 y) rfl
    have c6 := cell_blk e4.box 0 (v := v) rfl
    have HI := hide (And.intro hi (And.intro hz0 (And.intro hz1 hz2)))
    have H4 := hide e4
    have hpl : pre.length + 1 ≤ 1048580 := by have := e4.mid.lt H3.out.1; simp at this; omega
    have HX3 := hide e3
    have E0 := hide e0
    clear e3 e4 e0 hi hz0 hz1 hz2
    gi_wp2_with (gi_at_builtin
                 refine wpListIn_append_own _ rfl _ _ 27 rfl (w3.heap.size + 2) 32 i0 (.agg #[.int .i64 0, .int .i64 0, .int .i64 0]) 3 24 Try.underlying27 HI.out.1 HI.out.2.1 HI.out.2.2.1 HI.out.2.2.2 rfl (by decide) v pre.length (cells3 s pre) rfl (H4.out.row.alloc _) ⟨W.heap.size, 0, none⟩ 1 1 [.int .i64 (x : Nat), .int .i64 (s.due x : Nat), .int .i64 y] rfl rfl (cells_new3 W _ _ _ _) (by simp [Value.oneCell']) (by unfold maxLen; omega) (by omega) (by simp; omega) ?_
                 intro v' w5 hown' hgrow _
                 obtain ⟨g', cap', rfl⟩ := ownsRow_succ hown'
                 have hown2 := hown'
                 rw [← E0.out] at hown2
                 have AP := hide (H4.out.appended hSz hSa hBa3 hlt hown2 hgrow)
                 have k5 : Keep (fun k => w3.heap.size + 2 ≤ k) W w5 := (Keep.alloc _ _ _).more (Keep.grown hgrow fun k e => (H4.out.row.lt k e).1)
                 have hb5 := k5.blk H4.out.box (by show ¬ (w3.heap.size + 2 ≤ Ba); omega)
                 have d6 := cell_blk hb5 0 (v := v) rfl
                 have d7 := frozen_blk hb5 0
                 clear hown' hown2 hgrow k5 hb5)
    exact ⟨by have := AP.out.2; rwa [hsz3] at this, m', _, AP.out.1⟩
  case done =>
    rintro xs W r ⟨hadv, v, hW, hbx, hrow, hkp⟩ hlt hK
    have hk := keep_put W (w3.heap.size + 1) (.loop r)
    have hK' : (W.putObj (w3.heap.size + 1) (.loop r)).heap[w3.heap.size]? = some (.deferred (some [])) := (World.putObj_heap_other (by omega)).trans hK
    have hb := hk.blk hbx (by show ¬ (Ba = w3.heap.size + 1); omega)
    have c6 := cell_blk hb 0 (v := v) rfl
    have HW := hide (hW.stay hk (fun k _ e1 e2 => by have := hSz k e1; omega))
    have HRo : Hid ((W.putObj (w3.heap.size + 1) (.loop r)).ownsRow (w3.heap.size + 2) 32 3 v xs.length (cells3 s xs)) := ⟨hrow.1, hrow.2.imp (fun x => x) fun ⟨g, cap, cur, h1, h2, h3, h4⟩ => ⟨g, cap, cur, h1, h2, hk.blk h3 (by show ¬ (g = w3.heap.size + 1); omega), h4⟩⟩
    have HKp := hide (hkp.trans hk fun k e => .inr (by omega))
    have HAd := hide hadv
    have HK' := hide hK'
    clear hK' hW hrow hkp hadv hb hbx hK
    obtain ⟨W8, hW8⟩ : ∃ W8, W8 = W.putObj (w3.heap.size + 1) (.loop r) := ⟨_, rfl⟩
    rw [← hW8] at c6 HW HRo HKp HK' ⊢
    clear hW8 hk
    go_wp2_with fail
    have hk2 := keep_put W8 w3.heap.size (.deferred none)
    refine ⟨by simp, .inl ⟨_, _, rfl, run_takeDeferred HK'.out, ?_⟩⟩
    refine ⟨_, results_tmp2 rfl _ _ _, xs, v, rfl, HAd.out, ?_, ?_, ?_⟩
    · exact (HW.out.stay hk2 (fun k _ e1 e2 => by have := hSz k e1; omega)).mono HSs.out
    · refine ⟨HRo.out.1, HRo.out.2.imp (fun x => x) fun ⟨g, cap, cur, h1, h2, h3, h4⟩ => ⟨g, cap, cur, h1, by omega, hk2.blk h3 (by show ¬ (g = w3.heap.size); omega), h4⟩⟩
    · exact ((K3.out.mono (T := S) fun _ e => e.elim).trans HKp.out fun k e => e.elim (fun e => .inl (HSs.out k e)) fun e => .inr (by omega)).trans hk2 fun k e => .inr (by omega)

end Wh
end Go.Proofs.Ytbjapgajbljhfaa
