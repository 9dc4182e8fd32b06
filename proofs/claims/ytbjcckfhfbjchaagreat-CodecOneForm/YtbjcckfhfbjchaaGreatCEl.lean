import Derived.Test.YtbjcckfhfbjchaaGreatCEj
/- Codec: opFields as it is made. -/
namespace Go.Proofs.YtbjcckfhfbjchaaGreat
namespace Cd
open Go.RowKit Go.Deep

def oF (bk bw : Nat) : Array Value := #[.func (.func 45) #[] #[.pointer (some ⟨bk, 0, none⟩), .pointer (some ⟨bw, 0, none⟩)], .func (.func 47) #[] #[.pointer (some ⟨bk, 0, none⟩), .pointer (some ⟨bw, 0, none⟩)]]
theorem sizeFO : (Tryz.prog.info? 65).map (·.size) = some 2 := by kernel_rfl
theorem nil_blk18 {w : World} {g b : Nat} {t T : TypeId} (hg : w.heap[g]? = some (.cells #[.nilFunc, .nilFunc] t (0, 0))) (h : w.heap[b]? = some (.cells waysC T (0, 0))) : ¬ b = g := fun e => by
  subst e
  rw [hg] at h
  simp only [Option.some.injEq, Obj.cells.injEq] at h
  have := congrArg Array.size h.1
  simp [waysC] at this
theorem OF.off {F : Nat} {w w' : World} {bk bw g : Nat} {t : TypeId} (h : OF F w bk bw) (hg : w.heap[g]? = some (.cells #[.nilFunc, .nilFunc] t (0, 0))) (kk : Keep (fun k => k = g) w w') : OF F w' bk bw := by
  obtain ⟨⟨l, m, h1⟩, h2, h3⟩ := h
  exact ⟨⟨l, m, h1.off hg kk⟩, kk.blk h2 (nil_blk18 hg h2), h3⟩
set_option maxRecDepth 10000 in
set_option maxHeartbeats 4000000 in
theorem opFields_any (w : World) :
    Calls Tryz.prog 26 #[] w fun en w' => ∃ bk bw, en = .returned (.agg (oF bk bw)) ∧ OF w.heap.size w' bk bw ∧ Below w.heap.size w w' := by
  have hmf : ∀ (fn : Fn) (first cap : Array Value) (w : World), (Instr.makeFunc fn first cap).run Tryz.prog w = .ok (.func fn first cap) w := fun _ _ _ _ => rfl
  go_enter Tryz.func26, Tryz.ntmps26
  go_upto_region 1 with fail
  have hb0 : Below w.heap.size w (w.alloc (.cells #[.nilFunc, .nilFunc] 65)) := (Below.refl _ _).alloc (Nat.le_refl _) _
  have hx0 := heap_alloc_new w (.cells #[.nilFunc, .nilFunc] 65)
  generalize w.alloc (.cells #[.nilFunc, .nilFunc] 65) = w0 at *
  have hz0 := blk_lt hx0
  have HX0 := hide hx0
  have HB0 := hide hb0
  have HZ0 := hide hz0
  clear hx0 hb0 hz0
  go_wp2_with fail
  refine (Numbers_any 1 9 _).mono ?_
  rintro e w1 ⟨l, m, rfl, hl, hm, t1, t2, hb1⟩
  have HL1 := hide (And.intro (And.intro hl hm) (And.intro t1 t2))
  have HB1 := hide hb1
  clear hl hm t1 t2 hb1
  go_wp2_with fail
  refine (allWays_any _).mono ?_
  rintro e w2 ⟨rfl, hb2⟩
  have HB2 := hide hb2
  clear hb2
  obtain ⟨y1, y2, y3, y4, y5⟩ := st2 w2 90 96 #[.nilFunc, .nilFunc] nilsC (fI l m) waysC
  have Y1 := hide y1
  have Y2 := hide y2
  have Y3 := hide y3
  have Y4 := hide y4
  have Y5 := hide y5
  clear y1 y2 y3 y4 y5
  have hO1 : Hid ((fI l m).all (·.oneCell') = true) := oneF _ _ rfl rfl
  have hO2 := hide onesWy
  go_upto_region 2 with (first
    | (refine wpList_store_row rfl 96 _ _ rfl (w2.heap.size + 1) waysC rfl rfl 96 _ Y2.out sizeWy rfl hO2.out ?_)
    | (refine wpList_store_row rfl 90 _ _ rfl w2.heap.size (fI l m) rfl rfl 90 _ Y1.out sizeFI rfl hO1.out ?_))
  have kk1 := below_keep HB2.out (Nat.le_refl _)
  have kk2 := below_keep Y5.out (Nat.le_refl _)
  have hs1 := HB0.out.size
  have hs2 := HB1.out.size
  have hs3 := HB2.out.size
  have hQ : OF w.heap.size _ w2.heap.size (w2.heap.size + 1) := ⟨⟨l, m, ⟨Y3.out, kk2.cell (kk1.cell HL1.out.1.1 (fun f => f)) (fun f => f), kk2.cell (kk1.cell HL1.out.1.2 (fun f => f)) (fun f => f), by omega, Nat.le_trans hs1 HL1.out.2.1, Nat.le_trans hs1 HL1.out.2.2⟩⟩, Y4.out, by omega⟩
  have HQ := hide hQ
  have BB := hide ((HB0.out.trans (HB1.out.mono hs1)).trans ((HB2.out.mono (Nat.le_trans hs1 hs2)).trans (Y5.out.mono (by omega))))
  have HXg := hide (kk2.blk (kk1.blk (blkB HX0.out HB1.out) (fun f => f)) (fun f => f))
  clear kk1 kk2 hs1 hs2 hs3 hQ HL1 HB0 HB1 HB2 Y1 Y2 Y3 Y4 Y5 hO1 hO2 HX0
  change Code.wp _ _ _ _ ((((w2.alloc (.cells #[.nilFunc, .nilFunc] 90)).alloc (.cells nilsC 96)).setRow w2.heap.size (fI l m)).setRow (w2.heap.size + 1) waysC)
  generalize (((w2.alloc (.cells #[.nilFunc, .nilFunc] 90)).alloc (.cells nilsC 96)).setRow w2.heap.size (fI l m)).setRow (w2.heap.size + 1) waysC = w3 at *
  generalize w2.heap.size = bk at *
  go_wp2_with fail
  refine (MakeOp _ _ _ _ _).mono ?_
  rintro e w11 ⟨rfl, hb11⟩
  have HN11 := hide (HQ.out.keep (below_keep hb11 (Nat.le_refl _)))
  have BB11 := hide (BB.out.trans (hb11.mono BB.out.size))
  have hx := blkB HXg.out hb11
  have HX := hide hx
  have f0 := cell_blk hx 0 rfl
  have f1 := cell_blk hx 1 rfl
  have z0 := frozen_blk hx 0
  have z1 := frozen_blk hx 1
  clear hb11 hx HQ BB HXg
  go_wp2_with fail
  have hks := set2_keep w11 w.heap.size (.func (.func 45) #[] #[.pointer (some ⟨bk, 0, none⟩), .pointer (some ⟨bk + 1, 0, none⟩)]) (.func (.func 47) #[] #[.pointer (some ⟨bk, 0, none⟩), .pointer (some ⟨bk + 1, 0, none⟩)])
  refine bodyPost_ret (results_cell_row rfl _ _ w.heap.size 65 (oF bk (bk + 1)) (0, 0) _ rfl (set2_blk HX.out) Tryz.underlying65 rfl (by kernel_rfl)) rfl ?_
  exact ⟨bk, bk + 1, rfl, HN11.out.off HX.out hks, BB11.out.trans (hks.below (by have := BB11.out.size; omega) fun i e => by have e : i = _ := e; omega)⟩
end Cd
end Go.Proofs.YtbjcckfhfbjchaaGreat

/- Codec: slices.Index, slices.Contains at parts. -/
namespace Go.Proofs.YtbjcckfhfbjchaaGreat
namespace Cd
open Go.RowKit Go.Deep

/-- parts in memory -/
def PsM (w : World) (a : Option Addr) (ps : List Nat) : Prop := ps ≠ [] → ∃ bp, a = some ⟨bp, 0, none⟩ ∧ w.heap[bp]? = some (.cells (ps.map fun p => Value.int .i64 (p : Nat)).toArray 98 (0, 0))
theorem PsM.keep {w w' : World} {a : Option Addr} {ps : List Nat} (h : PsM w a ps) {S : Nat → Prop} (hk : Keep S w w') (hS : ∀ k, S k → ∀ cs, w.heap[k]? ≠ some (.cells cs 98 (0, 0))) : PsM w' a ps := fun hn => by
  obtain ⟨bp, e, hb⟩ := h hn
  exact ⟨bp, e, hk.blk hb fun hs => hS _ hs _ hb⟩
theorem psI_any (a : Option Addr) (ps : List Nat) (j : Nat) (w : World) (h : PsM w a ps) (hn : ps.length ≤ 2) :
    Calls Tryz.prog 132 #[.slice a ps.length ps.length, .int .i64 (j : Nat)] w fun en w' => ∃ i : Int, en = .returned (.int .i64 i) ∧ w' = w ∧ (0 ≤ i ↔ j ∈ ps) := by
  have HP := hide h
  obtain ⟨n, hnn⟩ : ∃ n, ps.length = n := ⟨_, rfl⟩
  have HNN := hide hnn
  rw [hnn] at hn ⊢
  clear h hnn
  go_enter Tryz.func132, Tryz.ntmps132
  go_wp2
  go_loopw [8] (fun i wx => ∃ k : Nat, k ≤ n ∧ i = .int .i64 (k : Nat) ∧ wx = w ∧ ∀ i, i < k → ps[i]? ≠ some j) (fun i _ => n - (intOf i).toNat)
  case atStart => exact ⟨0, Nat.zero_le _, rfl, rfl, fun i hi => by omega⟩
  case round =>
    obtain ⟨k, hk, rfl, rfl, hno⟩ := hrel
    have HNO := hide hno
    clear hno
    by_cases hlt : k < n
    · obtain ⟨x, hx⟩ : ∃ x, ps[k]? = some x := ⟨_, List.getElem?_eq_getElem (by have := HNN.out; omega)⟩
      obtain ⟨bp, rfl, hbp⟩ := HP.out (by intro e; rw [e] at hx; simp at hx)
      have ec := cell_blk hbp k (v := .int .i64 (x : Nat)) (by simp [hx])
      have HX := hide hx
      clear hx hbp
      by_cases hjx : j = x
      · have HJ := hide hjx
        have hb : (((j : Nat) : Int) == ((x : Nat) : Int)) = true := by simp [hjx]
        clear hjx
        go_wp2
        refine bodyPost_ret (results_tmp rfl _ _ _) rfl ?_
        exact ⟨_, rfl, rfl, ⟨fun _ => List.mem_of_getElem? (HJ.out ▸ HX.out), fun _ => by omega⟩⟩
      · have HJ := hide hjx
        have hb : (((j : Nat) : Int) == ((x : Nat) : Int)) = false := by rw [beq_eq_false_iff_ne]; omega
        clear hjx
        go_wp2
        refine ⟨⟨k + 1, by omega, by go_num, by trivial, fun i hi e => ?_⟩, by simp [intOf]; omega⟩
        by_cases hik : i < k
        · exact HNO.out i hik e
        · have hik : i = k := by omega
          subst hik
          rw [HX.out] at e
          exact HJ.out (Option.some.inj e).symm
    · go_wp2
      refine bodyPost_ret (results_tmp rfl _ _ _) rfl ?_
      refine ⟨-1, rfl, rfl, ⟨fun h => by omega, fun h => ?_⟩⟩
      obtain ⟨i, hi⟩ := List.mem_iff_getElem?.1 h
      have : i < ps.length := (List.getElem?_eq_some_iff.1 hi).1
      exact absurd hi (HNO.out i (by have := HNN.out; omega))
theorem psC_any (a : Option Addr) (ps : List Nat) (j : Nat) (w : World) (h : PsM w a ps) (hn : ps.length ≤ 2) :
    Calls Tryz.prog 64 #[.slice a ps.length ps.length, .int .i64 (j : Nat)] w fun en w' => en = .returned (.bool (decide (j ∈ ps))) ∧ w' = w := by
  have HI := hide (psI_any a ps j w h hn)
  clear h hn
  go_enter Tryz.func64, Tryz.ntmps64
  go_wp2_with fail
  refine HI.out.mono ?_
  rintro e w1 ⟨i, rfl, rfl, hi⟩
  by_cases hj : j ∈ ps
  · have h0 : (0 : Int) ≤ i := hi.2 hj
    have HD : Hid (decide (j ∈ ps) = true) := decide_eq_true hj
    clear hj hi
    go_wp2
    refine bodyPost_ret (results_tmp rfl _ _ _) rfl ?_
    rw [HD.out]
    exact ⟨rfl, rfl⟩
  · have h0 : i < (0 : Int) := by
      by_cases h : i < 0
      · exact h
      · exact absurd (hi.1 (by omega)) hj
    have h1 : decide ((0 : Int) ≤ i) = false := decide_eq_false (by omega)
    have HD : Hid (decide (j ∈ ps) = false) := decide_eq_false hj
    clear hj hi
    go_wp2
    refine bodyPost_ret (results_tmp rfl _ _ _) rfl ?_
    rw [HD.out]
    exact ⟨rfl, rfl⟩
end Cd
end Go.Proofs.YtbjcckfhfbjchaaGreat
