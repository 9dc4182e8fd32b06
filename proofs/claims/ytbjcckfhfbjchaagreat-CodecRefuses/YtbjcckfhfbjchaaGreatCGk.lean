/- Codec: the laws' node (written by cgk_gen.py out of CGk.head). -/
import Derived.Test.YtbjcckfhfbjchaaGreatRLst
import Derived.BigQuiet
import Derived.Laws.Tables
import Derived.Deep.CutRange
namespace Go.Proofs.YtbjcckfhfbjchaaGreat
namespace Cd
open Go.RowKit Go.Deep

theorem wpAnyH_named {P : Program} {md : Region.Mode} {ops : Array Oper} {Q : Exit → Act → World → Prop} {S : World → Prop} {fuel : Nat} {listed : Array Bool} {a : Act} {w : World} (h : ∀ O : Array Oper, O = ops → wpAnyH P md O Q S fuel listed a w) : wpAnyH P md ops Q S fuel listed a w := h ops rfl
theorem build_yields {P : Program} {ops : Array Oper} {S : World → Prop} {o : Oper} {a : Act} (t : TypeId) (parts : Array (Nat × Operand)) (ho : o.op = .build t parts) (hg : o.guard = none) (vals : List (Nat × Value)) (hv : (parts.toList.map fun p => (p.1, a.eval p.2)) = vals) (cells : Array Value)
    (hc : P.built t vals = some cells) : YieldsIf P ops S o (.agg cells) a := by
  subst hv
  refine .inl ⟨by simp [Region.wanted, hg], fun w _ => ?_⟩
  have hc2 : P.built t (parts.map fun (i, x) => (i, a.eval x)).toList = some cells := by rw [Array.toList_map]; exact hc
  unfold execOp
  simp only [ho, Sem.run_bind, run_build w t _ cells hc2, Result.andThen_ok]
  rfl
theorem built_nd (NM : ByteArray) (a b c d e f : Int) : Tryz.prog.built 57 [(0, .string NM), (1, .int .i64 a), (2, .int .i64 b), (3, .int .i64 c), (4, .int .i64 d), (6, .int .i64 e), (7, .int .i64 f)] = some #[.string NM, .int .i64 a, .int .i64 b, .int .i64 c, .int .i64 d, .int .i64 0, .int .i64 e, .int .i64 f, .slice none 0 0, .slice none 0 0] := by
  kernel_rfl
theorem delay12_val (c l : Int) (h0 : 0 ≤ l) (hl : l ≤ 1099511627776) (h : In64 c) (w : World) :
    Calls Tryz.prog 23 #[.int .i64 c, .int .i64 l] w fun e w' => e = .returned (.int .i64 (l + pkk c (1099511627777 - l))) ∧ w' = w := by
  refine (delay12_any c l h0 hl h.1 h.2 w).mono ?_
  rintro e w' ⟨⟨r, rfl, _, _, hr⟩, hw⟩
  exact ⟨by rw [hr], hw⟩
theorem pick12_val (c n : Int) (hn : 0 < n) (h : In64 c) (h3 : n ≤ 9223372036854775807) (w : World) :
    Calls Tryz.prog 19 #[.int .i64 c, .int .i64 n] w fun e w' => e = .returned (.int .i64 (pkk c n)) ∧ w' = w := pick12_any c n hn h.1 h.2 h3 w
/-- the edges of a node: of the first k ones ahead, at most 'room' -/
def eds (nb ab : List Bool) (room : Nat) : Nat → List Int × List Int
  | 0 => ([], [])
  | k + 1 => if (eds nb ab room k).1.length + (eds nb ab room k).2.length < room then (if nb.getD k false then ((eds nb ab room k).1 ++ [(k : Int)], (eds nb ab room k).2) else if ab.getD k false then ((eds nb ab room k).1, (eds nb ab room k).2 ++ [(k : Int)]) else eds nb ab room k) else eds nb ab room k
theorem eds_stop (nb ab : List Bool) (room k : Nat) (h : ¬ (eds nb ab room k).1.length + (eds nb ab room k).2.length < room) : ∀ j, k ≤ j → eds nb ab room j = eds nb ab room k := by
  intro j hj
  induction j with
  | zero => obtain rfl : k = 0 := by omega
            rfl
  | succ j ih =>
    by_cases e : k = j + 1
    · rw [e]
    · have h2 := ih (by omega)
      rw [eds, h2, if_neg h]
theorem eds_len (nb ab : List Bool) (room k : Nat) : (eds nb ab room k).1.length + (eds nb ab room k).2.length ≤ k := by
  induction k with
  | zero => exact Nat.zero_le _
  | succ k ih =>
    unfold eds
    repeat' split
    all_goals (try simp only [List.length_append, List.length_cons, List.length_nil])
    all_goals omega
/-- the node that is made -/
def ndv (r : Ra) (i room : Nat) : Nv := (((((((((nmv r.nm i, pkk r.la 16), 1 + pkk r.bu 100), 1 + pkk r.cl 1099511627776), pkk r.be 1099511627777), 1 + pkk r.ba (1 + pkk r.ca 1099511627776)), 1 + pkk r.ca 1099511627776), pkk r.ji 1099511627777), (eds (mkv r.nl i) (mkv r.al i) room i).1), (eds (mkv r.nl i) (mkv r.al i) room i).2)
set_option maxRecDepth 100000 in
set_option maxHeartbeats 8000000 in
theorem nodeL_any (r : Ra) (hr : RaOk r) (B i room : Nat) (hi : i < 64) (hroom : room ≤ 256) (w : World) (hz1 : Gr.RdZ B w r.ne r.nl) (hz2 : Gr.RdZ B w r.af r.al) :
    Calls Tryz.prog 24 #[.agg r.row.toArray, .int .i64 (i : Int), .int .i64 (room : Int)] w fun e w' => ∃ v, e = .returned v ∧ NdV (ndv r i room) w' v ∧ Below w.heap.size w w' := by
  obtain ⟨nm, la, bu, cl, be, ba, ca, ji, ne, af, nl, al⟩ := r
  have CNM := hide (fun W => name12_any nm i hi hr.nm.1 hr.nm.2 W)
  have CLA := hide (fun W => pick12_val la 16 (by decide) hr.la (by decide) W)
  have CBU := hide (fun W => pick12_val bu 100 (by decide) hr.bu (by decide) W)
  have CCL := hide (fun W => delay12_val cl 1 (by decide) (by decide) hr.cl W)
  have CBE := hide (fun W => delay12_val be 0 (by decide) (by decide) hr.be W)
  have CCA := hide (fun W => delay12_val ca 1 (by decide) (by decide) hr.ca W)
  have CJI := hide (fun W => delay12_val ji 0 (by decide) (by decide) hr.ji W)
  obtain ⟨NM, hNM⟩ : ∃ x, str (nmv nm i) = x := ⟨_, rfl⟩
  obtain ⟨vla, hla⟩ : ∃ x, pkk la 16 = x := ⟨_, rfl⟩
  obtain ⟨vbu, hbu⟩ : ∃ x, pkk bu 100 = x := ⟨_, rfl⟩
  obtain ⟨vcl, hcl⟩ : ∃ x, 1 + pkk cl (1099511627777 - 1) = x := ⟨_, rfl⟩
  obtain ⟨vbe, hbe⟩ : ∃ x, 0 + pkk be (1099511627777 - 0) = x := ⟨_, rfl⟩
  obtain ⟨vca, hca⟩ : ∃ x, 1 + pkk ca (1099511627777 - 1) = x := ⟨_, rfl⟩
  obtain ⟨vji, hji⟩ : ∃ x, 0 + pkk ji (1099511627777 - 0) = x := ⟨_, rfl⟩
  have pbu : 0 ≤ vbu ∧ vbu < 100 := hbu ▸ pkk_lt (by decide)
  have hwr : IntKind.i64.wrap (1 + vbu) = 1 + vbu := by have := pbu; simp [IntKind.wrap, IntKind.bits, IntKind.signed]; omega
  clear pbu
  rw [hNM] at CNM
  rw [hla] at CLA
  rw [hbu] at CBU
  rw [hcl] at CCL
  rw [hbe] at CBE
  rw [hca] at CCA
  rw [hji] at CJI
  have E0 := hide hNM
  have E1 := hide hla
  have E2 := hide hbu
  have E3 := hide hcl
  have E4 := hide hbe
  have E5 := hide hca
  have E6 := hide hji
  have HR := hide hr
  have HZ1 := hide hz1
  have HZ2 := hide hz2
  clear hNM hla hbu hcl hbe hca hji hz1 hz2
  have HBX : Hid (Below w.heap.size w ((w.alloc (.cells #[.int .i64 nm, .int .i64 la, .int .i64 bu, .int .i64 cl, .int .i64 be, .int .i64 ba, .int .i64 ca, .int .i64 ji, .slice ne.1 ne.2.1 ne.2.2, .slice af.1 af.2.1 af.2.2] 60)).alloc (.cells #[.string ⟨#[]⟩, .int .i64 0, .int .i64 0, .int .i64 0, .int .i64 0, .int .i64 0, .int .i64 0, .int .i64 0, .slice none 0 0, .slice none 0 0] 57))) := ((Below.refl _ _).alloc (Nat.le_refl _) _).alloc (by simp) _
  obtain ⟨hx1, hx2⟩ := blk2 w (.cells #[.int .i64 nm, .int .i64 la, .int .i64 bu, .int .i64 cl, .int .i64 be, .int .i64 ba, .int .i64 ca, .int .i64 ji, .slice ne.1 ne.2.1 ne.2.2, .slice af.1 af.2.1 af.2.2] 60) (.cells #[.string ⟨#[]⟩, .int .i64 0, .int .i64 0, .int .i64 0, .int .i64 0, .int .i64 0, .int .i64 0, .int .i64 0, .slice none 0 0, .slice none 0 0] 57)
  have HX1 := hide hx1
  have HX2 := hide hx2
  clear hx1 hx2
  change Calls Tryz.prog _ #[.agg #[.int .i64 nm, .int .i64 la, .int .i64 bu, .int .i64 cl, .int .i64 be, .int .i64 ba, .int .i64 ca, .int .i64 ji, .slice ne.1 ne.2.1 ne.2.2, .slice af.1 af.2.1 af.2.2], .int .i64 (i : Int), .int .i64 (room : Int)] w _
  have HSZ : Hid (w.heap.size + 2 ≤ ((w.alloc (.cells #[.int .i64 nm, .int .i64 la, .int .i64 bu, .int .i64 cl, .int .i64 be, .int .i64 ba, .int .i64 ca, .int .i64 ji, .slice ne.1 ne.2.1 ne.2.2, .slice af.1 af.2.1 af.2.2] 60)).alloc (.cells #[.string ⟨#[]⟩, .int .i64 0, .int .i64 0, .int .i64 0, .int .i64 0, .int .i64 0, .int .i64 0, .int .i64 0, .slice none 0 0, .slice none 0 0] 57)).heap.size) := by show _ ≤ _; simp
  go_enter Tryz.func24, Tryz.ntmps24
  go_upto_region 1 with fail
  generalize (w.alloc (.cells #[.int .i64 nm, .int .i64 la, .int .i64 bu, .int .i64 cl, .int .i64 be, .int .i64 ba, .int .i64 ca, .int .i64 ji, .slice ne.1 ne.2.1 ne.2.2, .slice af.1 af.2.1 af.2.2] 60)).alloc (.cells #[.string ⟨#[]⟩, .int .i64 0, .int .i64 0, .int .i64 0, .int .i64 0, .int .i64 0, .int .i64 0, .int .i64 0, .slice none 0 0, .slice none 0 0] 57) = w1 at *
  have HS : Hid (∀ W', Below w1.heap.size w1 W' → W'.cell? ⟨w.heap.size, 0, none⟩ = some (.int .i64 nm) ∧ W'.cell? ⟨w.heap.size, 1, none⟩ = some (.int .i64 la) ∧ W'.cell? ⟨w.heap.size, 2, none⟩ = some (.int .i64 bu) ∧ W'.cell? ⟨w.heap.size, 3, none⟩ = some (.int .i64 cl) ∧ W'.cell? ⟨w.heap.size, 4, none⟩ = some (.int .i64 be) ∧ W'.cell? ⟨w.heap.size, 6, none⟩ = some (.int .i64 ca) ∧ W'.cell? ⟨w.heap.size, 7, none⟩ = some (.int .i64 ji)) := fun W' hb => ⟨cell_blk (blkB HX1.out hb) 0 rfl, cell_blk (blkB HX1.out hb) 1 rfl, cell_blk (blkB HX1.out hb) 2 rfl, cell_blk (blkB HX1.out hb) 3 rfl, cell_blk (blkB HX1.out hb) 4 rfl, cell_blk (blkB HX1.out hb) 6 rfl, cell_blk (blkB HX1.out hb) 7 rfl⟩
  have HBu : Hid (Below w1.heap.size w1 w1.drew) := (Below.refl _ _).drew
  go_cut [7] from 11 to 34 (fun v wx => ∃ b : Nat, v = .pointer (some ⟨b, 0, none⟩) ∧ Hid (wx.heap[b]? = some (.cells #[.string NM, .int .i64 vla, .int .i64 (1 + vbu), .int .i64 vcl, .int .i64 vbe, .int .i64 0, .int .i64 vca, .int .i64 vji, .slice none 0 0, .slice none 0 0] 57 (0, 0)) ∧ w1.heap.size ≤ b ∧ Below w1.heap.size w1 wx))
  case first => as_aux_lemma =>
    refine RL.wp_region_held_last (S := fun V : World => V.cell? ⟨w.heap.size, 0, none⟩ = some (.int .i64 nm) ∧ V.cell? ⟨w.heap.size, 1, none⟩ = some (.int .i64 la) ∧ V.cell? ⟨w.heap.size, 2, none⟩ = some (.int .i64 bu) ∧ V.cell? ⟨w.heap.size, 3, none⟩ = some (.int .i64 cl) ∧ V.cell? ⟨w.heap.size, 4, none⟩ = some (.int .i64 be) ∧ V.cell? ⟨w.heap.size, 6, none⟩ = some (.int .i64 ca) ∧ V.cell? ⟨w.heap.size, 7, none⟩ = some (.int .i64 ji)) rfl (by kernel_rfl) (by kernel_rfl) (HS.out _ HBu.out) (fun hHeld => ?_)
    change wpAnyH _ _ _ _ _ 26 (Array.replicate 26 false) _ _
    simp only [List.dropLast, List.getLast, List.cons_append, List.nil_append, RL.still]
    generalize w1.drew = u at *
    refine wpAnyH_named fun O hO => ?_
    have NS : Hid (Region.noSelect O = true) := by show _ = _; rw [hO]; kernel_rfl
    have HO := hide hO
    clear hO
    refine wpAnyH_take (i := 0) (oi := _) (v := ?_) ((congrArg (fun x : Array Oper => x[0]?) HO.out).trans rfl) NS.out (by rw [HO.out]; kernel_rfl) (by rw [HO.out]; kernel_rfl) (fun _ _ _ h => h) (Or.inl ⟨by rfl, ?_⟩) hHeld ?_
    rotate_left
    · (intro w hSw; (try dsimp only at hSw); go_simp)
      all_goals with_reducible rfl
    go_simp
    refine wpAnyH_take (i := 1) (oi := _) (v := ?_) ((congrArg (fun x : Array Oper => x[1]?) HO.out).trans rfl) NS.out (by rw [HO.out]; kernel_rfl) (by rw [HO.out]; kernel_rfl) (fun _ _ _ h => h) (Or.inl ⟨by rfl, ?_⟩) hHeld ?_
    rotate_left
    · (intro w hSw; (try dsimp only at hSw); go_simp)
      all_goals with_reducible rfl
    go_simp
    refine wpAnyH_take (i := 2) (oi := _) (v := ?_) ((congrArg (fun x : Array Oper => x[2]?) HO.out).trans rfl) NS.out (by rw [HO.out]; kernel_rfl) (by rw [HO.out]; kernel_rfl) (fun _ _ _ h => h) (Or.inl ⟨by rfl, ?_⟩) hHeld ?_
    rotate_left
    · (intro w hSw; (try dsimp only at hSw); go_simp)
      all_goals with_reducible rfl
    go_simp
    refine wpAnyH_take (i := 4) (oi := _) (v := ?_) ((congrArg (fun x : Array Oper => x[4]?) HO.out).trans rfl) NS.out (by rw [HO.out]; kernel_rfl) (by rw [HO.out]; kernel_rfl) (fun _ _ _ h => h) (Or.inl ⟨by rfl, ?_⟩) hHeld ?_
    rotate_left
    · (intro w hSw; (try dsimp only at hSw); go_simp)
      all_goals with_reducible rfl
    go_simp
    refine wpAnyH_take (i := 5) (oi := _) (v := ?_) ((congrArg (fun x : Array Oper => x[5]?) HO.out).trans rfl) NS.out (by rw [HO.out]; kernel_rfl) (by rw [HO.out]; kernel_rfl) (fun _ _ _ h => h) (Or.inl ⟨by rfl, ?_⟩) hHeld ?_
    rotate_left
    · (intro w hSw; (try dsimp only at hSw); go_simp)
      all_goals with_reducible rfl
    go_simp
    refine wpAnyH_take (i := 7) (oi := _) (v := ?_) ((congrArg (fun x : Array Oper => x[7]?) HO.out).trans rfl) NS.out (by rw [HO.out]; kernel_rfl) (by rw [HO.out]; kernel_rfl) (fun _ _ _ h => h) (Or.inl ⟨by rfl, ?_⟩) hHeld ?_
    rotate_left
    · (intro w hSw; (try dsimp only at hSw); go_simp)
      all_goals with_reducible rfl
    go_simp
    refine wpAnyH_take (i := 8) (oi := _) (v := ?_) ((congrArg (fun x : Array Oper => x[8]?) HO.out).trans rfl) NS.out (by rw [HO.out]; kernel_rfl) (by rw [HO.out]; kernel_rfl) (fun _ _ _ h => h) (Or.inl ⟨by rfl, ?_⟩) hHeld ?_
    rotate_left
    · (intro w hSw; (try dsimp only at hSw); go_simp)
      all_goals with_reducible rfl
    go_simp
    refine wpAnyH_take (i := 11) (oi := _) (v := ?_) ((congrArg (fun x : Array Oper => x[11]?) HO.out).trans rfl) NS.out (by rw [HO.out]; kernel_rfl) (by rw [HO.out]; kernel_rfl) (fun _ _ _ h => h) (Or.inl ⟨by rfl, ?_⟩) hHeld ?_
    rotate_left
    · (intro w hSw; (try dsimp only at hSw); go_simp)
      all_goals with_reducible rfl
    go_simp
    refine wpAnyH_take (i := 12) (oi := _) (v := ?_) ((congrArg (fun x : Array Oper => x[12]?) HO.out).trans rfl) NS.out (by rw [HO.out]; kernel_rfl) (by rw [HO.out]; kernel_rfl) (fun _ _ _ h => h) (Or.inl ⟨by rfl, ?_⟩) hHeld ?_
    rotate_left
    · (intro w hSw; (try dsimp only at hSw); go_simp)
      all_goals with_reducible rfl
    go_simp
    refine wpAnyH_take (i := 14) (oi := _) (v := ?_) ((congrArg (fun x : Array Oper => x[14]?) HO.out).trans rfl) NS.out (by rw [HO.out]; kernel_rfl) (by rw [HO.out]; kernel_rfl) (fun _ _ _ h => h) (Or.inl ⟨by rfl, ?_⟩) hHeld ?_
    rotate_left
    · (intro w hSw; (try dsimp only at hSw); go_simp)
      all_goals with_reducible rfl
    go_simp
    refine wpAnyH_take (i := 15) (oi := _) (v := ?_) ((congrArg (fun x : Array Oper => x[15]?) HO.out).trans rfl) NS.out (by rw [HO.out]; kernel_rfl) (by rw [HO.out]; kernel_rfl) (fun _ _ _ h => h) (Or.inl ⟨by rfl, ?_⟩) hHeld ?_
    rotate_left
    · (intro w hSw; (try dsimp only at hSw); go_simp)
      all_goals with_reducible rfl
    go_simp
    refine wpAnyH_take (i := 17) (oi := _) (v := ?_) ((congrArg (fun x : Array Oper => x[17]?) HO.out).trans rfl) NS.out (by rw [HO.out]; kernel_rfl) (by rw [HO.out]; kernel_rfl) (fun _ _ _ h => h) (Or.inl ⟨by rfl, ?_⟩) hHeld ?_
    rotate_left
    · (intro w hSw; (try dsimp only at hSw); go_simp)
      all_goals with_reducible rfl
    go_simp
    refine wpAnyH_take (i := 18) (oi := _) (v := ?_) ((congrArg (fun x : Array Oper => x[18]?) HO.out).trans rfl) NS.out (by rw [HO.out]; kernel_rfl) (by rw [HO.out]; kernel_rfl) (fun _ _ _ h => h) (Or.inl ⟨by rfl, ?_⟩) hHeld ?_
    rotate_left
    · (intro w hSw; (try dsimp only at hSw); go_simp)
      all_goals with_reducible rfl
    go_simp
    refine wpAnyH_take (i := 20) (oi := _) (v := ?_) ((congrArg (fun x : Array Oper => x[20]?) HO.out).trans rfl) NS.out (by rw [HO.out]; kernel_rfl) (by rw [HO.out]; kernel_rfl) (fun _ _ _ h => h) (Or.inl ⟨by rfl, ?_⟩) hHeld ?_
    rotate_left
    · (intro w hSw; (try dsimp only at hSw); go_simp)
      all_goals with_reducible rfl
    go_simp
    refine wpAnyH_take (i := 21) (oi := _) (v := ?_) ((congrArg (fun x : Array Oper => x[21]?) HO.out).trans rfl) NS.out (by rw [HO.out]; kernel_rfl) (by rw [HO.out]; kernel_rfl) (fun _ _ _ h => h) (Or.inl ⟨by rfl, ?_⟩) hHeld ?_
    rotate_left
    · (intro w hSw; (try dsimp only at hSw); go_simp)
      all_goals with_reducible rfl
    go_simp
    refine wpAnyH_ready (rs := [3, 24]) (by rw [HO.out]; kernel_rfl) (by simp) ?_
    refine AllReadyH.cons (o := _) ((congrArg (fun x : Array Oper => x[3]?) HO.out).trans rfl) (fun K hK => ?_) (AllReadyH.cons (o := _) ((congrArg (fun x : Array Oper => x[24]?) HO.out).trans rfl) (fun K hK => ?_) AllReadyH.nil)
    · clear hHeld
      rw [if_pos (by rfl)]
      go_simp
      go_at_call 22
      refine (CNM.out u).mono ?_
      rintro e x1 ⟨rfl, hb⟩
      have HBx1 := hide (HBu.out.trans (hb.mono HBu.out.size))
      clear hb
      go_simp
      refine hK.out _ _ (HS.out _ HBx1.out) (fun hHeld => ?_)
      clear hK K
      try simp only [Act.put, List.setIfInBounds_toArray, List.set_cons_zero, List.set_cons_succ]
      refine wpAnyH_ready (rs := [6, 24]) (by rw [HO.out]; kernel_rfl) (by simp) ?_
      refine AllReadyH.cons (o := _) ((congrArg (fun x : Array Oper => x[6]?) HO.out).trans rfl) (fun K hK => ?_) (AllReadyH.cons (o := _) ((congrArg (fun x : Array Oper => x[24]?) HO.out).trans rfl) (fun K hK => ?_) AllReadyH.nil)
      · clear hHeld
        rw [if_pos (by rfl)]
        go_simp
        go_at_call 19
        refine (CLA.out x1).mono ?_
        rintro e w' ⟨rfl, hw⟩
        rw [hw]
        clear hw w'
        go_simp
        refine hK.out _ _ (HS.out _ HBx1.out) (fun hHeld => ?_)
        clear hK K
        try simp only [Act.put, List.setIfInBounds_toArray, List.set_cons_zero, List.set_cons_succ]
        refine wpAnyH_ready (rs := [9, 24]) (by rw [HO.out]; kernel_rfl) (by simp) ?_
        refine AllReadyH.cons (o := _) ((congrArg (fun x : Array Oper => x[9]?) HO.out).trans rfl) (fun K hK => ?_) (AllReadyH.cons (o := _) ((congrArg (fun x : Array Oper => x[24]?) HO.out).trans rfl) (fun K hK => ?_) AllReadyH.nil)
        · clear hHeld
          rw [if_pos (by rfl)]
          go_simp
          go_at_call 19
          refine (CBU.out x1).mono ?_
          rintro e w' ⟨rfl, hw⟩
          rw [hw]
          clear hw w'
          go_simp
          refine hK.out _ _ (HS.out _ HBx1.out) (fun hHeld => ?_)
          clear hK K
          try simp only [Act.put, List.setIfInBounds_toArray, List.set_cons_zero, List.set_cons_succ]
          refine wpAnyH_take (i := 10) (oi := _) (v := ?_) ((congrArg (fun x : Array Oper => x[10]?) HO.out).trans rfl) NS.out (by rw [HO.out]; kernel_rfl) (by rw [HO.out]; kernel_rfl) (fun _ _ _ h => h) (Or.inl ⟨by rfl, ?_⟩) hHeld ?_
          rotate_left
          · (intro w hSw; (try dsimp only at hSw); go_simp)
            all_goals with_reducible rfl
          go_simp
          refine wpAnyH_ready (rs := [13, 24]) (by rw [HO.out]; kernel_rfl) (by simp) ?_
          refine AllReadyH.cons (o := _) ((congrArg (fun x : Array Oper => x[13]?) HO.out).trans rfl) (fun K hK => ?_) (AllReadyH.cons (o := _) ((congrArg (fun x : Array Oper => x[24]?) HO.out).trans rfl) (fun K hK => ?_) AllReadyH.nil)
          · clear hHeld
            rw [if_pos (by rfl)]
            go_simp
            go_at_call 23
            refine (CCL.out x1).mono ?_
            rintro e w' ⟨rfl, hw⟩
            rw [hw]
            clear hw w'
            go_simp
            refine hK.out _ _ (HS.out _ HBx1.out) (fun hHeld => ?_)
            clear hK K
            try simp only [Act.put, List.setIfInBounds_toArray, List.set_cons_zero, List.set_cons_succ]
            refine wpAnyH_ready (rs := [16, 24]) (by rw [HO.out]; kernel_rfl) (by simp) ?_
            refine AllReadyH.cons (o := _) ((congrArg (fun x : Array Oper => x[16]?) HO.out).trans rfl) (fun K hK => ?_) (AllReadyH.cons (o := _) ((congrArg (fun x : Array Oper => x[24]?) HO.out).trans rfl) (fun K hK => ?_) AllReadyH.nil)
            · clear hHeld
              rw [if_pos (by rfl)]
              go_simp
              go_at_call 23
              refine (CBE.out x1).mono ?_
              rintro e w' ⟨rfl, hw⟩
              rw [hw]
              clear hw w'
              go_simp
              refine hK.out _ _ (HS.out _ HBx1.out) (fun hHeld => ?_)
              clear hK K
              try simp only [Act.put, List.setIfInBounds_toArray, List.set_cons_zero, List.set_cons_succ]
              refine wpAnyH_ready (rs := [19, 24]) (by rw [HO.out]; kernel_rfl) (by simp) ?_
              refine AllReadyH.cons (o := _) ((congrArg (fun x : Array Oper => x[19]?) HO.out).trans rfl) (fun K hK => ?_) (AllReadyH.cons (o := _) ((congrArg (fun x : Array Oper => x[24]?) HO.out).trans rfl) (fun K hK => ?_) AllReadyH.nil)
              · clear hHeld
                rw [if_pos (by rfl)]
                go_simp
                go_at_call 23
                refine (CCA.out x1).mono ?_
                rintro e w' ⟨rfl, hw⟩
                rw [hw]
                clear hw w'
                go_simp
                refine hK.out _ _ (HS.out _ HBx1.out) (fun hHeld => ?_)
                clear hK K
                try simp only [Act.put, List.setIfInBounds_toArray, List.set_cons_zero, List.set_cons_succ]
                refine wpAnyH_ready (rs := [22, 24]) (by rw [HO.out]; kernel_rfl) (by simp) ?_
                refine AllReadyH.cons (o := _) ((congrArg (fun x : Array Oper => x[22]?) HO.out).trans rfl) (fun K hK => ?_) (AllReadyH.cons (o := _) ((congrArg (fun x : Array Oper => x[24]?) HO.out).trans rfl) (fun K hK => ?_) AllReadyH.nil)
                · clear hHeld
                  rw [if_pos (by rfl)]
                  go_simp
                  go_at_call 23
                  refine (CJI.out x1).mono ?_
                  rintro e w' ⟨rfl, hw⟩
                  rw [hw]
                  clear hw w'
                  go_simp
                  refine hK.out _ _ (HS.out _ HBx1.out) (fun hHeld => ?_)
                  clear hK K
                  try simp only [Act.put, List.setIfInBounds_toArray, List.set_cons_zero, List.set_cons_succ]
                  refine wpAnyH_take (i := 23) (oi := _) (v := .agg #[.string NM, .int .i64 vla, .int .i64 (1 + vbu), .int .i64 vcl, .int .i64 vbe, .int .i64 0, .int .i64 vca, .int .i64 vji, .slice none 0 0, .slice none 0 0]) ((congrArg (fun x : Array Oper => x[23]?) HO.out).trans rfl) NS.out (by rw [HO.out]; kernel_rfl) (by rw [HO.out]; kernel_rfl) (fun _ _ _ h => h) (build_yields 57 #[(0, .tmp 14), (1, .tmp 17), (2, .tmp 21), (3, .tmp 24), (4, .tmp 27), (6, .tmp 30), (7, .tmp 33)] rfl rfl [(0, .string NM), (1, .int .i64 vla), (2, .int .i64 (1 + vbu)), (3, .int .i64 vcl), (4, .int .i64 vbe), (6, .int .i64 vca), (7, .int .i64 vji)] (by rfl) #[.string NM, .int .i64 vla, .int .i64 (1 + vbu), .int .i64 vcl, .int .i64 vbe, .int .i64 0, .int .i64 vca, .int .i64 vji, .slice none 0 0, .slice none 0 0] (built_nd NM vla (1 + vbu) vcl vbe vca vji)) hHeld ?_
                  go_simp
                  refine wpAnyH_ready (rs := [24]) (by rw [HO.out]; kernel_rfl) (by simp) ?_
                  refine AllReadyH.cons (o := _) ((congrArg (fun x : Array Oper => x[24]?) HO.out).trans rfl) (fun K hK => ?_) AllReadyH.nil
                  clear hHeld
                  rw [if_pos (by rfl)]
                  unfold Oper.wp
                  go_simp
                  refine hK.out _ _ (HS.out _ (HBx1.out.alloc HBx1.out.size _)) (fun hHeld => ?_)
                  clear hK K
                  try simp only [Act.put, List.setIfInBounds_toArray, List.set_cons_zero, List.set_cons_succ]
                  have HXx2 := hide (heap_alloc_new x1 (.cells #[.string ⟨#[]⟩, .int .i64 0, .int .i64 0, .int .i64 0, .int .i64 0, .int .i64 0, .int .i64 0, .int .i64 0, .slice none 0 0, .slice none 0 0] 57))
                  have HBx2 := hide (HBx1.out.alloc HBx1.out.size (.cells #[.string ⟨#[]⟩, .int .i64 0, .int .i64 0, .int .i64 0, .int .i64 0, .int .i64 0, .int .i64 0, .int .i64 0, .slice none 0 0, .slice none 0 0] 57))
                  have HL := HBx1.out.size
                  generalize x1.alloc (.cells #[.string ⟨#[]⟩, .int .i64 0, .int .i64 0, .int .i64 0, .int .i64 0, .int .i64 0, .int .i64 0, .int .i64 0, .slice none 0 0, .slice none 0 0] 57) = x2 at *
                  generalize x1.heap.size = b at *
                  refine wpAnyH_take (i := 25) (oi := _) (v := ?_) ((congrArg (fun x : Array Oper => x[25]?) HO.out).trans rfl) NS.out (by rw [HO.out]; kernel_rfl) (by rw [HO.out]; kernel_rfl) (fun _ _ _ h => h) (Or.inl ⟨by rfl, ?_⟩) hHeld ?_
                  rotate_left
                  · (intro w hSw; (try dsimp only at hSw); go_simp)
                    all_goals with_reducible rfl
                  go_simp
                  refine wpAnyH_done (by rw [HO.out]; kernel_rfl) ?_ _
                  simp only [RL.endQ]
                  refine wp_store_row 57 _ _ rfl b #[.string NM, .int .i64 vla, .int .i64 (1 + vbu), .int .i64 vcl, .int .i64 vbe, .int .i64 0, .int .i64 vca, .int .i64 vji, .slice none 0 0, .slice none 0 0] (by rfl) (by rfl) 57 #[.string ⟨#[]⟩, .int .i64 0, .int .i64 0, .int .i64 0, .int .i64 0, .int .i64 0, .int .i64 0, .int .i64 0, .slice none 0 0, .slice none 0 0] HXx2.out sizeNd rfl (by simp [Value.oneCell']) ?_
                  dsimp only [Act.put]
                  have hxx := setRow_heap x2 b #[.string ⟨#[]⟩, .int .i64 0, .int .i64 0, .int .i64 0, .int .i64 0, .int .i64 0, .int .i64 0, .int .i64 0, .slice none 0 0, .slice none 0 0] #[.string NM, .int .i64 vla, .int .i64 (1 + vbu), .int .i64 vcl, .int .i64 vbe, .int .i64 0, .int .i64 vca, .int .i64 vji, .slice none 0 0, .slice none 0 0] 57 (0, 0) HXx2.out
                  have hkk := keep_row x2 b #[.string NM, .int .i64 vla, .int .i64 (1 + vbu), .int .i64 vcl, .int .i64 vbe, .int .i64 0, .int .i64 vca, .int .i64 vji, .slice none 0 0, .slice none 0 0]
                  have HE := hide (HBx2.out.trans (hkk.below HBx2.out.size fun k e => by have e : k = b := e; omega))
                  have HF := hide hxx
                  have HLb := hide HL
                  clear hxx hkk HL
                  go_wp2_with fail
                  go_meet
                  case rel => exact ⟨b, rfl, HF.out, HLb.out, HE.out⟩
                · clear hHeld
                  rw [if_pos (by rfl)]
                  unfold Oper.wp
                  go_simp
                  refine hK.out _ _ (HS.out _ (HBx1.out.alloc HBx1.out.size _)) (fun hHeld => ?_)
                  clear hK K
                  try simp only [Act.put, List.setIfInBounds_toArray, List.set_cons_zero, List.set_cons_succ]
                  have HXx3 := hide (heap_alloc_new x1 (.cells #[.string ⟨#[]⟩, .int .i64 0, .int .i64 0, .int .i64 0, .int .i64 0, .int .i64 0, .int .i64 0, .int .i64 0, .slice none 0 0, .slice none 0 0] 57))
                  have HBx3 := hide (HBx1.out.alloc HBx1.out.size (.cells #[.string ⟨#[]⟩, .int .i64 0, .int .i64 0, .int .i64 0, .int .i64 0, .int .i64 0, .int .i64 0, .int .i64 0, .slice none 0 0, .slice none 0 0] 57))
                  have HL := HBx1.out.size
                  generalize x1.alloc (.cells #[.string ⟨#[]⟩, .int .i64 0, .int .i64 0, .int .i64 0, .int .i64 0, .int .i64 0, .int .i64 0, .int .i64 0, .slice none 0 0, .slice none 0 0] 57) = x3 at *
                  generalize x1.heap.size = b at *
                  refine wpAnyH_ready (rs := [22]) (by rw [HO.out]; kernel_rfl) (by simp) ?_
                  refine AllReadyH.cons (o := _) ((congrArg (fun x : Array Oper => x[22]?) HO.out).trans rfl) (fun K hK => ?_) AllReadyH.nil
                  clear hHeld
                  rw [if_pos (by rfl)]
                  go_simp
                  go_at_call 23
                  refine (CJI.out x3).mono ?_
                  rintro e w' ⟨rfl, hw⟩
                  rw [hw]
                  clear hw w'
                  go_simp
                  refine hK.out _ _ (HS.out _ HBx3.out) (fun hHeld => ?_)
                  clear hK K
                  try simp only [Act.put, List.setIfInBounds_toArray, List.set_cons_zero, List.set_cons_succ]
                  refine wpAnyH_take (i := 23) (oi := _) (v := .agg #[.string NM, .int .i64 vla, .int .i64 (1 + vbu), .int .i64 vcl, .int .i64 vbe, .int .i64 0, .int .i64 vca, .int .i64 vji, .slice none 0 0, .slice none 0 0]) ((congrArg (fun x : Array Oper => x[23]?) HO.out).trans rfl) NS.out (by rw [HO.out]; kernel_rfl) (by rw [HO.out]; kernel_rfl) (fun _ _ _ h => h) (build_yields 57 #[(0, .tmp 14), (1, .tmp 17), (2, .tmp 21), (3, .tmp 24), (4, .tmp 27), (6, .tmp 30), (7, .tmp 33)] rfl rfl [(0, .string NM), (1, .int .i64 vla), (2, .int .i64 (1 + vbu)), (3, .int .i64 vcl), (4, .int .i64 vbe), (6, .int .i64 vca), (7, .int .i64 vji)] (by rfl) #[.string NM, .int .i64 vla, .int .i64 (1 + vbu), .int .i64 vcl, .int .i64 vbe, .int .i64 0, .int .i64 vca, .int .i64 vji, .slice none 0 0, .slice none 0 0] (built_nd NM vla (1 + vbu) vcl vbe vca vji)) hHeld ?_
                  go_simp
                  refine wpAnyH_take (i := 25) (oi := _) (v := ?_) ((congrArg (fun x : Array Oper => x[25]?) HO.out).trans rfl) NS.out (by rw [HO.out]; kernel_rfl) (by rw [HO.out]; kernel_rfl) (fun _ _ _ h => h) (Or.inl ⟨by rfl, ?_⟩) hHeld ?_
                  rotate_left
                  · (intro w hSw; (try dsimp only at hSw); go_simp)
                    all_goals with_reducible rfl
                  go_simp
                  refine wpAnyH_done (by rw [HO.out]; kernel_rfl) ?_ _
                  simp only [RL.endQ]
                  refine wp_store_row 57 _ _ rfl b #[.string NM, .int .i64 vla, .int .i64 (1 + vbu), .int .i64 vcl, .int .i64 vbe, .int .i64 0, .int .i64 vca, .int .i64 vji, .slice none 0 0, .slice none 0 0] (by rfl) (by rfl) 57 #[.string ⟨#[]⟩, .int .i64 0, .int .i64 0, .int .i64 0, .int .i64 0, .int .i64 0, .int .i64 0, .int .i64 0, .slice none 0 0, .slice none 0 0] HXx3.out sizeNd rfl (by simp [Value.oneCell']) ?_
                  dsimp only [Act.put]
                  have hxx := setRow_heap x3 b #[.string ⟨#[]⟩, .int .i64 0, .int .i64 0, .int .i64 0, .int .i64 0, .int .i64 0, .int .i64 0, .int .i64 0, .slice none 0 0, .slice none 0 0] #[.string NM, .int .i64 vla, .int .i64 (1 + vbu), .int .i64 vcl, .int .i64 vbe, .int .i64 0, .int .i64 vca, .int .i64 vji, .slice none 0 0, .slice none 0 0] 57 (0, 0) HXx3.out
                  have hkk := keep_row x3 b #[.string NM, .int .i64 vla, .int .i64 (1 + vbu), .int .i64 vcl, .int .i64 vbe, .int .i64 0, .int .i64 vca, .int .i64 vji, .slice none 0 0, .slice none 0 0]
                  have HE := hide (HBx3.out.trans (hkk.below HBx3.out.size fun k e => by have e : k = b := e; omega))
                  have HF := hide hxx
                  have HLb := hide HL
                  clear hxx hkk HL
                  go_wp2_with fail
                  go_meet
                  case rel => exact ⟨b, rfl, HF.out, HLb.out, HE.out⟩
              · clear hHeld
                rw [if_pos (by rfl)]
                unfold Oper.wp
                go_simp
                refine hK.out _ _ (HS.out _ (HBx1.out.alloc HBx1.out.size _)) (fun hHeld => ?_)
                clear hK K
                try simp only [Act.put, List.setIfInBounds_toArray, List.set_cons_zero, List.set_cons_succ]
                have HXx4 := hide (heap_alloc_new x1 (.cells #[.string ⟨#[]⟩, .int .i64 0, .int .i64 0, .int .i64 0, .int .i64 0, .int .i64 0, .int .i64 0, .int .i64 0, .slice none 0 0, .slice none 0 0] 57))
                have HBx4 := hide (HBx1.out.alloc HBx1.out.size (.cells #[.string ⟨#[]⟩, .int .i64 0, .int .i64 0, .int .i64 0, .int .i64 0, .int .i64 0, .int .i64 0, .int .i64 0, .slice none 0 0, .slice none 0 0] 57))
                have HL := HBx1.out.size
                generalize x1.alloc (.cells #[.string ⟨#[]⟩, .int .i64 0, .int .i64 0, .int .i64 0, .int .i64 0, .int .i64 0, .int .i64 0, .int .i64 0, .slice none 0 0, .slice none 0 0] 57) = x4 at *
                generalize x1.heap.size = b at *
                refine wpAnyH_ready (rs := [19]) (by rw [HO.out]; kernel_rfl) (by simp) ?_
                refine AllReadyH.cons (o := _) ((congrArg (fun x : Array Oper => x[19]?) HO.out).trans rfl) (fun K hK => ?_) AllReadyH.nil
                clear hHeld
                rw [if_pos (by rfl)]
                go_simp
                go_at_call 23
                refine (CCA.out x4).mono ?_
                rintro e w' ⟨rfl, hw⟩
                rw [hw]
                clear hw w'
                go_simp
                refine hK.out _ _ (HS.out _ HBx4.out) (fun hHeld => ?_)
                clear hK K
                try simp only [Act.put, List.setIfInBounds_toArray, List.set_cons_zero, List.set_cons_succ]
                refine wpAnyH_ready (rs := [22]) (by rw [HO.out]; kernel_rfl) (by simp) ?_
                refine AllReadyH.cons (o := _) ((congrArg (fun x : Array Oper => x[22]?) HO.out).trans rfl) (fun K hK => ?_) AllReadyH.nil
                clear hHeld
                rw [if_pos (by rfl)]
                go_simp
                go_at_call 23
                refine (CJI.out x4).mono ?_
                rintro e w' ⟨rfl, hw⟩
                rw [hw]
                clear hw w'
                go_simp
                refine hK.out _ _ (HS.out _ HBx4.out) (fun hHeld => ?_)
                clear hK K
                try simp only [Act.put, List.setIfInBounds_toArray, List.set_cons_zero, List.set_cons_succ]
                refine wpAnyH_take (i := 23) (oi := _) (v := .agg #[.string NM, .int .i64 vla, .int .i64 (1 + vbu), .int .i64 vcl, .int .i64 vbe, .int .i64 0, .int .i64 vca, .int .i64 vji, .slice none 0 0, .slice none 0 0]) ((congrArg (fun x : Array Oper => x[23]?) HO.out).trans rfl) NS.out (by rw [HO.out]; kernel_rfl) (by rw [HO.out]; kernel_rfl) (fun _ _ _ h => h) (build_yields 57 #[(0, .tmp 14), (1, .tmp 17), (2, .tmp 21), (3, .tmp 24), (4, .tmp 27), (6, .tmp 30), (7, .tmp 33)] rfl rfl [(0, .string NM), (1, .int .i64 vla), (2, .int .i64 (1 + vbu)), (3, .int .i64 vcl), (4, .int .i64 vbe), (6, .int .i64 vca), (7, .int .i64 vji)] (by rfl) #[.string NM, .int .i64 vla, .int .i64 (1 + vbu), .int .i64 vcl, .int .i64 vbe, .int .i64 0, .int .i64 vca, .int .i64 vji, .slice none 0 0, .slice none 0 0] (built_nd NM vla (1 + vbu) vcl vbe vca vji)) hHeld ?_
                go_simp
                refine wpAnyH_take (i := 25) (oi := _) (v := ?_) ((congrArg (fun x : Array Oper => x[25]?) HO.out).trans rfl) NS.out (by rw [HO.out]; kernel_rfl) (by rw [HO.out]; kernel_rfl) (fun _ _ _ h => h) (Or.inl ⟨by rfl, ?_⟩) hHeld ?_
                rotate_left
                · (intro w hSw; (try dsimp only at hSw); go_simp)
                  all_goals with_reducible rfl
                go_simp
                refine wpAnyH_done (by rw [HO.out]; kernel_rfl) ?_ _
                simp only [RL.endQ]
                refine wp_store_row 57 _ _ rfl b #[.string NM, .int .i64 vla, .int .i64 (1 + vbu), .int .i64 vcl, .int .i64 vbe, .int .i64 0, .int .i64 vca, .int .i64 vji, .slice none 0 0, .slice none 0 0] (by rfl) (by rfl) 57 #[.string ⟨#[]⟩, .int .i64 0, .int .i64 0, .int .i64 0, .int .i64 0, .int .i64 0, .int .i64 0, .int .i64 0, .slice none 0 0, .slice none 0 0] HXx4.out sizeNd rfl (by simp [Value.oneCell']) ?_
                dsimp only [Act.put]
                have hxx := setRow_heap x4 b #[.string ⟨#[]⟩, .int .i64 0, .int .i64 0, .int .i64 0, .int .i64 0, .int .i64 0, .int .i64 0, .int .i64 0, .slice none 0 0, .slice none 0 0] #[.string NM, .int .i64 vla, .int .i64 (1 + vbu), .int .i64 vcl, .int .i64 vbe, .int .i64 0, .int .i64 vca, .int .i64 vji, .slice none 0 0, .slice none 0 0] 57 (0, 0) HXx4.out
                have hkk := keep_row x4 b #[.string NM, .int .i64 vla, .int .i64 (1 + vbu), .int .i64 vcl, .int .i64 vbe, .int .i64 0, .int .i64 vca, .int .i64 vji, .slice none 0 0, .slice none 0 0]
                have HE := hide (HBx4.out.trans (hkk.below HBx4.out.size fun k e => by have e : k = b := e; omega))
                have HF := hide hxx
                have HLb := hide HL
                clear hxx hkk HL
                go_wp2_with fail
                go_meet
                case rel => exact ⟨b, rfl, HF.out, HLb.out, HE.out⟩
            · clear hHeld
              rw [if_pos (by rfl)]
              unfold Oper.wp
              go_simp
              refine hK.out _ _ (HS.out _ (HBx1.out.alloc HBx1.out.size _)) (fun hHeld => ?_)
              clear hK K
              try simp only [Act.put, List.setIfInBounds_toArray, List.set_cons_zero, List.set_cons_succ]
              have HXx5 := hide (heap_alloc_new x1 (.cells #[.string ⟨#[]⟩, .int .i64 0, .int .i64 0, .int .i64 0, .int .i64 0, .int .i64 0, .int .i64 0, .int .i64 0, .slice none 0 0, .slice none 0 0] 57))
              have HBx5 := hide (HBx1.out.alloc HBx1.out.size (.cells #[.string ⟨#[]⟩, .int .i64 0, .int .i64 0, .int .i64 0, .int .i64 0, .int .i64 0, .int .i64 0, .int .i64 0, .slice none 0 0, .slice none 0 0] 57))
              have HL := HBx1.out.size
              generalize x1.alloc (.cells #[.string ⟨#[]⟩, .int .i64 0, .int .i64 0, .int .i64 0, .int .i64 0, .int .i64 0, .int .i64 0, .int .i64 0, .slice none 0 0, .slice none 0 0] 57) = x5 at *
              generalize x1.heap.size = b at *
              refine wpAnyH_ready (rs := [16]) (by rw [HO.out]; kernel_rfl) (by simp) ?_
              refine AllReadyH.cons (o := _) ((congrArg (fun x : Array Oper => x[16]?) HO.out).trans rfl) (fun K hK => ?_) AllReadyH.nil
              clear hHeld
              rw [if_pos (by rfl)]
              go_simp
              go_at_call 23
              refine (CBE.out x5).mono ?_
              rintro e w' ⟨rfl, hw⟩
              rw [hw]
              clear hw w'
              go_simp
              refine hK.out _ _ (HS.out _ HBx5.out) (fun hHeld => ?_)
              clear hK K
              try simp only [Act.put, List.setIfInBounds_toArray, List.set_cons_zero, List.set_cons_succ]
              refine wpAnyH_ready (rs := [19]) (by rw [HO.out]; kernel_rfl) (by simp) ?_
              refine AllReadyH.cons (o := _) ((congrArg (fun x : Array Oper => x[19]?) HO.out).trans rfl) (fun K hK => ?_) AllReadyH.nil
              clear hHeld
              rw [if_pos (by rfl)]
              go_simp
              go_at_call 23
              refine (CCA.out x5).mono ?_
              rintro e w' ⟨rfl, hw⟩
              rw [hw]
              clear hw w'
              go_simp
              refine hK.out _ _ (HS.out _ HBx5.out) (fun hHeld => ?_)
              clear hK K
              try simp only [Act.put, List.setIfInBounds_toArray, List.set_cons_zero, List.set_cons_succ]
              refine wpAnyH_ready (rs := [22]) (by rw [HO.out]; kernel_rfl) (by simp) ?_
              refine AllReadyH.cons (o := _) ((congrArg (fun x : Array Oper => x[22]?) HO.out).trans rfl) (fun K hK => ?_) AllReadyH.nil
              clear hHeld
              rw [if_pos (by rfl)]
              go_simp
              go_at_call 23
              refine (CJI.out x5).mono ?_
              rintro e w' ⟨rfl, hw⟩
              rw [hw]
              clear hw w'
              go_simp
              refine hK.out _ _ (HS.out _ HBx5.out) (fun hHeld => ?_)
              clear hK K
              try simp only [Act.put, List.setIfInBounds_toArray, List.set_cons_zero, List.set_cons_succ]
              refine wpAnyH_take (i := 23) (oi := _) (v := .agg #[.string NM, .int .i64 vla, .int .i64 (1 + vbu), .int .i64 vcl, .int .i64 vbe, .int .i64 0, .int .i64 vca, .int .i64 vji, .slice none 0 0, .slice none 0 0]) ((congrArg (fun x : Array Oper => x[23]?) HO.out).trans rfl) NS.out (by rw [HO.out]; kernel_rfl) (by rw [HO.out]; kernel_rfl) (fun _ _ _ h => h) (build_yields 57 #[(0, .tmp 14), (1, .tmp 17), (2, .tmp 21), (3, .tmp 24), (4, .tmp 27), (6, .tmp 30), (7, .tmp 33)] rfl rfl [(0, .string NM), (1, .int .i64 vla), (2, .int .i64 (1 + vbu)), (3, .int .i64 vcl), (4, .int .i64 vbe), (6, .int .i64 vca), (7, .int .i64 vji)] (by rfl) #[.string NM, .int .i64 vla, .int .i64 (1 + vbu), .int .i64 vcl, .int .i64 vbe, .int .i64 0, .int .i64 vca, .int .i64 vji, .slice none 0 0, .slice none 0 0] (built_nd NM vla (1 + vbu) vcl vbe vca vji)) hHeld ?_
              go_simp
              refine wpAnyH_take (i := 25) (oi := _) (v := ?_) ((congrArg (fun x : Array Oper => x[25]?) HO.out).trans rfl) NS.out (by rw [HO.out]; kernel_rfl) (by rw [HO.out]; kernel_rfl) (fun _ _ _ h => h) (Or.inl ⟨by rfl, ?_⟩) hHeld ?_
              rotate_left
              · (intro w hSw; (try dsimp only at hSw); go_simp)
                all_goals with_reducible rfl
              go_simp
              refine wpAnyH_done (by rw [HO.out]; kernel_rfl) ?_ _
              simp only [RL.endQ]
              refine wp_store_row 57 _ _ rfl b #[.string NM, .int .i64 vla, .int .i64 (1 + vbu), .int .i64 vcl, .int .i64 vbe, .int .i64 0, .int .i64 vca, .int .i64 vji, .slice none 0 0, .slice none 0 0] (by rfl) (by rfl) 57 #[.string ⟨#[]⟩, .int .i64 0, .int .i64 0, .int .i64 0, .int .i64 0, .int .i64 0, .int .i64 0, .int .i64 0, .slice none 0 0, .slice none 0 0] HXx5.out sizeNd rfl (by simp [Value.oneCell']) ?_
              dsimp only [Act.put]
              have hxx := setRow_heap x5 b #[.string ⟨#[]⟩, .int .i64 0, .int .i64 0, .int .i64 0, .int .i64 0, .int .i64 0, .int .i64 0, .int .i64 0, .slice none 0 0, .slice none 0 0] #[.string NM, .int .i64 vla, .int .i64 (1 + vbu), .int .i64 vcl, .int .i64 vbe, .int .i64 0, .int .i64 vca, .int .i64 vji, .slice none 0 0, .slice none 0 0] 57 (0, 0) HXx5.out
              have hkk := keep_row x5 b #[.string NM, .int .i64 vla, .int .i64 (1 + vbu), .int .i64 vcl, .int .i64 vbe, .int .i64 0, .int .i64 vca, .int .i64 vji, .slice none 0 0, .slice none 0 0]
              have HE := hide (HBx5.out.trans (hkk.below HBx5.out.size fun k e => by have e : k = b := e; omega))
              have HF := hide hxx
              have HLb := hide HL
              clear hxx hkk HL
              go_wp2_with fail
              go_meet
              case rel => exact ⟨b, rfl, HF.out, HLb.out, HE.out⟩
          · clear hHeld
            rw [if_pos (by rfl)]
            unfold Oper.wp
            go_simp
            refine hK.out _ _ (HS.out _ (HBx1.out.alloc HBx1.out.size _)) (fun hHeld => ?_)
            clear hK K
            try simp only [Act.put, List.setIfInBounds_toArray, List.set_cons_zero, List.set_cons_succ]
            have HXx6 := hide (heap_alloc_new x1 (.cells #[.string ⟨#[]⟩, .int .i64 0, .int .i64 0, .int .i64 0, .int .i64 0, .int .i64 0, .int .i64 0, .int .i64 0, .slice none 0 0, .slice none 0 0] 57))
            have HBx6 := hide (HBx1.out.alloc HBx1.out.size (.cells #[.string ⟨#[]⟩, .int .i64 0, .int .i64 0, .int .i64 0, .int .i64 0, .int .i64 0, .int .i64 0, .int .i64 0, .slice none 0 0, .slice none 0 0] 57))
            have HL := HBx1.out.size
            generalize x1.alloc (.cells #[.string ⟨#[]⟩, .int .i64 0, .int .i64 0, .int .i64 0, .int .i64 0, .int .i64 0, .int .i64 0, .int .i64 0, .slice none 0 0, .slice none 0 0] 57) = x6 at *
            generalize x1.heap.size = b at *
            refine wpAnyH_ready (rs := [13]) (by rw [HO.out]; kernel_rfl) (by simp) ?_
            refine AllReadyH.cons (o := _) ((congrArg (fun x : Array Oper => x[13]?) HO.out).trans rfl) (fun K hK => ?_) AllReadyH.nil
            clear hHeld
            rw [if_pos (by rfl)]
            go_simp
            go_at_call 23
            refine (CCL.out x6).mono ?_
            rintro e w' ⟨rfl, hw⟩
            rw [hw]
            clear hw w'
            go_simp
            refine hK.out _ _ (HS.out _ HBx6.out) (fun hHeld => ?_)
            clear hK K
            try simp only [Act.put, List.setIfInBounds_toArray, List.set_cons_zero, List.set_cons_succ]
            refine wpAnyH_ready (rs := [16]) (by rw [HO.out]; kernel_rfl) (by simp) ?_
            refine AllReadyH.cons (o := _) ((congrArg (fun x : Array Oper => x[16]?) HO.out).trans rfl) (fun K hK => ?_) AllReadyH.nil
            clear hHeld
            rw [if_pos (by rfl)]
            go_simp
            go_at_call 23
            refine (CBE.out x6).mono ?_
            rintro e w' ⟨rfl, hw⟩
            rw [hw]
            clear hw w'
            go_simp
            refine hK.out _ _ (HS.out _ HBx6.out) (fun hHeld => ?_)
            clear hK K
            try simp only [Act.put, List.setIfInBounds_toArray, List.set_cons_zero, List.set_cons_succ]
            refine wpAnyH_ready (rs := [19]) (by rw [HO.out]; kernel_rfl) (by simp) ?_
            refine AllReadyH.cons (o := _) ((congrArg (fun x : Array Oper => x[19]?) HO.out).trans rfl) (fun K hK => ?_) AllReadyH.nil
            clear hHeld
            rw [if_pos (by rfl)]
            go_simp
            go_at_call 23
            refine (CCA.out x6).mono ?_
            rintro e w' ⟨rfl, hw⟩
            rw [hw]
            clear hw w'
            go_simp
            refine hK.out _ _ (HS.out _ HBx6.out) (fun hHeld => ?_)
            clear hK K
            try simp only [Act.put, List.setIfInBounds_toArray, List.set_cons_zero, List.set_cons_succ]
            refine wpAnyH_ready (rs := [22]) (by rw [HO.out]; kernel_rfl) (by simp) ?_
            refine AllReadyH.cons (o := _) ((congrArg (fun x : Array Oper => x[22]?) HO.out).trans rfl) (fun K hK => ?_) AllReadyH.nil
            clear hHeld
            rw [if_pos (by rfl)]
            go_simp
            go_at_call 23
            refine (CJI.out x6).mono ?_
            rintro e w' ⟨rfl, hw⟩
            rw [hw]
            clear hw w'
            go_simp
            refine hK.out _ _ (HS.out _ HBx6.out) (fun hHeld => ?_)
            clear hK K
            try simp only [Act.put, List.setIfInBounds_toArray, List.set_cons_zero, List.set_cons_succ]
            refine wpAnyH_take (i := 23) (oi := _) (v := .agg #[.string NM, .int .i64 vla, .int .i64 (1 + vbu), .int .i64 vcl, .int .i64 vbe, .int .i64 0, .int .i64 vca, .int .i64 vji, .slice none 0 0, .slice none 0 0]) ((congrArg (fun x : Array Oper => x[23]?) HO.out).trans rfl) NS.out (by rw [HO.out]; kernel_rfl) (by rw [HO.out]; kernel_rfl) (fun _ _ _ h => h) (build_yields 57 #[(0, .tmp 14), (1, .tmp 17), (2, .tmp 21), (3, .tmp 24), (4, .tmp 27), (6, .tmp 30), (7, .tmp 33)] rfl rfl [(0, .string NM), (1, .int .i64 vla), (2, .int .i64 (1 + vbu)), (3, .int .i64 vcl), (4, .int .i64 vbe), (6, .int .i64 vca), (7, .int .i64 vji)] (by rfl) #[.string NM, .int .i64 vla, .int .i64 (1 + vbu), .int .i64 vcl, .int .i64 vbe, .int .i64 0, .int .i64 vca, .int .i64 vji, .slice none 0 0, .slice none 0 0] (built_nd NM vla (1 + vbu) vcl vbe vca vji)) hHeld ?_
            go_simp
            refine wpAnyH_take (i := 25) (oi := _) (v := ?_) ((congrArg (fun x : Array Oper => x[25]?) HO.out).trans rfl) NS.out (by rw [HO.out]; kernel_rfl) (by rw [HO.out]; kernel_rfl) (fun _ _ _ h => h) (Or.inl ⟨by rfl, ?_⟩) hHeld ?_
            rotate_left
            · (intro w hSw; (try dsimp only at hSw); go_simp)
              all_goals with_reducible rfl
            go_simp
            refine wpAnyH_done (by rw [HO.out]; kernel_rfl) ?_ _
            simp only [RL.endQ]
            refine wp_store_row 57 _ _ rfl b #[.string NM, .int .i64 vla, .int .i64 (1 + vbu), .int .i64 vcl, .int .i64 vbe, .int .i64 0, .int .i64 vca, .int .i64 vji, .slice none 0 0, .slice none 0 0] (by rfl) (by rfl) 57 #[.string ⟨#[]⟩, .int .i64 0, .int .i64 0, .int .i64 0, .int .i64 0, .int .i64 0, .int .i64 0, .int .i64 0, .slice none 0 0, .slice none 0 0] HXx6.out sizeNd rfl (by simp [Value.oneCell']) ?_
            dsimp only [Act.put]
            have hxx := setRow_heap x6 b #[.string ⟨#[]⟩, .int .i64 0, .int .i64 0, .int .i64 0, .int .i64 0, .int .i64 0, .int .i64 0, .int .i64 0, .slice none 0 0, .slice none 0 0] #[.string NM, .int .i64 vla, .int .i64 (1 + vbu), .int .i64 vcl, .int .i64 vbe, .int .i64 0, .int .i64 vca, .int .i64 vji, .slice none 0 0, .slice none 0 0] 57 (0, 0) HXx6.out
            have hkk := keep_row x6 b #[.string NM, .int .i64 vla, .int .i64 (1 + vbu), .int .i64 vcl, .int .i64 vbe, .int .i64 0, .int .i64 vca, .int .i64 vji, .slice none 0 0, .slice none 0 0]
            have HE := hide (HBx6.out.trans (hkk.below HBx6.out.size fun k e => by have e : k = b := e; omega))
            have HF := hide hxx
            have HLb := hide HL
            clear hxx hkk HL
            go_wp2_with fail
            go_meet
            case rel => exact ⟨b, rfl, HF.out, HLb.out, HE.out⟩
        · clear hHeld
          rw [if_pos (by rfl)]
          unfold Oper.wp
          go_simp
          refine hK.out _ _ (HS.out _ (HBx1.out.alloc HBx1.out.size _)) (fun hHeld => ?_)
          clear hK K
          try simp only [Act.put, List.setIfInBounds_toArray, List.set_cons_zero, List.set_cons_succ]
          have HXx7 := hide (heap_alloc_new x1 (.cells #[.string ⟨#[]⟩, .int .i64 0, .int .i64 0, .int .i64 0, .int .i64 0, .int .i64 0, .int .i64 0, .int .i64 0, .slice none 0 0, .slice none 0 0] 57))
          have HBx7 := hide (HBx1.out.alloc HBx1.out.size (.cells #[.string ⟨#[]⟩, .int .i64 0, .int .i64 0, .int .i64 0, .int .i64 0, .int .i64 0, .int .i64 0, .int .i64 0, .slice none 0 0, .slice none 0 0] 57))
          have HL := HBx1.out.size
          generalize x1.alloc (.cells #[.string ⟨#[]⟩, .int .i64 0, .int .i64 0, .int .i64 0, .int .i64 0, .int .i64 0, .int .i64 0, .int .i64 0, .slice none 0 0, .slice none 0 0] 57) = x7 at *
          generalize x1.heap.size = b at *
          refine wpAnyH_ready (rs := [9]) (by rw [HO.out]; kernel_rfl) (by simp) ?_
          refine AllReadyH.cons (o := _) ((congrArg (fun x : Array Oper => x[9]?) HO.out).trans rfl) (fun K hK => ?_) AllReadyH.nil
          clear hHeld
          rw [if_pos (by rfl)]
          go_simp
          go_at_call 19
          refine (CBU.out x7).mono ?_
          rintro e w' ⟨rfl, hw⟩
          rw [hw]
          clear hw w'
          go_simp
          refine hK.out _ _ (HS.out _ HBx7.out) (fun hHeld => ?_)
          clear hK K
          try simp only [Act.put, List.setIfInBounds_toArray, List.set_cons_zero, List.set_cons_succ]
          refine wpAnyH_take (i := 10) (oi := _) (v := ?_) ((congrArg (fun x : Array Oper => x[10]?) HO.out).trans rfl) NS.out (by rw [HO.out]; kernel_rfl) (by rw [HO.out]; kernel_rfl) (fun _ _ _ h => h) (Or.inl ⟨by rfl, ?_⟩) hHeld ?_
          rotate_left
          · (intro w hSw; (try dsimp only at hSw); go_simp)
            all_goals with_reducible rfl
          go_simp
          refine wpAnyH_ready (rs := [13]) (by rw [HO.out]; kernel_rfl) (by simp) ?_
          refine AllReadyH.cons (o := _) ((congrArg (fun x : Array Oper => x[13]?) HO.out).trans rfl) (fun K hK => ?_) AllReadyH.nil
          clear hHeld
          rw [if_pos (by rfl)]
          go_simp
          go_at_call 23
          refine (CCL.out x7).mono ?_
          rintro e w' ⟨rfl, hw⟩
          rw [hw]
          clear hw w'
          go_simp
          refine hK.out _ _ (HS.out _ HBx7.out) (fun hHeld => ?_)
          clear hK K
          try simp only [Act.put, List.setIfInBounds_toArray, List.set_cons_zero, List.set_cons_succ]
          refine wpAnyH_ready (rs := [16]) (by rw [HO.out]; kernel_rfl) (by simp) ?_
          refine AllReadyH.cons (o := _) ((congrArg (fun x : Array Oper => x[16]?) HO.out).trans rfl) (fun K hK => ?_) AllReadyH.nil
          clear hHeld
          rw [if_pos (by rfl)]
          go_simp
          go_at_call 23
          refine (CBE.out x7).mono ?_
          rintro e w' ⟨rfl, hw⟩
          rw [hw]
          clear hw w'
          go_simp
          refine hK.out _ _ (HS.out _ HBx7.out) (fun hHeld => ?_)
          clear hK K
          try simp only [Act.put, List.setIfInBounds_toArray, List.set_cons_zero, List.set_cons_succ]
          refine wpAnyH_ready (rs := [19]) (by rw [HO.out]; kernel_rfl) (by simp) ?_
          refine AllReadyH.cons (o := _) ((congrArg (fun x : Array Oper => x[19]?) HO.out).trans rfl) (fun K hK => ?_) AllReadyH.nil
          clear hHeld
          rw [if_pos (by rfl)]
          go_simp
          go_at_call 23
          refine (CCA.out x7).mono ?_
          rintro e w' ⟨rfl, hw⟩
          rw [hw]
          clear hw w'
          go_simp
          refine hK.out _ _ (HS.out _ HBx7.out) (fun hHeld => ?_)
          clear hK K
          try simp only [Act.put, List.setIfInBounds_toArray, List.set_cons_zero, List.set_cons_succ]
          refine wpAnyH_ready (rs := [22]) (by rw [HO.out]; kernel_rfl) (by simp) ?_
          refine AllReadyH.cons (o := _) ((congrArg (fun x : Array Oper => x[22]?) HO.out).trans rfl) (fun K hK => ?_) AllReadyH.nil
          clear hHeld
          rw [if_pos (by rfl)]
          go_simp
          go_at_call 23
          refine (CJI.out x7).mono ?_
          rintro e w' ⟨rfl, hw⟩
          rw [hw]
          clear hw w'
          go_simp
          refine hK.out _ _ (HS.out _ HBx7.out) (fun hHeld => ?_)
          clear hK K
          try simp only [Act.put, List.setIfInBounds_toArray, List.set_cons_zero, List.set_cons_succ]
          refine wpAnyH_take (i := 23) (oi := _) (v := .agg #[.string NM, .int .i64 vla, .int .i64 (1 + vbu), .int .i64 vcl, .int .i64 vbe, .int .i64 0, .int .i64 vca, .int .i64 vji, .slice none 0 0, .slice none 0 0]) ((congrArg (fun x : Array Oper => x[23]?) HO.out).trans rfl) NS.out (by rw [HO.out]; kernel_rfl) (by rw [HO.out]; kernel_rfl) (fun _ _ _ h => h) (build_yields 57 #[(0, .tmp 14), (1, .tmp 17), (2, .tmp 21), (3, .tmp 24), (4, .tmp 27), (6, .tmp 30), (7, .tmp 33)] rfl rfl [(0, .string NM), (1, .int .i64 vla), (2, .int .i64 (1 + vbu)), (3, .int .i64 vcl), (4, .int .i64 vbe), (6, .int .i64 vca), (7, .int .i64 vji)] (by rfl) #[.string NM, .int .i64 vla, .int .i64 (1 + vbu), .int .i64 vcl, .int .i64 vbe, .int .i64 0, .int .i64 vca, .int .i64 vji, .slice none 0 0, .slice none 0 0] (built_nd NM vla (1 + vbu) vcl vbe vca vji)) hHeld ?_
          go_simp
          refine wpAnyH_take (i := 25) (oi := _) (v := ?_) ((congrArg (fun x : Array Oper => x[25]?) HO.out).trans rfl) NS.out (by rw [HO.out]; kernel_rfl) (by rw [HO.out]; kernel_rfl) (fun _ _ _ h => h) (Or.inl ⟨by rfl, ?_⟩) hHeld ?_
          rotate_left
          · (intro w hSw; (try dsimp only at hSw); go_simp)
            all_goals with_reducible rfl
          go_simp
          refine wpAnyH_done (by rw [HO.out]; kernel_rfl) ?_ _
          simp only [RL.endQ]
          refine wp_store_row 57 _ _ rfl b #[.string NM, .int .i64 vla, .int .i64 (1 + vbu), .int .i64 vcl, .int .i64 vbe, .int .i64 0, .int .i64 vca, .int .i64 vji, .slice none 0 0, .slice none 0 0] (by rfl) (by rfl) 57 #[.string ⟨#[]⟩, .int .i64 0, .int .i64 0, .int .i64 0, .int .i64 0, .int .i64 0, .int .i64 0, .int .i64 0, .slice none 0 0, .slice none 0 0] HXx7.out sizeNd rfl (by simp [Value.oneCell']) ?_
          dsimp only [Act.put]
          have hxx := setRow_heap x7 b #[.string ⟨#[]⟩, .int .i64 0, .int .i64 0, .int .i64 0, .int .i64 0, .int .i64 0, .int .i64 0, .int .i64 0, .slice none 0 0, .slice none 0 0] #[.string NM, .int .i64 vla, .int .i64 (1 + vbu), .int .i64 vcl, .int .i64 vbe, .int .i64 0, .int .i64 vca, .int .i64 vji, .slice none 0 0, .slice none 0 0] 57 (0, 0) HXx7.out
          have hkk := keep_row x7 b #[.string NM, .int .i64 vla, .int .i64 (1 + vbu), .int .i64 vcl, .int .i64 vbe, .int .i64 0, .int .i64 vca, .int .i64 vji, .slice none 0 0, .slice none 0 0]
          have HE := hide (HBx7.out.trans (hkk.below HBx7.out.size fun k e => by have e : k = b := e; omega))
          have HF := hide hxx
          have HLb := hide HL
          clear hxx hkk HL
          go_wp2_with fail
          go_meet
          case rel => exact ⟨b, rfl, HF.out, HLb.out, HE.out⟩
      · clear hHeld
        rw [if_pos (by rfl)]
        unfold Oper.wp
        go_simp
        refine hK.out _ _ (HS.out _ (HBx1.out.alloc HBx1.out.size _)) (fun hHeld => ?_)
        clear hK K
        try simp only [Act.put, List.setIfInBounds_toArray, List.set_cons_zero, List.set_cons_succ]
        have HXx8 := hide (heap_alloc_new x1 (.cells #[.string ⟨#[]⟩, .int .i64 0, .int .i64 0, .int .i64 0, .int .i64 0, .int .i64 0, .int .i64 0, .int .i64 0, .slice none 0 0, .slice none 0 0] 57))
        have HBx8 := hide (HBx1.out.alloc HBx1.out.size (.cells #[.string ⟨#[]⟩, .int .i64 0, .int .i64 0, .int .i64 0, .int .i64 0, .int .i64 0, .int .i64 0, .int .i64 0, .slice none 0 0, .slice none 0 0] 57))
        have HL := HBx1.out.size
        generalize x1.alloc (.cells #[.string ⟨#[]⟩, .int .i64 0, .int .i64 0, .int .i64 0, .int .i64 0, .int .i64 0, .int .i64 0, .int .i64 0, .slice none 0 0, .slice none 0 0] 57) = x8 at *
        generalize x1.heap.size = b at *
        refine wpAnyH_ready (rs := [6]) (by rw [HO.out]; kernel_rfl) (by simp) ?_
        refine AllReadyH.cons (o := _) ((congrArg (fun x : Array Oper => x[6]?) HO.out).trans rfl) (fun K hK => ?_) AllReadyH.nil
        clear hHeld
        rw [if_pos (by rfl)]
        go_simp
        go_at_call 19
        refine (CLA.out x8).mono ?_
        rintro e w' ⟨rfl, hw⟩
        rw [hw]
        clear hw w'
        go_simp
        refine hK.out _ _ (HS.out _ HBx8.out) (fun hHeld => ?_)
        clear hK K
        try simp only [Act.put, List.setIfInBounds_toArray, List.set_cons_zero, List.set_cons_succ]
        refine wpAnyH_ready (rs := [9]) (by rw [HO.out]; kernel_rfl) (by simp) ?_
        refine AllReadyH.cons (o := _) ((congrArg (fun x : Array Oper => x[9]?) HO.out).trans rfl) (fun K hK => ?_) AllReadyH.nil
        clear hHeld
        rw [if_pos (by rfl)]
        go_simp
        go_at_call 19
        refine (CBU.out x8).mono ?_
        rintro e w' ⟨rfl, hw⟩
        rw [hw]
        clear hw w'
        go_simp
        refine hK.out _ _ (HS.out _ HBx8.out) (fun hHeld => ?_)
        clear hK K
        try simp only [Act.put, List.setIfInBounds_toArray, List.set_cons_zero, List.set_cons_succ]
        refine wpAnyH_take (i := 10) (oi := _) (v := ?_) ((congrArg (fun x : Array Oper => x[10]?) HO.out).trans rfl) NS.out (by rw [HO.out]; kernel_rfl) (by rw [HO.out]; kernel_rfl) (fun _ _ _ h => h) (Or.inl ⟨by rfl, ?_⟩) hHeld ?_
        rotate_left
        · (intro w hSw; (try dsimp only at hSw); go_simp)
          all_goals with_reducible rfl
        go_simp
        refine wpAnyH_ready (rs := [13]) (by rw [HO.out]; kernel_rfl) (by simp) ?_
        refine AllReadyH.cons (o := _) ((congrArg (fun x : Array Oper => x[13]?) HO.out).trans rfl) (fun K hK => ?_) AllReadyH.nil
        clear hHeld
        rw [if_pos (by rfl)]
        go_simp
        go_at_call 23
        refine (CCL.out x8).mono ?_
        rintro e w' ⟨rfl, hw⟩
        rw [hw]
        clear hw w'
        go_simp
        refine hK.out _ _ (HS.out _ HBx8.out) (fun hHeld => ?_)
        clear hK K
        try simp only [Act.put, List.setIfInBounds_toArray, List.set_cons_zero, List.set_cons_succ]
        refine wpAnyH_ready (rs := [16]) (by rw [HO.out]; kernel_rfl) (by simp) ?_
        refine AllReadyH.cons (o := _) ((congrArg (fun x : Array Oper => x[16]?) HO.out).trans rfl) (fun K hK => ?_) AllReadyH.nil
        clear hHeld
        rw [if_pos (by rfl)]
        go_simp
        go_at_call 23
        refine (CBE.out x8).mono ?_
        rintro e w' ⟨rfl, hw⟩
        rw [hw]
        clear hw w'
        go_simp
        refine hK.out _ _ (HS.out _ HBx8.out) (fun hHeld => ?_)
        clear hK K
        try simp only [Act.put, List.setIfInBounds_toArray, List.set_cons_zero, List.set_cons_succ]
        refine wpAnyH_ready (rs := [19]) (by rw [HO.out]; kernel_rfl) (by simp) ?_
        refine AllReadyH.cons (o := _) ((congrArg (fun x : Array Oper => x[19]?) HO.out).trans rfl) (fun K hK => ?_) AllReadyH.nil
        clear hHeld
        rw [if_pos (by rfl)]
        go_simp
        go_at_call 23
        refine (CCA.out x8).mono ?_
        rintro e w' ⟨rfl, hw⟩
        rw [hw]
        clear hw w'
        go_simp
        refine hK.out _ _ (HS.out _ HBx8.out) (fun hHeld => ?_)
        clear hK K
        try simp only [Act.put, List.setIfInBounds_toArray, List.set_cons_zero, List.set_cons_succ]
        refine wpAnyH_ready (rs := [22]) (by rw [HO.out]; kernel_rfl) (by simp) ?_
        refine AllReadyH.cons (o := _) ((congrArg (fun x : Array Oper => x[22]?) HO.out).trans rfl) (fun K hK => ?_) AllReadyH.nil
        clear hHeld
        rw [if_pos (by rfl)]
        go_simp
        go_at_call 23
        refine (CJI.out x8).mono ?_
        rintro e w' ⟨rfl, hw⟩
        rw [hw]
        clear hw w'
        go_simp
        refine hK.out _ _ (HS.out _ HBx8.out) (fun hHeld => ?_)
        clear hK K
        try simp only [Act.put, List.setIfInBounds_toArray, List.set_cons_zero, List.set_cons_succ]
        refine wpAnyH_take (i := 23) (oi := _) (v := .agg #[.string NM, .int .i64 vla, .int .i64 (1 + vbu), .int .i64 vcl, .int .i64 vbe, .int .i64 0, .int .i64 vca, .int .i64 vji, .slice none 0 0, .slice none 0 0]) ((congrArg (fun x : Array Oper => x[23]?) HO.out).trans rfl) NS.out (by rw [HO.out]; kernel_rfl) (by rw [HO.out]; kernel_rfl) (fun _ _ _ h => h) (build_yields 57 #[(0, .tmp 14), (1, .tmp 17), (2, .tmp 21), (3, .tmp 24), (4, .tmp 27), (6, .tmp 30), (7, .tmp 33)] rfl rfl [(0, .string NM), (1, .int .i64 vla), (2, .int .i64 (1 + vbu)), (3, .int .i64 vcl), (4, .int .i64 vbe), (6, .int .i64 vca), (7, .int .i64 vji)] (by rfl) #[.string NM, .int .i64 vla, .int .i64 (1 + vbu), .int .i64 vcl, .int .i64 vbe, .int .i64 0, .int .i64 vca, .int .i64 vji, .slice none 0 0, .slice none 0 0] (built_nd NM vla (1 + vbu) vcl vbe vca vji)) hHeld ?_
        go_simp
        refine wpAnyH_take (i := 25) (oi := _) (v := ?_) ((congrArg (fun x : Array Oper => x[25]?) HO.out).trans rfl) NS.out (by rw [HO.out]; kernel_rfl) (by rw [HO.out]; kernel_rfl) (fun _ _ _ h => h) (Or.inl ⟨by rfl, ?_⟩) hHeld ?_
        rotate_left
        · (intro w hSw; (try dsimp only at hSw); go_simp)
          all_goals with_reducible rfl
        go_simp
        refine wpAnyH_done (by rw [HO.out]; kernel_rfl) ?_ _
        simp only [RL.endQ]
        refine wp_store_row 57 _ _ rfl b #[.string NM, .int .i64 vla, .int .i64 (1 + vbu), .int .i64 vcl, .int .i64 vbe, .int .i64 0, .int .i64 vca, .int .i64 vji, .slice none 0 0, .slice none 0 0] (by rfl) (by rfl) 57 #[.string ⟨#[]⟩, .int .i64 0, .int .i64 0, .int .i64 0, .int .i64 0, .int .i64 0, .int .i64 0, .int .i64 0, .slice none 0 0, .slice none 0 0] HXx8.out sizeNd rfl (by simp [Value.oneCell']) ?_
        dsimp only [Act.put]
        have hxx := setRow_heap x8 b #[.string ⟨#[]⟩, .int .i64 0, .int .i64 0, .int .i64 0, .int .i64 0, .int .i64 0, .int .i64 0, .int .i64 0, .slice none 0 0, .slice none 0 0] #[.string NM, .int .i64 vla, .int .i64 (1 + vbu), .int .i64 vcl, .int .i64 vbe, .int .i64 0, .int .i64 vca, .int .i64 vji, .slice none 0 0, .slice none 0 0] 57 (0, 0) HXx8.out
        have hkk := keep_row x8 b #[.string NM, .int .i64 vla, .int .i64 (1 + vbu), .int .i64 vcl, .int .i64 vbe, .int .i64 0, .int .i64 vca, .int .i64 vji, .slice none 0 0, .slice none 0 0]
        have HE := hide (HBx8.out.trans (hkk.below HBx8.out.size fun k e => by have e : k = b := e; omega))
        have HF := hide hxx
        have HLb := hide HL
        clear hxx hkk HL
        go_wp2_with fail
        go_meet
        case rel => exact ⟨b, rfl, HF.out, HLb.out, HE.out⟩
    · clear hHeld
      rw [if_pos (by rfl)]
      unfold Oper.wp
      go_simp
      refine hK.out _ _ (HS.out _ (HBu.out.alloc HBu.out.size _)) (fun hHeld => ?_)
      clear hK K
      try simp only [Act.put, List.setIfInBounds_toArray, List.set_cons_zero, List.set_cons_succ]
      have HXx9 := hide (heap_alloc_new u (.cells #[.string ⟨#[]⟩, .int .i64 0, .int .i64 0, .int .i64 0, .int .i64 0, .int .i64 0, .int .i64 0, .int .i64 0, .slice none 0 0, .slice none 0 0] 57))
      have HBx9 := hide (HBu.out.alloc HBu.out.size (.cells #[.string ⟨#[]⟩, .int .i64 0, .int .i64 0, .int .i64 0, .int .i64 0, .int .i64 0, .int .i64 0, .int .i64 0, .slice none 0 0, .slice none 0 0] 57))
      have HL := HBu.out.size
      generalize u.alloc (.cells #[.string ⟨#[]⟩, .int .i64 0, .int .i64 0, .int .i64 0, .int .i64 0, .int .i64 0, .int .i64 0, .int .i64 0, .slice none 0 0, .slice none 0 0] 57) = x9 at *
      generalize u.heap.size = b at *
      refine wpAnyH_ready (rs := [3]) (by rw [HO.out]; kernel_rfl) (by simp) ?_
      refine AllReadyH.cons (o := _) ((congrArg (fun x : Array Oper => x[3]?) HO.out).trans rfl) (fun K hK => ?_) AllReadyH.nil
      clear hHeld
      rw [if_pos (by rfl)]
      go_simp
      go_at_call 22
      refine (CNM.out x9).mono ?_
      rintro e x10 ⟨rfl, hb⟩
      have HBx10 := hide (HBx9.out.trans (hb.mono HBx9.out.size))
      have HXx10 := hide (blkB HXx9.out hb)
      clear hb
      go_simp
      refine hK.out _ _ (HS.out _ HBx10.out) (fun hHeld => ?_)
      clear hK K
      try simp only [Act.put, List.setIfInBounds_toArray, List.set_cons_zero, List.set_cons_succ]
      refine wpAnyH_ready (rs := [6]) (by rw [HO.out]; kernel_rfl) (by simp) ?_
      refine AllReadyH.cons (o := _) ((congrArg (fun x : Array Oper => x[6]?) HO.out).trans rfl) (fun K hK => ?_) AllReadyH.nil
      clear hHeld
      rw [if_pos (by rfl)]
      go_simp
      go_at_call 19
      refine (CLA.out x10).mono ?_
      rintro e w' ⟨rfl, hw⟩
      rw [hw]
      clear hw w'
      go_simp
      refine hK.out _ _ (HS.out _ HBx10.out) (fun hHeld => ?_)
      clear hK K
      try simp only [Act.put, List.setIfInBounds_toArray, List.set_cons_zero, List.set_cons_succ]
      refine wpAnyH_ready (rs := [9]) (by rw [HO.out]; kernel_rfl) (by simp) ?_
      refine AllReadyH.cons (o := _) ((congrArg (fun x : Array Oper => x[9]?) HO.out).trans rfl) (fun K hK => ?_) AllReadyH.nil
      clear hHeld
      rw [if_pos (by rfl)]
      go_simp
      go_at_call 19
      refine (CBU.out x10).mono ?_
      rintro e w' ⟨rfl, hw⟩
      rw [hw]
      clear hw w'
      go_simp
      refine hK.out _ _ (HS.out _ HBx10.out) (fun hHeld => ?_)
      clear hK K
      try simp only [Act.put, List.setIfInBounds_toArray, List.set_cons_zero, List.set_cons_succ]
      refine wpAnyH_take (i := 10) (oi := _) (v := ?_) ((congrArg (fun x : Array Oper => x[10]?) HO.out).trans rfl) NS.out (by rw [HO.out]; kernel_rfl) (by rw [HO.out]; kernel_rfl) (fun _ _ _ h => h) (Or.inl ⟨by rfl, ?_⟩) hHeld ?_
      rotate_left
      · (intro w hSw; (try dsimp only at hSw); go_simp)
        all_goals with_reducible rfl
      go_simp
      refine wpAnyH_ready (rs := [13]) (by rw [HO.out]; kernel_rfl) (by simp) ?_
      refine AllReadyH.cons (o := _) ((congrArg (fun x : Array Oper => x[13]?) HO.out).trans rfl) (fun K hK => ?_) AllReadyH.nil
      clear hHeld
      rw [if_pos (by rfl)]
      go_simp
      go_at_call 23
      refine (CCL.out x10).mono ?_
      rintro e w' ⟨rfl, hw⟩
      rw [hw]
      clear hw w'
      go_simp
      refine hK.out _ _ (HS.out _ HBx10.out) (fun hHeld => ?_)
      clear hK K
      try simp only [Act.put, List.setIfInBounds_toArray, List.set_cons_zero, List.set_cons_succ]
      refine wpAnyH_ready (rs := [16]) (by rw [HO.out]; kernel_rfl) (by simp) ?_
      refine AllReadyH.cons (o := _) ((congrArg (fun x : Array Oper => x[16]?) HO.out).trans rfl) (fun K hK => ?_) AllReadyH.nil
      clear hHeld
      rw [if_pos (by rfl)]
      go_simp
      go_at_call 23
      refine (CBE.out x10).mono ?_
      rintro e w' ⟨rfl, hw⟩
      rw [hw]
      clear hw w'
      go_simp
      refine hK.out _ _ (HS.out _ HBx10.out) (fun hHeld => ?_)
      clear hK K
      try simp only [Act.put, List.setIfInBounds_toArray, List.set_cons_zero, List.set_cons_succ]
      refine wpAnyH_ready (rs := [19]) (by rw [HO.out]; kernel_rfl) (by simp) ?_
      refine AllReadyH.cons (o := _) ((congrArg (fun x : Array Oper => x[19]?) HO.out).trans rfl) (fun K hK => ?_) AllReadyH.nil
      clear hHeld
      rw [if_pos (by rfl)]
      go_simp
      go_at_call 23
      refine (CCA.out x10).mono ?_
      rintro e w' ⟨rfl, hw⟩
      rw [hw]
      clear hw w'
      go_simp
      refine hK.out _ _ (HS.out _ HBx10.out) (fun hHeld => ?_)
      clear hK K
      try simp only [Act.put, List.setIfInBounds_toArray, List.set_cons_zero, List.set_cons_succ]
      refine wpAnyH_ready (rs := [22]) (by rw [HO.out]; kernel_rfl) (by simp) ?_
      refine AllReadyH.cons (o := _) ((congrArg (fun x : Array Oper => x[22]?) HO.out).trans rfl) (fun K hK => ?_) AllReadyH.nil
      clear hHeld
      rw [if_pos (by rfl)]
      go_simp
      go_at_call 23
      refine (CJI.out x10).mono ?_
      rintro e w' ⟨rfl, hw⟩
      rw [hw]
      clear hw w'
      go_simp
      refine hK.out _ _ (HS.out _ HBx10.out) (fun hHeld => ?_)
      clear hK K
      try simp only [Act.put, List.setIfInBounds_toArray, List.set_cons_zero, List.set_cons_succ]
      refine wpAnyH_take (i := 23) (oi := _) (v := .agg #[.string NM, .int .i64 vla, .int .i64 (1 + vbu), .int .i64 vcl, .int .i64 vbe, .int .i64 0, .int .i64 vca, .int .i64 vji, .slice none 0 0, .slice none 0 0]) ((congrArg (fun x : Array Oper => x[23]?) HO.out).trans rfl) NS.out (by rw [HO.out]; kernel_rfl) (by rw [HO.out]; kernel_rfl) (fun _ _ _ h => h) (build_yields 57 #[(0, .tmp 14), (1, .tmp 17), (2, .tmp 21), (3, .tmp 24), (4, .tmp 27), (6, .tmp 30), (7, .tmp 33)] rfl rfl [(0, .string NM), (1, .int .i64 vla), (2, .int .i64 (1 + vbu)), (3, .int .i64 vcl), (4, .int .i64 vbe), (6, .int .i64 vca), (7, .int .i64 vji)] (by rfl) #[.string NM, .int .i64 vla, .int .i64 (1 + vbu), .int .i64 vcl, .int .i64 vbe, .int .i64 0, .int .i64 vca, .int .i64 vji, .slice none 0 0, .slice none 0 0] (built_nd NM vla (1 + vbu) vcl vbe vca vji)) hHeld ?_
      go_simp
      refine wpAnyH_take (i := 25) (oi := _) (v := ?_) ((congrArg (fun x : Array Oper => x[25]?) HO.out).trans rfl) NS.out (by rw [HO.out]; kernel_rfl) (by rw [HO.out]; kernel_rfl) (fun _ _ _ h => h) (Or.inl ⟨by rfl, ?_⟩) hHeld ?_
      rotate_left
      · (intro w hSw; (try dsimp only at hSw); go_simp)
        all_goals with_reducible rfl
      go_simp
      refine wpAnyH_done (by rw [HO.out]; kernel_rfl) ?_ _
      simp only [RL.endQ]
      refine wp_store_row 57 _ _ rfl b #[.string NM, .int .i64 vla, .int .i64 (1 + vbu), .int .i64 vcl, .int .i64 vbe, .int .i64 0, .int .i64 vca, .int .i64 vji, .slice none 0 0, .slice none 0 0] (by rfl) (by rfl) 57 #[.string ⟨#[]⟩, .int .i64 0, .int .i64 0, .int .i64 0, .int .i64 0, .int .i64 0, .int .i64 0, .int .i64 0, .slice none 0 0, .slice none 0 0] HXx10.out sizeNd rfl (by simp [Value.oneCell']) ?_
      dsimp only [Act.put]
      have hxx := setRow_heap x10 b #[.string ⟨#[]⟩, .int .i64 0, .int .i64 0, .int .i64 0, .int .i64 0, .int .i64 0, .int .i64 0, .int .i64 0, .slice none 0 0, .slice none 0 0] #[.string NM, .int .i64 vla, .int .i64 (1 + vbu), .int .i64 vcl, .int .i64 vbe, .int .i64 0, .int .i64 vca, .int .i64 vji, .slice none 0 0, .slice none 0 0] 57 (0, 0) HXx10.out
      have hkk := keep_row x10 b #[.string NM, .int .i64 vla, .int .i64 (1 + vbu), .int .i64 vcl, .int .i64 vbe, .int .i64 0, .int .i64 vca, .int .i64 vji, .slice none 0 0, .slice none 0 0]
      have HE := hide (HBx10.out.trans (hkk.below HBx10.out.size fun k e => by have e : k = b := e; omega))
      have HF := hide hxx
      have HLb := hide HL
      clear hxx hkk HL
      go_wp2_with fail
      go_meet
      case rel => exact ⟨b, rfl, HF.out, HLb.out, HE.out⟩
  case rest => as_aux_lemma =>
    obtain ⟨b, rfl, HA⟩ := hcut
    have hbz : w.heap.size + 2 ≤ b := Nat.le_trans HSZ.out HA.out.2.1
    have pca : 1 ≤ vca ∧ vca ≤ 1099511627776 := by have := pkk_lt (c := ca) (n := 1099511627777 - 1) (by decide); have := E5.out; omega
    have CBA := hide (fun W => pick12_val ba vca (by omega) HR.out.ba (by omega) W)
    obtain ⟨vba, hba⟩ : ∃ x, pkk ba vca = x := ⟨_, rfl⟩
    have pba : 0 ≤ vba ∧ vba < vca := hba ▸ pkk_lt (by omega)
    rw [hba] at CBA
    have E7 := hide hba
    clear hba CNM CLA CBU CCL CBE CCA CJI HS HBu
    have hxr := blkB HX1.out HA.out.2.2
    have hxo := blkB HX2.out HA.out.2.2
    have f5 := cell_blk hxr 5 (v := .int .i64 ba) rfl
    have c6 := cell_blk HA.out.1 6 (v := .int .i64 vca) rfl
    have c5 := cell_blk HA.out.1 5 (v := .int .i64 0) rfl
    have z5 := frozen_blk HA.out.1 5
    have hks := keep_cell wc b 5 (.int .i64 (1 + vba))
    have hb13 := HBX.out.trans (HA.out.2.2.mono HBX.out.size)
    have HB3 := hide (hb13.trans (hks.below hb13.size fun j e => by have e : j = b := e; omega))
    have HX3 : Hid ((wc.setCell ⟨b, 5, none⟩ (.int .i64 (1 + vba))).heap[b]? = some (.cells #[.string NM, .int .i64 vla, .int .i64 (1 + vbu), .int .i64 vcl, .int .i64 vbe, .int .i64 (1 + vba), .int .i64 vca, .int .i64 vji, (.slice none 0 0), (.slice none 0 0)] 57 (0, 0))) := set_blk HA.out.1 5 _
    have HXr := hide (hks.blk hxr fun e => by have e : w.heap.size = b := e; omega)
    have HXo := hide (hks.blk hxo fun e => by have e : w.heap.size + 1 = b := e; omega)
    clear hxr hxo hks hb13
    go_upto_region 3 with (go_at_call 19; refine (CBA.out _).mono ?_; rintro e w' ⟨rfl, hw⟩; rw [hw]; clear hw w')
    clear f5 c6 c5 z5 HA CBA HX1 HX2 HBX
    generalize wc.setCell ⟨b, 5, none⟩ (.int .i64 (1 + vba)) = w3 at *
    have hbw3 := blk_lt HX3.out
    have M1 := hide (marks12_any ne nl B i (by omega) w3 (HZ1.out.new (Keep.ofBelow (S := fun _ => False) HB3.out (Nat.le_refl _))) HR.out.nl)
    have f8 := cell_blk HXr.out 8 (v := .slice ne.1 ne.2.1 ne.2.2) rfl
    go_upto_region 4 with (go_at_call 39; refine M1.out.mono ?_; rintro e w4 ⟨rfl, ho1, hb4⟩)
    clear f8 M1
    have HB4 := hide (HB3.out.trans (hb4.mono HB3.out.size))
    have HX4 := hide (blkB HX3.out hb4)
    have HXr4 := hide (blkB HXr.out hb4)
    have HXo4 := hide (blkB HXo.out hb4)
    have HM1 := hide ho1
    have hs34 := (own_lo ho1 rfl).2
    clear ho1 hb4 HB3 HX3 HXr HXo
    have M2 := hide (marks12_any af al B i (by omega) w4 (HZ2.out.new (Keep.ofBelow (S := fun _ => False) HB4.out (Nat.le_refl _))) HR.out.al)
    have f9 := cell_blk HXr4.out 9 (v := .slice af.1 af.2.1 af.2.2) rfl
    go_upto_region 5 with (go_at_call 39; refine M2.out.mono ?_; rintro e w5 ⟨rfl, ho2, hb5⟩)
    clear f9 M2
    have hs45 := (own_lo ho2 rfl).2
    obtain ⟨nb, hnb⟩ : ∃ x, mkv nl i = x := ⟨_, rfl⟩
    obtain ⟨ab, hab⟩ : ∃ x, mkv al i = x := ⟨_, rfl⟩
    have hnl : nb.length = i := hnb ▸ mkv_len nl i
    have hal : ab.length = i := hab ▸ mkv_len al i
    rw [hnb] at HM1
    rw [hab] at ho2
    have FIN : Hid (∀ (W : World) (z1 z2 : List Int) (xa : Option Addr) (xc : Nat) (ya : Option Addr) (yc : Nat), eds nb ab room i = (z1, z2) → W.ownsRow w5.heap.size 3 1 (.slice xa z1.length xc) z1.length (zv z1) → W.ownsRow w5.heap.size 3 1 (.slice ya z2.length yc) z2.length (zv z2) → NdV (ndv ⟨nm, la, bu, cl, be, ba, ca, ji, ne, af, nl, al⟩ i room) W (.agg #[.string NM, .int .i64 vla, .int .i64 (1 + vbu), .int .i64 vcl, .int .i64 vbe, .int .i64 (1 + vba), .int .i64 vca, .int .i64 vji, (.slice xa z1.length xc), (.slice ya z2.length yc)])) := by
      intro W z1 z2 xa xc ya yc he h1 h2
      have e5 : 1 + pkk ca 1099511627776 = vca := E5.out
      have ea : (eds (mkv nl i) (mkv al i) room i) = (z1, z2) := by rw [hnb, hab]; exact he
      refine ⟨xa, z1.length, xc, ya, z2.length, yc, ?_, ?_, ?_⟩
      · show _ = Value.agg #[.string (str (nmv nm i)), .int .i64 (pkk la 16), .int .i64 (1 + pkk bu 100), .int .i64 (1 + pkk cl 1099511627776), .int .i64 (pkk be 1099511627777), .int .i64 (1 + pkk ba (1 + pkk ca 1099511627776)), .int .i64 (1 + pkk ca 1099511627776), .int .i64 (pkk ji 1099511627777), .slice xa z1.length xc, .slice ya z2.length yc]
        have t4 : pkk be 1099511627777 = vbe := by have := E4.out; rw [Int.zero_add] at this; exact this
        have t6 : pkk ji 1099511627777 = vji := by have := E6.out; rw [Int.zero_add] at this; exact this
        have t3 : 1 + pkk cl 1099511627776 = vcl := E3.out
        rw [E0.out, E1.out, E2.out, t3, t4, e5, E7.out, t6]
      · show zRow W xa z1.length xc (eds (mkv nl i) (mkv al i) room i).1
        rw [ea]
        exact ⟨rfl, ownsRow_base h1 (Nat.zero_le _)⟩
      · show zRow W ya z2.length yc (eds (mkv nl i) (mkv al i) room i).2
        rw [ea]
        exact ⟨rfl, ownsRow_base h2 (Nat.zero_le _)⟩
    have HN0 : Hid (NL w w5 (w.heap.size + 1) b w5.heap.size w3.heap.size w4.heap.size i nb ab #[.string ⟨#[]⟩, .int .i64 0, .int .i64 0, .int .i64 0, .int .i64 0, .int .i64 0, .int .i64 0, .int .i64 0, .slice none 0 0, .slice none 0 0] (fun x y => #[.string NM, .int .i64 vla, .int .i64 (1 + vbu), .int .i64 vcl, .int .i64 vbe, .int .i64 (1 + vba), .int .i64 vca, .int .i64 vji, x, y]) [] [] (.slice none 0 0) (.slice none 0 0)) :=
      ⟨blkB HX4.out hb5, World.ownsRow_nil _ _ _ _, World.ownsRow_nil _ _ _ _, (fun g e => by cases e), ownsRow_base (own_keep HM1.out (Keep.ofBelow (S := fun _ => False) hb5 (Nat.le_refl _)) (fun _ f => f.elim)) (Nat.zero_le _), ownsRow_base ho2 (Nat.zero_le _), blkB HXo4.out hb5, HB4.out.trans (hb5.mono HB4.out.size), Nat.le_refl _⟩
    have HDD : Hid (b < w5.heap.size ∧ (w3.heap.size < w5.heap.size ∧ w3.heap.size ≠ b) ∧ (w4.heap.size < w5.heap.size ∧ w4.heap.size ≠ b) ∧ (w.heap.size + 1 < w5.heap.size ∧ w.heap.size + 1 ≠ b) ∧ w.heap.size ≤ b) := by
      have := hb5.size
      refine ⟨by omega, ⟨by omega, by omega⟩, ⟨by omega, by omega⟩, ⟨by omega, by omega⟩, by omega⟩
    have HNB := hide hnb
    have HAB := hide hab
    clear hnb hab ho2 hb5 hs34 hs45 hbw3 hbz pca pba HM1 HX4 HXr4 HXo4 HB4 HZ1 HZ2 HR E0 E1 E2 E3 E4 E5 E6 E7 HNB HAB
    generalize w5.heap.size = D at *
    generalize w3.heap.size = m1 at *
    generalize w4.heap.size = m2 at *
    go_upto_region 6 with fail
    go_loopw [2, 10] (fun rv kv wr => ∃ (k rm : Nat) (x y : Value), rv = .int .i64 (rm : Nat) ∧ kv = .int .i64 (k : Nat) ∧ k ≤ i ∧ rm ≤ 256 ∧ Hid (rm + (eds nb ab room k).1.length + (eds nb ab room k).2.length = room ∧ NL w wr (w.heap.size + 1) b D m1 m2 i nb ab #[.string ⟨#[]⟩, .int .i64 0, .int .i64 0, .int .i64 0, .int .i64 0, .int .i64 0, .int .i64 0, .int .i64 0, .slice none 0 0, .slice none 0 0] (fun x y => #[.string NM, .int .i64 vla, .int .i64 (1 + vbu), .int .i64 vcl, .int .i64 vbe, .int .i64 (1 + vba), .int .i64 vca, .int .i64 vji, x, y]) (eds nb ab room k).1 (eds nb ab room k).2 x y)) (fun _ kv _ => i - (intOf kv).toNat)
    case atStart => exact ⟨0, room, _, _, rfl, rfl, Nat.zero_le _, hroom, rfl, HN0.out⟩
    case round => as_aux_lemma =>
      clear HN0
      obtain ⟨k, rm, x, y, rfl, rfl, hk, hrm, HD⟩ := hrel
      obtain ⟨xa, xc, rfl⟩ := ownsRow_shape HD.out.2.ox
      obtain ⟨ya, yc, rfl⟩ := ownsRow_shape HD.out.2.oy
      have HLE := hide (eds_len nb ab room k)
      have HST := hide (eds_stop nb ab room k)
      have HSU : Hid (eds nb ab room (k + 1) = if (eds nb ab room k).1.length + (eds nb ab room k).2.length < room then (if nb.getD k false then ((eds nb ab room k).1 ++ [(k : Int)], (eds nb ab room k).2) else if ab.getD k false then ((eds nb ab room k).1, (eds nb ab room k).2 ++ [(k : Int)]) else eds nb ab room k) else eds nb ab room k) := rfl
      have HEK : Hid (k = i → eds nb ab room i = eds nb ab room k) := fun e => by rw [e]
      obtain ⟨z1, z2⟩ : List Int × List Int := (([] : List Int), [])
      clear z1 z2
      obtain ⟨zz, hzz⟩ : ∃ x, eds nb ab room k = x := ⟨_, rfl⟩
      rw [hzz] at HD HLE HST HSU HEK
      have HZZ := hide hzz
      clear hzz
      obtain ⟨z1, z2⟩ := zz
      have h1000 : z1.length ≤ 1000 := by have := HLE.out; have t : z1.length + z2.length ≤ k := this; omega
      have h2000 : z2.length ≤ 1000 := by have := HLE.out; have t : z1.length + z2.length ≤ k := this; omega
      by_cases c1 : k < i
      · have c1' : (k : Int) < (i : Int) := by omega
        by_cases c2 : 0 < rm
        · have c2' : (0 : Int) < (rm : Int) := by omega
          have e1 := HD.out.2.mark1 c1 hnl
          have e2 := HD.out.2.mark2 c1 hal
          have hlt : z1.length + z2.length < room := by have t : rm + z1.length + z2.length = room := HD.out.1; omega
          have HS2 := HSU.out
          rw [if_pos hlt] at HS2
          clear hlt
          obtain ⟨q, hq⟩ : ∃ q, rm = q + 1 := ⟨rm - 1, by omega⟩
          have hsub : (rm : Int) - 1 = (q : Int) := by omega
          have HQ := hide hq
          clear hq
          cases hb1 : nb.getD k false with
          | true =>
            rw [hb1] at e1 HS2
            rw [if_pos rfl] at HS2
            have HS3 := hide HS2
            clear HS2 hb1
            have d8 := cell_blk HD.out.2.blk 8 (v := .slice xa z1.length xc) rfl
            have HC0 : Hid ((wr.alloc (.cells #[.int .i64 (k : Int)] 3)).cell? ⟨wr.heap.size, 0, none⟩ = some (.int .i64 (k : Int))) := by show _ = _; rw [World.cell?_alloc_mark]; rfl
            have HOW := hide (own_keep HD.out.2.ox (Keep.alloc (fun _ => False) wr (.cells #[.int .i64 (k : Int)] 3)) (fun _ f => f.elim))
            have HSZ2 : Hid (D ≤ (wr.alloc (.cells #[.int .i64 (k : Int)] 3)).heap.size) := Nat.le_trans HD.out.2.sz (by simp)
            go_wp2_with (at_builtin; refine wp_app_int rfl _ _ rfl D (.slice xa z1.length xc) z1 rfl HOW.out wr.heap.size (k : Int) rfl HC0.out (by omega) HSZ2.out ?_; intro xa2 xc2 w2 ho2 hk2 hn2; go_loud (have hb2 := hk2.blk ((Below.heap_alloc _ _ _ (blk_lt HD.out.2.blk)).trans HD.out.2.blk) (fun e => by have t1 := (own_lo HD.out.2.ox e).1; have t2 := HDD.out.1; omega); have q8 := cell_blk hb2 8 (v := .slice xa z1.length xc) rfl; have p8 := frozen_blk hb2 8); go_loud (have HN2 := hide (NL.appx HD.out.2 (fun x y => ⟨rfl, fun x' => rfl⟩) HDD.out.1 HDD.out.2.1 HDD.out.2.2.1 HDD.out.2.2.2.1 HDD.out.2.2.2.2 ho2 hk2 hn2)); clear ho2 hk2 hn2 hb2)
            clear q8 p8
            go_roundw
            · exact ⟨k + 1, q, _, _, rfl, rfl, by omega, by have := HQ.out; omega, (by rw [HS3.out]; have t : rm + z1.length + z2.length = room := HD.out.1; have := HQ.out; simp; omega), (by rw [HS3.out]; have t := HN2.out; simp only [List.length_append, List.length_cons, List.length_nil, Nat.zero_add] at t; exact t)⟩
            · show i - ((k : Int) + 1).toNat < i - (k : Int).toNat
              omega
          | false =>
            rw [hb1] at e1 HS2
            rw [if_neg (by decide)] at HS2
            clear hb1
            cases hb2 : ab.getD k false with
            | true =>
              rw [hb2] at e2 HS2
              rw [if_pos rfl] at HS2
              have HS3 := hide HS2
              clear HS2 hb2
              have d8 := cell_blk HD.out.2.blk 9 (v := .slice ya z2.length yc) rfl
              have HC0 : Hid ((wr.alloc (.cells #[.int .i64 (k : Int)] 3)).cell? ⟨wr.heap.size, 0, none⟩ = some (.int .i64 (k : Int))) := by show _ = _; rw [World.cell?_alloc_mark]; rfl
              have HOW := hide (own_keep HD.out.2.oy (Keep.alloc (fun _ => False) wr (.cells #[.int .i64 (k : Int)] 3)) (fun _ f => f.elim))
              have HSZ2 : Hid (D ≤ (wr.alloc (.cells #[.int .i64 (k : Int)] 3)).heap.size) := Nat.le_trans HD.out.2.sz (by simp)
              go_wp2_with (at_builtin; refine wp_app_int rfl _ _ rfl D (.slice ya z2.length yc) z2 rfl HOW.out wr.heap.size (k : Int) rfl HC0.out (by omega) HSZ2.out ?_; intro xa2 xc2 w2 ho2 hk2 hn2; go_loud (have hb2 := hk2.blk ((Below.heap_alloc _ _ _ (blk_lt HD.out.2.blk)).trans HD.out.2.blk) (fun e => by have t1 := (own_lo HD.out.2.oy e).1; have t2 := HDD.out.1; omega); have q8 := cell_blk hb2 9 (v := .slice ya z2.length yc) rfl; have p8 := frozen_blk hb2 9); go_loud (have HN2 := hide (NL.appy HD.out.2 (fun x y => ⟨rfl, fun x' => rfl⟩) HDD.out.1 HDD.out.2.1 HDD.out.2.2.1 HDD.out.2.2.2.1 HDD.out.2.2.2.2 ho2 hk2 hn2)); clear ho2 hk2 hn2 hb2)
              clear q8 p8
              go_roundw
              · exact ⟨k + 1, q, _, _, rfl, rfl, by omega, by have := HQ.out; omega, (by rw [HS3.out]; have t : rm + z1.length + z2.length = room := HD.out.1; have := HQ.out; simp; omega), (by rw [HS3.out]; have t := HN2.out; simp only [List.length_append, List.length_cons, List.length_nil, Nat.zero_add] at t; exact t)⟩
              · show i - ((k : Int) + 1).toNat < i - (k : Int).toNat
                omega
            | false =>
              rw [hb2] at e2 HS2
              rw [if_neg (by decide)] at HS2
              have HS3 := hide HS2
              clear HS2 hb2 hsub
              go_wp2_with fail
              go_roundw
              · exact ⟨k + 1, rm, _, _, rfl, rfl, by omega, hrm, (by rw [HS3.out]; exact HD.out.1), (by rw [HS3.out]; exact HD.out.2)⟩
              · show i - ((k : Int) + 1).toNat < i - (k : Int).toNat
                omega
        · have c2' : ¬ (0 : Int) < (rm : Int) := by omega
          have HE : Hid (eds nb ab room i = (z1, z2)) := (HST.out (by show ¬ z1.length + z2.length < room; have t : rm + z1.length + z2.length = room := HD.out.1; omega) i hk)
          have HNL := hide HD.out.2
          have HXb := hide HD.out.2.blk
          have HXo := hide HD.out.2.ob
          clear HD
          have HO1 : Hid ((#[.string NM, .int .i64 vla, .int .i64 (1 + vbu), .int .i64 vcl, .int .i64 vbe, .int .i64 (1 + vba), .int .i64 vca, .int .i64 vji, (.slice xa z1.length xc), (.slice ya z2.length yc)] : Array Value).all (·.oneCell') = true) := by show _ = _; simp [Value.oneCell']
          go_wp2_with (first
            | (refine wpList_load_row rfl 57 _ rfl b rfl 57 #[.string NM, .int .i64 vla, .int .i64 (1 + vbu), .int .i64 vcl, .int .i64 vbe, .int .i64 (1 + vba), .int .i64 vca, .int .i64 vji, (.slice xa z1.length xc), (.slice ya z2.length yc)] (0, 0) _ HXb.out Tryz.underlying57 rfl sizeNd ?_)
            | (refine wpList_store_row rfl 57 _ _ rfl (w.heap.size + 1) #[.string NM, .int .i64 vla, .int .i64 (1 + vbu), .int .i64 vcl, .int .i64 vbe, .int .i64 (1 + vba), .int .i64 vca, .int .i64 vji, (.slice xa z1.length xc), (.slice ya z2.length yc)] rfl rfl 57 _ HXo.out sizeNd rfl HO1.out ?_))
          have HX := hide (setRow_heap _ (w.heap.size + 1) _ #[.string NM, .int .i64 vla, .int .i64 (1 + vbu), .int .i64 vcl, .int .i64 vbe, .int .i64 (1 + vba), .int .i64 vca, .int .i64 vji, (.slice xa z1.length xc), (.slice ya z2.length yc)] _ _ HXo.out)
          have HK := hide (keep_row wr (w.heap.size + 1) #[.string NM, .int .i64 vla, .int .i64 (1 + vbu), .int .i64 vcl, .int .i64 vbe, .int .i64 (1 + vba), .int .i64 vca, .int .i64 vji, (.slice xa z1.length xc), (.slice ya z2.length yc)])
          refine bodyPost_ret (resNd rfl _ _ (w.heap.size + 1) _ rfl rfl HX.out) rfl ⟨_, rfl, ?_, ?_⟩
          · exact FIN.out _ z1 z2 xa xc ya yc HE.out (own_keep HNL.out.ox HK.out fun j e e2 => by have e : j = w.heap.size + 1 := e; have := (own_lo HNL.out.ox e2).1; have := HDD.out; omega) (own_keep HNL.out.oy HK.out fun j e e2 => by have e : j = w.heap.size + 1 := e; have := (own_lo HNL.out.oy e2).1; have := HDD.out; omega)
          · exact HNL.out.bl.trans (HK.out.below HNL.out.bl.size fun j e => by have e : j = w.heap.size + 1 := e; omega)
      · have c1' : ¬ (k : Int) < (i : Int) := by omega
        have HE : Hid (eds nb ab room i = (z1, z2)) := HEK.out (by omega)
        have HNL := hide HD.out.2
        have HXb := hide HD.out.2.blk
        have HXo := hide HD.out.2.ob
        clear HD
        have HO1 : Hid ((#[.string NM, .int .i64 vla, .int .i64 (1 + vbu), .int .i64 vcl, .int .i64 vbe, .int .i64 (1 + vba), .int .i64 vca, .int .i64 vji, (.slice xa z1.length xc), (.slice ya z2.length yc)] : Array Value).all (·.oneCell') = true) := by show _ = _; simp [Value.oneCell']
        go_wp2_with (first
          | (refine wpList_load_row rfl 57 _ rfl b rfl 57 #[.string NM, .int .i64 vla, .int .i64 (1 + vbu), .int .i64 vcl, .int .i64 vbe, .int .i64 (1 + vba), .int .i64 vca, .int .i64 vji, (.slice xa z1.length xc), (.slice ya z2.length yc)] (0, 0) _ HXb.out Tryz.underlying57 rfl sizeNd ?_)
          | (refine wpList_store_row rfl 57 _ _ rfl (w.heap.size + 1) #[.string NM, .int .i64 vla, .int .i64 (1 + vbu), .int .i64 vcl, .int .i64 vbe, .int .i64 (1 + vba), .int .i64 vca, .int .i64 vji, (.slice xa z1.length xc), (.slice ya z2.length yc)] rfl rfl 57 _ HXo.out sizeNd rfl HO1.out ?_))
        have HX := hide (setRow_heap _ (w.heap.size + 1) _ #[.string NM, .int .i64 vla, .int .i64 (1 + vbu), .int .i64 vcl, .int .i64 vbe, .int .i64 (1 + vba), .int .i64 vca, .int .i64 vji, (.slice xa z1.length xc), (.slice ya z2.length yc)] _ _ HXo.out)
        have HK := hide (keep_row wr (w.heap.size + 1) #[.string NM, .int .i64 vla, .int .i64 (1 + vbu), .int .i64 vcl, .int .i64 vbe, .int .i64 (1 + vba), .int .i64 vca, .int .i64 vji, (.slice xa z1.length xc), (.slice ya z2.length yc)])
        refine bodyPost_ret (resNd rfl _ _ (w.heap.size + 1) _ rfl rfl HX.out) rfl ⟨_, rfl, ?_, ?_⟩
        · exact FIN.out _ z1 z2 xa xc ya yc HE.out (own_keep HNL.out.ox HK.out fun j e e2 => by have e : j = w.heap.size + 1 := e; have := (own_lo HNL.out.ox e2).1; have := HDD.out; omega) (own_keep HNL.out.oy HK.out fun j e e2 => by have e : j = w.heap.size + 1 := e; have := (own_lo HNL.out.oy e2).1; have := HDD.out; omega)
        · exact HNL.out.bl.trans (HK.out.below HNL.out.bl.size fun j e => by have e : j = w.heap.size + 1 := e; omega)
end Cd
end Go.Proofs.YtbjcckfhfbjchaaGreat
