/- Package wheel: All (of numbers). -/
import Derived.Test.YtbjapgajbljhfaaWRis
import Derived.Test.YtbjapgajbljhfaaWSrt
import Derived.Test.YtbjapgajbljhfaaWAdA
import Derived.Laws.MakeOwn
import Derived.Deep.AppendLies
import Derived.Deep.RegionLaw
namespace Go.Proofs.Ytbjapgajbljhfaa
namespace Wh
open Go.RowKit Go.Lib Go.Maps Go.MapKept Go.ChangeMaps Go.Sort

theorem made_timers (u : World) (n : Nat) (hn : n ≤ 1048580) : (Instr.makeSlice 27 (.int .i64 0) (.int .i64 (n : Nat))).run Try.prog u = .ok (.slice (some ⟨u.heap.size, 0, none⟩) 0 n) (u.alloc (.cells (madeCells #[.int .i64 0, .int .i64 0, .int .i64 0] (n * 3)) 32)) := by
  obtain ⟨i0, hi, hz0, hz1, hz2⟩ := info_parts info_timer
  have h := run_make (P := Try.prog) (w := u) 27 32 i0 (.agg #[.int .i64 0, .int .i64 0, .int .i64 0]) Try.underlying27 hi hz0 .i64 .i64 0 (n : Int) (by omega) (by omega) (by rw [hz2]; omega) (by omega)
  simpa [hz1, Value.cells] using h

theorem ranges_keep {w w' : World} {b r n : Nat} {D : DataW Value} {left : Lit → Bool} {cnt : Nat} {S : Nat → Prop} (h : w.ranges Try.prog 3 rawE b r n D left cnt) (hk : Keep S w w') (hb' : ¬ S b) (hr' : ¬ S r) : w'.ranges Try.prog 3 rawE b r n D left cnt := by
  obtain ⟨es, clock, since, seen, c0, hb, F, hs, hD, hr, rest⟩ := h
  exact ⟨es, clock, since, seen, c0, hk.blk hb hb', F, hs, hD, hk.blk hr hr', rest⟩
/-- the row's block is another than what holds no timers -/
theorem row_far {w : World} {base n : Nat} {tt : TypeId} {v : Value} {cs : List Value} (h : w.ownsRow base tt 3 v n cs) {k : Nat} (hk : ∀ cur, w.heap[k]? ≠ some (.cells cur tt (0, 0))) : v.ownBlock ≠ some k := fun e => by
  rcases h.2 with ⟨rfl, _⟩ | ⟨g, cap, cur, rfl, _, hb, _⟩
  · cases e
  · have e' : g = k := by simpa [Value.ownBlock] using e
    subst e'
    exact hk cur hb

/-- 'append' as one step of a region that draws -/
theorem step_append_run {ops : Array Oper} {o : Oper} {a : Act} {w : World} {K : Act → World → Prop} {Q : Exit → Act → World → Prop} {E : Prop}
    (hg : o.guard = none) (d x : Operand) (t : TypeId) (hop : o.op = Op.call { callee := Callee.builtin Builtin.append, args := #[d, x], argTypes := #[t, t] })
    (v u : Value) (hd : a.eval d = v) (hx : a.eval x = u) {v' : Value} {w' : World} (hr : (Builtin.append_ #[t, t] o.type #[v, u]).run Try.prog w = .ok v' w') (hK : K (a.put o.dst v') w') :
    if Region.wanted o (yielded ops a.tmps) = true then Oper.wp Try.prog o a w K Q else E := by
  have hw : Region.wanted o (yielded ops a.tmps) = true := by simp [Region.wanted, hg]
  rw [if_pos hw]
  unfold Oper.wp
  simp [execOp, hop, resolve, invoke, builtin, hd, hx, hr, Result.andThen]
  exact hK

set_option maxRecDepth 100000 in
set_option maxHeartbeats 8000000 in
theorem all_any {S : Nat → Prop} {P : Nat} {s : St} (w : World) (h : WAt 75 80 S w P s) (hlast : s.last < 1048580) (hwt : ∀ id ∈ s.ids, ∃ y1, s.what id = .int .i64 y1) :
    Calls Try.prog 13 #[.pointer (some ⟨P, 0, none⟩)] w fun e w' => ∃ B xs v, e = .returned (.func (.func 34) #[] #[.pointer (some ⟨B, 0, none⟩)]) ∧ Adv s M xs ∧ w'.heap[B]? = some (.cells #[v] 27 (0, 0)) ∧ w'.ownsRow w.heap.size 32 3 v xs.length (cells3 s xs) ∧ w.heap.size ≤ B ∧ Keep (fun _ => False) w w' := by
  obtain ⟨hok, m, at_, h⟩ := h
  have hn0 : s.ids.length ≤ 1048580 := by
    have := keys_bound (l := s.ids.map fun (i : Nat) => (i : Int)) (M := s.last) (by unfold List.Nodup; rw [List.pairwise_map]; exact hok.srt.imp fun h => by omega) (fun x hx => by obtain ⟨i, hi, rfl⟩ := List.mem_map.1 hx; have := hok.inn i hi; omega)
    simp at this
    omega
  have c2 := h.cmap
  have hlen := h.len hok mapTI
  obtain ⟨n, hn⟩ : ∃ n, s.ids.length = n := ⟨_, rfl⟩
  rw [hn] at hn0 hlen
  have hmk := fun u => made_timers u n hn0
  have k3 : Keep (fun _ => False) w ((w.alloc (.cells (madeCells #[.int .i64 0, .int .i64 0, .int .i64 0] (n * 3)) 32)).alloc (.cells #[.slice (some ⟨w.heap.size, 0, none⟩) 0 n] 27)) := (Keep.alloc _ _ _).more (Keep.alloc _ _ _)
  have h3 := h.stay k3 (fun _ _ _ h => h) hok.rows1.sub
  have c3 := h3.cmap
  have hP := h.ltP
  have hnP : P ≠ w.heap.size := by omega
  have hnP2 : P ≠ w.heap.size + 1 := by omega
  obtain ⟨f, ⟨D, hD, ha⟩, hf⟩ := h3.mp
  have HN := hide hn
  have H := hide h
  have HO := hide hok
  have HF := hide hf
  have HA := hide ha
  have K3 := hide k3
  have HT := hide hwt
  clear h hok hn hf ha k3 h3 hwt
  go_enter Try.func13, Try.ntmps13
  go_wp2_with (first
    | (at_range; refine wpList_range_own _ rfl _ 68 rfl 3 69 kint mapTI rawE m _ D rfl hD ?_; intro w0 hrg0 hg0 hs0)
    | go_in)
  have hsz3 : ((w.alloc (.cells (madeCells #[.int .i64 0, .int .i64 0, .int .i64 0] (n * 3)) 32)).alloc (.cells #[.slice (some ⟨w.heap.size, 0, none⟩) 0 n] 27)).heap.size = w.heap.size + 2 := by rw [World.size_alloc, World.size_alloc]
  have bA : Hid (((w.alloc (.cells (madeCells #[.int .i64 0, .int .i64 0, .int .i64 0] (n * 3)) 32)).alloc (.cells #[.slice (some ⟨w.heap.size, 0, none⟩) 0 n] 27)).heap[w.heap.size]? = some (.cells (madeCells #[.int .i64 0, .int .i64 0, .int .i64 0] (n * 3)) 32 (0, 0))) := (Keep.alloc (fun _ => False) _ _).blk (heap_alloc_new _ _) fun f => f
  have bB : Hid (((w.alloc (.cells (madeCells #[.int .i64 0, .int .i64 0, .int .i64 0] (n * 3)) 32)).alloc (.cells #[.slice (some ⟨w.heap.size, 0, none⟩) 0 n] 27)).heap[w.heap.size + 1]? = some (.cells #[.slice (some ⟨w.heap.size, 0, none⟩) 0 n] 27 (0, 0))) := by
    have := heap_alloc_new (w.alloc (.cells (madeCells #[.int .i64 0, .int .i64 0, .int .i64 0] (n * 3)) 32)) (.cells #[.slice (some ⟨w.heap.size, 0, none⟩) 0 n] 27)
    rwa [World.size_alloc] at this
  rw [hsz3] at hrg0
  rw [hsz3]
  generalize ((w.alloc (.cells (madeCells #[.int .i64 0, .int .i64 0, .int .i64 0] (n * 3)) 32)).alloc (.cells #[.slice (some ⟨w.heap.size, 0, none⟩) 0 n] 27)) = W3 at *
  have k0 : Keep (fun _ => False) W3 w0 := Keep.grown hg0 fun _ e => by cases e
  have B0 := hide (k0.blk bB.out fun f => f)
  have A0 := hide (k0.blk bA.out fun f => f)
  have K0 := hide (K3.out.more k0)
  clear hg0 k0 bA bB c3 c2 hlen hmk hs0 hsz3 hD
  go_frame
  go_loopw [] (fun wr => ∃ (left : Lit → Bool) (cnt : Nat) (ks : List Int) (v : Value), wr.ranges Try.prog 3 rawE m (w.heap.size + 2) (Maps.size D) D left cnt ∧ Hid (wr.heap[w.heap.size + 1]? = some (.cells #[v] 27 (0, 0)) ∧ wr.ownsRow w.heap.size 32 3 v ks.length (cells3 s (ks.map Int.toNat)) ∧ Coll f left ks ∧ Keep (fun _ => False) w wr ∧ ∃ g cap, v = .slice (some ⟨g, 0, none⟩) ks.length cap)) (fun wr => wr.rangeLeft m (w.heap.size + 2))
  case atStart =>
    exact ⟨_, _, [], _, hrg0, B0.out, ⟨rfl, .inr ⟨w.heap.size, n, _, rfl, Nat.le_refl _, A0.out, Nat.zero_le _, by unfold maxLen; omega, by simp [madeCells], rfl⟩⟩, coll_start HA.out, K0.out, w.heap.size, n, rfl⟩
  case round =>
    obtain ⟨left, cnt, ks, v, hrg, HI⟩ := hrel
    go_wp2_with (first
      | (at_next; refine wpList_next_raw rfl _ rfl m (w.heap.size + 2) (Maps.size D) D f _ _ rfl hrg HA.out ?_ ?_)
      | go_in)
    · intro hc0 hl0
      obtain ⟨hbx, hown, hcoll, hkw, g, cap, rfl⟩ := HI.out
      have hpm := hcoll.timers hl0 HO.out HF.out
      have hkl : (ks.map Int.toNat).length = ks.length := List.length_map _
      obtain ⟨wi, hwi⟩ : ∃ wi : Nat → Int, ∀ id ∈ ks.map Int.toNat, s.what id = .int .i64 (wi id) := by
        refine ⟨fun id => match s.what id with | .int _ y => y | _ => 0, fun id hid => ?_⟩
        obtain ⟨y, hy⟩ := HT.out id (hpm.mem_iff.1 hid)
        simp only [hy]
      have hlen2 : ks.length ≤ 1048580 := by rw [← hkl, hpm.length_eq, HN.out]; exact hn0
      have SO := hide (sort_any (n := ks.length) wi wr hwi hown hkl.symm hlen2)
      have cbx := cell_blk hbx 0 (v := .slice (some ⟨g, 0, none⟩) ks.length cap) rfl
      have HAd := hide (sorted_adv HO.out hpm)
      have HLn : Hid (((ks.map Int.toNat).mergeSort fun x y => !ltS s y x).length = ks.length) := by show _ = _; rw [(List.mergeSort_perm _ _).length_eq, hkl]
      have HBX := hide hbx
      have HKW := hide hkw
      have hgB : g ≠ w.heap.size + 1 := fun e => by
        rcases hown.2 with ⟨e0, _⟩ | ⟨g9, _, cur9, e1, _, e3, _⟩
        · cases e0
        · injection e1 with e1
          injection e1 with e1
          injection e1 with e1
          subst e1
          rw [e, hbx] at e3
          injection e3 with e3
          injection e3 with _ e3
          cases e3
      have hgw : w.heap.size ≤ g := (hown.lt g rfl).1
      clear hown hcoll hpm hwi hbx hkw hkl
      go_wp2_with (go_at_call 30
                   refine SO.out.mono ?_
                   rintro e w6 ⟨rfl, o6, k6⟩
                   have O6 := hide o6
                   have K6 := hide k6
                   clear o6 k6)
      go_ret
      exact ⟨w.heap.size + 1, _, .slice (some ⟨g, 0, none⟩) ks.length cap, rfl, HAd.out, K6.out.blk HBX.out (Ne.symm hgB), by rw [HLn.out]; exact O6.out, by omega, HKW.out.trans K6.out fun k e => .inr (by rw [e]; exact hgw)⟩
    · intro x c w1 cnt1 hwx hlx hfu hrg1 hlt hg1 hs1 hen
      obtain ⟨id, hid, rfl, rfl⟩ := (HF.out _ _).1 hfu
      have hm0 : wr.rangeLeft m (w.heap.size + 2) = cnt := hrg.left_eq
      obtain ⟨y1, hy⟩ := HT.out id hid
      have k1 : Keep (fun k => k = w.heap.size + 2) wr w1 := Keep.grown hg1 fun k e => by injection e with e; exact e.symm
      have hk1 : Keep (fun _ => False) w w1 := HI.out.2.2.2.1.grownNew hg1 fun k e => .inr (by injection e with e; omega)
      obtain ⟨b, e, he⟩ := (H.out.stay hk1 (fun _ _ _ h => h) HO.out.rows1.sub).entry HO.out hid
      unfold Ent ecells at he
      rw [hy] at he
      have q0 := cell_blk he 0 rfl
      have q1 := cell_blk he 1 rfl
      have q2 := cell_blk he 2 rfl
      have bx := k1.blk HI.out.1 (by show ¬ (w.heap.size + 1 = w.heap.size + 2); omega)
      have cb := cell_blk bx 0 (v := v) rfl
      have fb := frozen_blk bx 0
      simp only [ptr] at hen ⊢
      obtain ⟨i0, hi, hz0, hz1, hz2⟩ := info_parts info_timer
      have hfr : v.ownBlock ≠ some (w.heap.size + 2) := row_far HI.out.2.1 fun cur e => by
        obtain ⟨_, _, _, _, _, _, _, _, _, hr, _⟩ := hrg
        rw [hr] at e
        cases e
      have hfB : v.ownBlock ≠ some (w.heap.size + 1) := row_far HI.out.2.1 fun cur e => by
        rw [HI.out.1] at e
        injection e with e
        injection e with _ e
        cases e
      have hmlt : m < w.heap.size := H.out.ltm
      have hrow1 : w1.ownsRow w.heap.size 32 3 v ks.length (cells3 s (ks.map Int.toNat)) := HI.out.2.1.kept hg1 (by
        cases hob : v.ownBlock with
        | none => exact Or.inl rfl
        | some g => exact Or.inr (fun e => hfr (by rw [hob]; exact e)))
      have HC1 := hide (coll_step HI.out.2.2.1 hlx (by rw [hfu]; simp))
      have hbd : ks.length + 1 ≤ 1048580 := by
        have := keys_bound (l := ks ++ [((id : Nat) : Int)]) (M := s.last) HC1.out.1 (fun x hx => by
          have hx1 := ((HC1.out.2 x).1 hx).1
          cases e : f x with
          | none => exact absurd e hx1
          | some u =>
            obtain ⟨i, hi', rfl, _⟩ := (HF.out _ _).1 e
            have := HO.out.inn i hi'
            omega)
        simp at this
        omega
      obtain ⟨Wt, hWt⟩ : ∃ Wt, Wt = (w1.alloc (.cells #[.int .i64 (id : Nat), .int .i64 (s.due id : Nat), .int .i64 y1] 32)).drew := ⟨_, rfl⟩
      have kt : Keep (fun _ => False) w1 Wt := by rw [hWt]; exact (Keep.alloc _ _ _).more (Keep.drew _ _)
      have hszt : Wt.heap.size = w1.heap.size + 1 := by rw [hWt]; exact World.size_alloc _ _
      have hsz1 : w.heap.size ≤ w1.heap.size := hk1.size
      obtain ⟨g, cap, w5, hap, hown, hgr, hat, hlt5⟩ := run_append_lies (P := Try.prog) Wt 27 27 w.heap.size 32 i0 (.agg #[.int .i64 0, .int .i64 0, .int .i64 0]) 3 24 Try.underlying27 hi hz0 hz1 hz2 rfl (by decide) v ks.length (cells3 s (ks.map Int.toNat)) ⟨hrow1.1, hrow1.2.imp (fun x => x) fun ⟨g, cap, cur, h1, h2, h3, h4⟩ => ⟨g, cap, cur, h1, h2, kt.blk h3 (fun f => f), h4⟩⟩ ⟨w1.heap.size, 0, none⟩ 1 1 [.int .i64 (id : Nat), .int .i64 (s.due id : Nat), .int .i64 y1] rfl (fun j u hu => by rw [hWt]; exact cells_new3 w1 _ _ _ _ j u hu) (by simp [Value.oneCell']) (by decide) (by unfold maxLen; omega) (by omega) (by omega) _ rfl
      have k5 : Keep (fun k => v.ownBlock = some k) w1 w5 := (kt.mono fun _ f => f.elim).more (Keep.grown hgr fun k e => e)
      have hfe : v.ownBlock ≠ some (at_ id) := fun e => by have := (hrow1.lt _ e).1; have := H.out.lte hid; omega
      have bx5 := k5.blk bx hfB
      have cbt := kt.cell cb fun f => f
      have q0t := kt.cell q0 fun f => f
      have q1t := kt.cell q1 fun f => f
      have q2t := kt.cell q2 fun f => f
      have cb5 := cell_blk bx5 0 (v := v) rfl
      have fb5 := frozen_blk bx5 0
      obtain ⟨v', hv'⟩ : ∃ v' : Value, v' = .slice (some ⟨g, 0, none⟩) (ks.length + 1) cap := ⟨_, rfl⟩
      have kE : Keep (fun k => v.ownBlock = some k ∨ k = w.heap.size + 1) w1 (w5.setCell ⟨w.heap.size + 1, 0, none⟩ v') := (k5.mono fun _ e => .inl e).more ((keep_cell w5 (w.heap.size + 1) 0 v').mono fun _ e => .inr e)
      have HRG := hide (ranges_keep hrg1 kE (fun e => by
        rcases e with e | e
        · have := (hrow1.lt _ e).1; omega
        · omega) (fun e => by
        rcases e with e | e
        · exact hfr e
        · omega))
      have hgB : g ≠ w.heap.size + 1 := fun e => by
        rcases hat with hat | hat
        · exact hfB (by rw [hat, e])
        · rw [hszt] at hat
          have hr9 : w.heap.size + 2 < w1.heap.size := by
            obtain ⟨_, _, _, _, _, _, _, _, _, hr, _⟩ := hrg1
            exact (Array.getElem?_eq_some_iff.1 hr).1
          omega
      have HE : Hid ((w5.setCell ⟨w.heap.size + 1, 0, none⟩ v').heap[w.heap.size + 1]? = some (.cells #[v'] 27 (0, 0)) ∧ (w5.setCell ⟨w.heap.size + 1, 0, none⟩ v').ownsRow w.heap.size 32 3 v' (ks ++ [((id : Nat) : Int)]).length (cells3 s ((ks ++ [((id : Nat) : Int)]).map Int.toNat)) ∧ Keep (fun _ => False) w (w5.setCell ⟨w.heap.size + 1, 0, none⟩ v')) := by
        refine ⟨set_blk bx5 0 v', ?_, hk1.trans kE fun k e => ?_⟩
        · have h2 : (cells3 s ((ks ++ [((id : Nat) : Int)]).map Int.toNat)) = cells3 s (ks.map Int.toNat) ++ [.int .i64 (id : Nat), .int .i64 (s.due id : Nat), .int .i64 y1] := by
            rw [List.map_append, List.map_singleton, Int.toNat_natCast, cells3_snoc, hy]
          rw [h2, List.length_append, hv']
          refine ⟨hown.1, hown.2.imp (fun x => x) fun ⟨g9, cap9, cur9, e1, e2, e3, e4⟩ => ⟨g9, cap9, cur9, e1, e2, (keep_cell w5 (w.heap.size + 1) 0 _).blk e3 (fun e => ?_), e4⟩⟩
          injection e1 with e1
          injection e1 with e1
          injection e1 with e1
          exact hgB (by rw [e1]; exact e)
        · rcases e with e | e
          · exact .inr (hrow1.lt _ e).1
          · exact .inr (by omega)
      have HAP := hide hap
      have HV := hide hv'
      have HLT := hide hlt
      rw [hWt] at HAP cbt q0t q1t q2t
      clear he hrg hfu hi hz0 hz1 hz2 hrow1 hg1 hrg1 hk1 k1 hy hlt hs1 hfB hfr hfe kt hWt hszt hown hgr hat hlt5 k5 bx bx5 kE hap hv' hgB
      go_wp2_with fail
      go_region_law (refine step_append_run (by rfl) _ _ 27 (by rfl) _ _ (by rfl) (by rfl) HAP.out ?_)
      all_goals go_wp2
      all_goals (
        have hv9 := HV.out
        subst hv9
        refine ⟨⟨_, _, ks ++ [((id : Nat) : Int)], _, HRG.out, HE.out.1, HE.out.2.1, HC1.out, HE.out.2.2, g, cap, by rw [List.length_append]; rfl⟩, ?_⟩
        rw [HRG.out.left_eq, hm0]
        exact HLT.out)

end Wh
end Go.Proofs.Ytbjapgajbljhfaa
