/- Package run: outlookOf, least. -/
import Derived.Test.YtiackejbpcjmeaaRBas
namespace Go.Proofs.Ytiackejbpcjmeaa
namespace Rn
open Go.RowKit Gr

/-- a search with a function that reads alone -/
theorem cfunc (F : FuncId) (caps : Array Value) (f : Int → Bool) (s : Option Addr × Nat × Nat) (z : List Int) (B : Nat) (w : World) (hz : RdZ B w s z) (hF : ∀ args w, (callFunc F args).run Try.prog w = .ok (.enter F args) w)
    (hstep : ∀ x W, x ∈ z → Keep (fun _ => False) w W → Calls Try.prog F (#[.int .i64 x] ++ caps) W fun e W' => e = .returned (.bool (f x)) ∧ Keep (fun _ => False) W W') :
    Calls Try.prog 66 #[.slice s.1 s.2.1 s.2.2, .func (.func F) #[] caps] w fun e w' => e = .returned (.bool (z.any f)) ∧ Keep (fun _ => False) w w' := by
  refine (containsFunc_any F caps (fun _ => False) (fun k _ => ∀ j y, j < k → z[j]? = some y → f y = false) (fun k _ => ∃ y, z[k]? = some y ∧ f y = true) s z B w hz (fun _ h => h.elim) (fun j y h => by omega) hF ?_).mono ?_
  · intro k x W hx hJ hk
    refine (hstep x W (List.mem_of_getElem? hx) hk).mono ?_
    rintro e W' ⟨rfl, hk'⟩
    refine ⟨_, rfl, fun hr j y hj hy => ?_, fun hr => ⟨x, hx, hr⟩, hk'⟩
    by_cases e : j = k
    · subst e; rw [hx] at hy; injection hy with hy; subst hy; exact hr
    · exact hJ j y (by omega) hy
  · rintro e w' ⟨r, rfl, h1, h2, hk⟩
    refine ⟨?_, hk⟩
    have : r = z.any f := by
      cases r with
      | false =>
        symm
        rw [List.any_eq_false]
        intro y hy
        obtain ⟨j, hj⟩ := List.getElem?_of_mem hy
        rw [h1 rfl j y (List.getElem?_eq_some_iff.1 hj).1 hj]
        simp
      | true =>
        obtain ⟨k, _, y, hy, hf⟩ := h2 rfl
        symm
        rw [List.any_eq_true]
        exact ⟨y, List.mem_of_getElem? hy, hf⟩
    rw [this]

theorem enter_o1 : ∀ args w, (callFunc 81 args).run Try.prog w = .ok (.enter 81 args) w := by intro args w; simp [go_sem]
theorem enter_o2 : ∀ args w, (callFunc 82 args).run Try.prog w = .ok (.enter 82 args) w := by intro args w; simp [go_sem]
theorem enter_o3 : ∀ args w, (callFunc 83 args).run Try.prog w = .ok (.enter 83 args) w := by intro args w; simp [go_sem]

theorem o1_any {T : Nat → Prop} {w : World} {P G : Nat} {nm : ByteArray} {dl : Int} {s : Option Addr × Nat × Nat} {xs : List No} {R : Rs} (h : RunAt T w P G nm dl s xs R) (bx : Nat) (hc : w.cell? ⟨bx, 0, none⟩ = some (.pointer (some ⟨P, 0, none⟩))) (x : Int) (h0 : 0 ≤ x) (h1 : x < xs.length) :
    Calls Try.prog 81 (#[.int .i64 x] ++ #[.pointer (some ⟨bx, 0, none⟩)]) w fun e w' => e = .returned (.bool (lostS (sAt (sts R.ps) x))) ∧ Keep (fun _ => False) w w' := by
  show Calls Try.prog 81 #[.int .i64 x, .pointer (some ⟨bx, 0, none⟩)] w _
  obtain ⟨k, rfl⟩ : ∃ k : Nat, x = (k : Int) := ⟨x.toNat, by omega⟩
  have hk : k < R.ps.length := by rw [h.len]; omega
  have hp : R.ps[k]? = some R.ps[k] := List.getElem?_eq_getElem hk
  rw [sAt_sts hp]
  obtain ⟨m, hm⟩ := h.pts k _ hp
  generalize R.ps[k] = p at *
  obtain ⟨c0, c1, c2, c3, c4⟩ := hm.all
  obtain ⟨c, _, _, _, _, d4⟩ := h.cells
  have L := hide (fun W => lost_any p.st p.tr m W)
  have hlt : k < xs.length := by omega
  clear h hm hp hk h0 h1
  generalize lostS p.st = q at *
  go_enter Try.func81, Try.ntmps81
  go_wp2_with fail
  go_at_call 71
  refine (L.out _).mono ?_
  rintro e w2 ⟨rfl, k2⟩
  have K2 := hide k2
  clear k2 L
  go_wp2_with fail
  go_ret
  exact ⟨rfl, K2.out⟩
theorem o2_any {T : Nat → Prop} {w : World} {P G : Nat} {nm : ByteArray} {dl : Int} {s : Option Addr × Nat × Nat} {xs : List No} {R : Rs} (h : RunAt T w P G nm dl s xs R) (bx : Nat) (hc : w.cell? ⟨bx, 0, none⟩ = some (.pointer (some ⟨P, 0, none⟩))) (x : Int) (h0 : 0 ≤ x) (h1 : x < xs.length) :
    Calls Try.prog 82 (#[.int .i64 x] ++ #[.pointer (some ⟨bx, 0, none⟩)]) w fun e w' => e = .returned (.bool (!doneS (sAt (sts R.ps) x))) ∧ Keep (fun _ => False) w w' := by
  show Calls Try.prog 82 #[.int .i64 x, .pointer (some ⟨bx, 0, none⟩)] w _
  obtain ⟨k, rfl⟩ : ∃ k : Nat, x = (k : Int) := ⟨x.toNat, by omega⟩
  have hk : k < R.ps.length := by rw [h.len]; omega
  have hp : R.ps[k]? = some R.ps[k] := List.getElem?_eq_getElem hk
  rw [sAt_sts hp]
  obtain ⟨m, hm⟩ := h.pts k _ hp
  generalize R.ps[k] = p at *
  obtain ⟨c0, c1, c2, c3, c4⟩ := hm.all
  obtain ⟨c, _, _, _, _, d4⟩ := h.cells
  have L := hide (fun W => done_any p.st p.tr m W)
  have hlt : k < xs.length := by omega
  clear h hm hp hk h0 h1
  generalize doneS p.st = q at *
  go_enter Try.func82, Try.ntmps82
  go_wp2_with fail
  go_at_call 50
  refine (L.out _).mono ?_
  rintro e w2 ⟨rfl, k2⟩
  have K2 := hide k2
  clear k2 L
  go_wp2_with fail
  go_ret
  exact ⟨rfl, K2.out⟩
theorem o3_any {T : Nat → Prop} {w : World} {P G : Nat} {nm : ByteArray} {dl : Int} {s : Option Addr × Nat × Nat} {xs : List No} {R : Rs} (h : RunAt T w P G nm dl s xs R) (bx : Nat) (hc : w.cell? ⟨bx, 0, none⟩ = some (.pointer (some ⟨P, 0, none⟩))) (x : Int) (h0 : 0 ≤ x) (h1 : x < xs.length) :
    Calls Try.prog 83 (#[.int .i64 x] ++ #[.pointer (some ⟨bx, 0, none⟩)]) w fun e w' => e = .returned (.bool (!setS (sAt (sts R.ps) x))) ∧ Keep (fun _ => False) w w' := by
  show Calls Try.prog 83 #[.int .i64 x, .pointer (some ⟨bx, 0, none⟩)] w _
  obtain ⟨k, rfl⟩ : ∃ k : Nat, x = (k : Int) := ⟨x.toNat, by omega⟩
  have hk : k < R.ps.length := by rw [h.len]; omega
  have hp : R.ps[k]? = some R.ps[k] := List.getElem?_eq_getElem hk
  rw [sAt_sts hp]
  obtain ⟨m, hm⟩ := h.pts k _ hp
  generalize R.ps[k] = p at *
  obtain ⟨c0, c1, c2, c3, c4⟩ := hm.all
  obtain ⟨c, _, _, _, _, d4⟩ := h.cells
  have L := hide (fun W => settled_any p.st p.tr m W)
  have hlt : k < xs.length := by omega
  clear h hm hp hk h0 h1
  generalize setS p.st = q at *
  go_enter Try.func83, Try.ntmps83
  go_wp2_with fail
  go_at_call 49
  refine (L.out _).mono ?_
  rintro e w2 ⟨rfl, k2⟩
  have K2 := hide k2
  clear k2 L
  go_wp2_with fail
  go_ret
  exact ⟨rfl, K2.out⟩

set_option maxRecDepth 100000 in
set_option maxHeartbeats 2000000 in
theorem outlookOf_any {T : Nat → Prop} {w : World} {P G : Nat} {nm : ByteArray} {dl : Int} {s : Option Addr × Nat × Nat} {xs : List No} {R : Rs} (h : RunAt T w P G nm dl s xs R) (k : Nat) (x : No) (hx : xs[k]? = some x) :
    Calls Try.prog 73 #[.pointer (some ⟨P, 0, none⟩), .int .i64 (k : Int)] w fun e w' => e = .returned (.int .i64 (outl (sts R.ps) (nx x))) ∧ Keep (fun _ => False) w w' := by
  have hlt : k < xs.length := (List.getElem?_eq_some_iff.1 hx).1
  have hsl : s.2.1 = xs.length := h.pln.1
  obtain ⟨g, off, x', hs, _, hx', hN, hz1, hz2⟩ := h.pln.at (i := k) (by omega)
  obtain rfl : x' = x := Option.some.inj (hx'.symm.trans hx)
  obtain ⟨sa, sn, sc⟩ := s
  simp only at hsl hs
  subst hsl hs
  obtain ⟨c, _, _, d2, _, _⟩ := h.cells
  simp only at d2
  have hv := h.val.2 x' (List.mem_of_getElem? hx)
  have HR : Hid (outl (sts R.ps) (nx x') = if x'.nl.any (fun e => lostS (sAt (sts R.ps) e)) then 2 else if x'.nl.any (fun e => !doneS (sAt (sts R.ps) e)) || x'.al.any (fun e => !setS (sAt (sts R.ps) e)) then 0 else 1) := rfl
  generalize outl (sts R.ps) (nx x') = r at *
  -- the searches, in whatever world behind
  have O1 : Hid (∀ (W : World) (bx : Nat), Keep (fun _ => False) w W → W.cell? ⟨bx, 0, none⟩ = some (.pointer (some ⟨P, 0, none⟩)) → Calls Try.prog 66 #[.slice x'.q.ne.1 x'.q.ne.2.1 x'.q.ne.2.2, .func (.func 81) #[] #[.pointer (some ⟨bx, 0, none⟩)]] W fun e w' => e = .returned (.bool (x'.nl.any (fun e => lostS (sAt (sts R.ps) e)))) ∧ Keep (fun _ => False) W w') := fun W bx kW hb =>
    cfunc _ _ _ _ _ _ W (hz1.new kW) enter_o1 fun y W' hy hk => o1_any (h.new (kW.more hk)) bx (hk.cell hb (fun f => f)) y (hv y (List.mem_append_left _ hy)).1 (hv y (List.mem_append_left _ hy)).2
  have O2 : Hid (∀ (W : World) (bx : Nat), Keep (fun _ => False) w W → W.cell? ⟨bx, 0, none⟩ = some (.pointer (some ⟨P, 0, none⟩)) → Calls Try.prog 66 #[.slice x'.q.ne.1 x'.q.ne.2.1 x'.q.ne.2.2, .func (.func 82) #[] #[.pointer (some ⟨bx, 0, none⟩)]] W fun e w' => e = .returned (.bool (x'.nl.any (fun e => !doneS (sAt (sts R.ps) e)))) ∧ Keep (fun _ => False) W w') := fun W bx kW hb =>
    cfunc _ _ _ _ _ _ W (hz1.new kW) enter_o2 fun y W' hy hk => o2_any (h.new (kW.more hk)) bx (hk.cell hb (fun f => f)) y (hv y (List.mem_append_left _ hy)).1 (hv y (List.mem_append_left _ hy)).2
  have O3 : Hid (∀ (W : World) (bx : Nat), Keep (fun _ => False) w W → W.cell? ⟨bx, 0, none⟩ = some (.pointer (some ⟨P, 0, none⟩)) → Calls Try.prog 66 #[.slice x'.q.af.1 x'.q.af.2.1 x'.q.af.2.2, .func (.func 83) #[] #[.pointer (some ⟨bx, 0, none⟩)]] W fun e w' => e = .returned (.bool (x'.al.any (fun e => !setS (sAt (sts R.ps) e)))) ∧ Keep (fun _ => False) W w') := fun W bx kW hb =>
    cfunc _ _ _ _ _ _ W (hz2.new kW) enter_o3 fun y W' hy hk => o3_any (h.new (kW.more hk)) bx (hk.cell hb (fun f => f)) y (hv y (List.mem_append_right _ hy)).1 (hv y (List.mem_append_right _ hy)).2
  generalize x'.nl.any (fun e => lostS (sAt (sts R.ps) e)) = q1 at *
  generalize x'.nl.any (fun e => !doneS (sAt (sts R.ps) e)) = q2 at *
  generalize x'.al.any (fun e => !setS (sAt (sts R.ps) e)) = q3 at *
  have K1 := Keep.alloc (fun _ => False) w (.cells #[.pointer (some ⟨P, 0, none⟩)] 43)
  have hb1 := heap_alloc_new w (.cells #[.pointer (some ⟨P, 0, none⟩)] 43)
  have K2 := Keep.alloc (fun _ => False) (w.alloc (.cells #[.pointer (some ⟨P, 0, none⟩)] 43)) (.cells x'.q.row.toArray 36)
  have hb2 := heap_alloc_new (w.alloc (.cells #[.pointer (some ⟨P, 0, none⟩)] 43)) (.cells x'.q.row.toArray 36)
  rw [show (w.alloc (.cells #[.pointer (some ⟨P, 0, none⟩)] 43)).heap.size = w.heap.size + 1 by simp] at hb2
  have hb1' := K2.blk hb1 (fun f => f)
  have KK := hide (K1.more K2)
  have HB1 := hide hb1'
  have HB2 := hide hb2
  have d2 := K1.cell d2 (fun f => f)
  obtain ⟨n0, n1, n2, n3, n4, n5, n6, n7, n8, n9⟩ := (hN.keep K1 (fun f => f)).all
  obtain ⟨⟨nmx, la, bu, cl, be, ba, ca, ji, ⟨ne1, ne2, ne3⟩, ⟨af1, af2, af3⟩⟩, nl, al⟩ := x'
  simp only [Nd.row] at *
  clear h hx hx' hN hz1 hz2 hv hb1' hb1 hb2 K1 K2
  go_enter Try.func73, Try.ntmps73
  go_upto_region 2 with fail
  generalize hW : (w.alloc (.cells #[.pointer (some ⟨P, 0, none⟩)] 43)).alloc (.cells #[.string nmx, .int .i64 la, .int .i64 bu, .int .i64 cl, .int .i64 be, .int .i64 ba, .int .i64 ca, .int .i64 ji, .slice ne1 ne2 ne3, .slice af1 af2 af3] 36) = w2 at *
  have HM : Hid (∀ W, Keep (fun _ => False) w2 W → W.cell? ⟨w.heap.size, 0, none⟩ = some (.pointer (some ⟨P, 0, none⟩)) ∧ W.cell? ⟨w.heap.size + 1, 8, none⟩ = some (.slice ne1 ne2 ne3) ∧ W.cell? ⟨w.heap.size + 1, 9, none⟩ = some (.slice af1 af2 af3) ∧ Keep (fun _ => False) w W) := fun W k =>
    ⟨cell_blk (k.blk HB1.out (fun f => f)) 0 rfl, cell_blk (k.blk HB2.out (fun f => f)) 8 rfl, cell_blk (k.blk HB2.out (fun f => f)) 9 rfl, KK.out.more k⟩
  clear hW n0 n1 n2 n3 n4 n5 n6 n7 n8 n9 HB1 HB2 KK
  obtain ⟨m0, m8, m9, mk⟩ := HM.out w2 (Keep.refl _ _)
  have C1 := hide (O1.out w2 _ mk m0)
  generalize w.heap.size = A at *
  clear mk O1
  go_wp2_with fail
  go_at_call 66
  refine C1.out.mono ?_
  rintro e w3 ⟨rfl, k3⟩
  have K3 := hide k3
  clear C1 k3 m0 m8 m9
  cases q1
  · obtain ⟨m0, m8, m9, mk⟩ := HM.out w3 K3.out
    have C2 := hide (O2.out w3 _ mk m0)
    clear mk O2
    go_wp2_with fail
    go_at_call 66
    refine C2.out.mono ?_
    rintro e w4 ⟨rfl, k4⟩
    have K4 := hide (K3.out.more k4)
    clear C2 k4 m0 m8 m9
    cases q2
    · obtain ⟨m0, m8, m9, mk⟩ := HM.out w4 K4.out
      have C3 := hide (O3.out w4 _ mk m0)
      clear mk O3
      go_wp2_with fail
      go_at_call 66
      refine C3.out.mono ?_
      rintro e w5 ⟨rfl, k5⟩
      have K5 := hide (HM.out w5 (K4.out.more k5)).2.2.2
      clear C3 k5 m0 m8 m9
      cases q3
      · obtain rfl : r = 1 := by rw [HR.out]; rfl
        go_wp2_with fail
        go_ret
        exact ⟨rfl, K5.out⟩
      · obtain rfl : r = 0 := by rw [HR.out]; rfl
        go_wp2_with fail
        go_ret
        exact ⟨rfl, K5.out⟩
    · obtain rfl : r = 0 := by rw [HR.out]; rfl
      have K5 := hide (HM.out w4 K4.out).2.2.2
      go_wp2_with fail
      go_ret
      exact ⟨rfl, K5.out⟩
  · obtain rfl : r = 2 := by rw [HR.out]; rfl
    have K5 := hide (HM.out w3 K3.out).2.2.2
    go_wp2_with fail
    go_ret
    exact ⟨rfl, K5.out⟩
end Rn
end Go.Proofs.Ytiackejbpcjmeaa
