/- Package cron: addItem. -/
import Derived.Test.YtbgioclbjbmicaaDoorXAdd
namespace Go.Proofs.YtbgioclbjbmicaaDoor
open Go.RowKit

def itemTo (S : X.Sets) (o : Nat) : Option (Nat × Nat × Nat) → X.Sets
  | none => S
  | some (a, b, k) => X.addV S o a b k
/-- What addItem leaves. -/
def ItemEnd (S : X.Sets) (g o : Nat) (r : Option (Nat × Nat × Nat)) (w : World) (e : Ending) (w' : World) : Prop := e = .returned (.bool r.isSome) ∧ ExprW w' g (itemTo S o r) ∧ KeepX g w w'
structure ItAt (w0 : World) (lo hi : Nat) (g : Nat) (S : X.Sets) (w : World) : Prop where
  b0 : w.cell? ⟨w0.heap.size, 0, none⟩ = some (.int .i64 lo)
  b1 : w.cell? ⟨w0.heap.size, 1, none⟩ = some (.int .i64 hi)
  env : Env w
  ex : ExprW w g S
  bel : Below w0.heap.size w0 w
theorem ItAt.keep {w0 w w' : World} {lo hi g : Nat} {S : X.Sets} (h : ItAt w0 lo hi g S w) (b : Below w.heap.size w w') : ItAt w0 lo hi g S w' :=
  ⟨by rw [b.cell (p := ⟨w0.heap.size, 0, none⟩) (World.block_lt_of_cell? _ _ h.b0)]; exact h.b0, by rw [b.cell (p := ⟨w0.heap.size, 1, none⟩) (World.block_lt_of_cell? _ _ h.b1)]; exact h.b1,
   h.env.keep b, h.ex.keep b, h.bel.trans (b.mono h.bel.size)⟩
theorem ItAt.new {w : World} {g : Nat} {S : X.Sets} (hE : Env w) (hX : ExprW w g S) (lo hi : Nat) : ItAt w lo hi g S (w.alloc (.cells #[.int .i64 lo, .int .i64 hi] 54)) := by
  have h1 := heap_alloc_new w (.cells #[.int .i64 lo, .int .i64 hi] 54)
  refine ⟨?_, ?_, hE.alloc _, hX.keep (Below.put (Below.refl _ _) _), Below.put (Below.refl _ _) _⟩
  · rw [cell_of_row _ _ _ _ _ _ h1]; rfl
  · rw [cell_of_row _ _ _ _ _ _ h1]; rfl
set_option maxHeartbeats 2000000 in
theorem addItem_any (s : ByteArray) (hs : s.size ≤ 1024) (lo hi : Nat) (hl : lo ≤ hi) (hh : hi ≤ 59) (S : X.Sets) (g o : Nat) (ho : o + 60 ≤ 300) (w : World) (hE : Env w) (hX : ExprW w g S) :
    Calls Tryd.prog 55 #[.pointer (some ⟨g, o, none⟩), .string s, .agg #[.int .i64 lo, .int .i64 hi]] w fun e w' => ItemEnd S g o (X.itemM s.data.toList lo hi) w e w' := by
  have hle := cutAt_le 47 s.data.toList
  have hsz : s.data.toList.length = s.size := by simp
  have hm : X.itemM s.data.toList lo hi = match X.spanM (X.cutAt 47 s.data.toList).1 lo hi, (if (X.cutAt 47 s.data.toList).2.2 = true then X.num (X.cutAt 47 s.data.toList).2.1 1 hi else some 1) with
    | some (a, b, sg), some k => if sg = true ∧ (X.cutAt 47 s.data.toList).2.2 = true then none else some (a, b, k)
    | _, _ => none := rfl
  have hbd := fun a b k (h : X.itemM s.data.toList lo hi = some (a, b, k)) => X.itemM_bounds h hl
  generalize X.itemM s.data.toList lo hi = R at *
  obtain ⟨f, l, st, hcut⟩ : ∃ f l st, X.cutAt 47 s.data.toList = (f, l, st) := ⟨_, _, _, rfl⟩
  rw [hcut] at hle hm
  simp only at hle hm
  have HC : Hid (∀ w, _) := fun w => cut_any s hs 47 w
  rw [hcut] at HC
  have HM := hide hm
  have HBD := hide hbd
  clear hm hcut hbd
  go_enter Tryd.func55, Tryd.ntmps55
  go_wp2_with fail
  have hS0 := ItAt.new hE hX lo hi
  generalize (w.alloc (.cells #[.int .i64 lo, .int .i64 hi] 54)) = W0 at *
  go_at_call 67
  refine (HC.out _).mono ?_
  rintro e w1 ⟨rfl, n1, rfl⟩
  have hS1 := hS0.keep (drewB W0 n1)
  have hgl := hX.ex.lt
  clear hS0 HC hE hX
  generalize W0.drewN n1 = W1 at *
  have c0 := hS1.b0
  have c1 := hS1.b1
  go_wp2_with fail
  go_at_call 68
  refine (spanOf_any ⟨f.toArray⟩ (by show f.toArray.size ≤ 1024; simp; omega) lo hi hh _ hS1.env).mono ?_
  rintro e w2 ⟨⟨a, b, sg, ok, rfl, hsp⟩, hb2⟩
  have hS2 := hS1.keep hb2
  clear hS1 c0 c1 hb2
  have hsp' : SpanIs ⟨f.toArray⟩ lo hi a b sg ok := hsp
  unfold SpanIs at hsp'
  rw [bytes_at] at hsp'
  have HSP := hide hsp'
  clear hsp hsp'
  have hB3 : Below w2.heap.size w2 (w2.alloc (.cells #[.int .i64 a, .int .i64 b] 54)) := Below.put (Below.refl _ _) _
  have h1 := heap_alloc_new w2 (.cells #[.int .i64 a, .int .i64 b] 54)
  have he0 : (w2.alloc (.cells #[.int .i64 a, .int .i64 b] 54)).cell? ⟨w2.heap.size, 0, none⟩ = some (.int .i64 a) := by rw [cell_of_row _ _ _ _ _ _ h1]; rfl
  have he1 : (w2.alloc (.cells #[.int .i64 a, .int .i64 b] 54)).cell? ⟨w2.heap.size, 1, none⟩ = some (.int .i64 b) := by rw [cell_of_row _ _ _ _ _ _ h1]; rfl
  have hS3 := hS2.keep hB3
  have hsz2 := hS2.bel.size
  clear hS2 h1 hB3
  cases st
  · generalize hW3 : w2.alloc (.cells #[.int .i64 a, .int .i64 b] 54) = W3 at *
    obtain ⟨c0, c1, env, hX3, bel⟩ := hS3
    have HK3 := hide (KeepX.ofBelow (g := g) bel)
    clear env bel
    cases ok
    · have hR : R = none := by
        have := HM.out
        rw [show X.spanM f lo hi = none from HSP.out] at this
        exact this
      go_wp2_with fail
      go_ret
      refine ⟨by rw [hR]; rfl, ?_, HK3.out⟩
      rw [hR]; exact hX3
    · have hR : R = some (a, b, 1) := by
        have := HM.out
        rw [show X.spanM f lo hi = some (a, b, sg) from HSP.out] at this
        simpa using this
      have HR := hide hR
      clear hR
      cases sg
      · go_wp2_with fail
        obtain ⟨q1, q2, q3, q4, q5⟩ := HBD.out a b 1 HR.out
        go_loopw [15] (fun x wx => ∃ v : Nat, x = .int .i64 v ∧ a ≤ v ∧ v ≤ b + 1 ∧ Hid ((v - a) % 1 = 0) ∧ wx.cell? ⟨w2.heap.size, 1, none⟩ = some (.int .i64 b) ∧ ExprW wx g (X.upTo S o a 1 v) ∧ KeepX g w wx) (fun x _ => b + 1 - (intOf x).toNat)
        case atStart => exact ⟨a, rfl, by omega, by omega, (by show _ = _; simp), he1, hX3.congr (fun i _ => by rw [X.upTo_start]), HK3.out⟩
        case round =>
          obtain ⟨v, rfl, v0, v1, HV, c1, hXv, hKv⟩ := hrel
          by_cases hvb : v ≤ b
          · have i0 : (0 : Int) ≤ (v : Int) := by omega
            have i1 : (v : Int) < 60 := by omega
            have xc := hXv.ex.c (o + v) (by omega)
            have xf := hXv.fr (o + v)
            have hne : ¬ w2.heap.size = g := by omega
            go_wp2_with fail
            refine ⟨⟨v + 1, by go_num, by omega, by omega, ?_, ?_, hXv.set (o + v) (by omega) (fun i _ => X.upTo_step S o a 1 v q4 v0 HV.out i), hKv.trans (KeepX.set _ _ _)⟩, by simp [intOf]; omega⟩
            · show _ = _
              rw [show v + 1 - a = (v - a) + 1 by omega, Nat.add_mod_right]; exact HV.out
            · rw [World.cell?_setCell_other _ _ _ _ (by simp <;> omega)]; exact c1
          · go_wp2_with fail
            go_ret
            refine ⟨by rw [HR.out]; rfl, ?_, hKv⟩
            rw [HR.out]
            exact hXv.congr (fun i _ => by rw [X.upTo_end S o a b 1 v v0 HV.out (by omega) v1]; rfl)
      · go_wp2_with fail
        obtain ⟨q1, q2, q3, q4, q5⟩ := HBD.out a b 1 HR.out
        go_loopw [15] (fun x wx => ∃ v : Nat, x = .int .i64 v ∧ a ≤ v ∧ v ≤ b + 1 ∧ Hid ((v - a) % 1 = 0) ∧ wx.cell? ⟨w2.heap.size, 1, none⟩ = some (.int .i64 b) ∧ ExprW wx g (X.upTo S o a 1 v) ∧ KeepX g w wx) (fun x _ => b + 1 - (intOf x).toNat)
        case atStart => exact ⟨a, rfl, by omega, by omega, (by show _ = _; simp), he1, hX3.congr (fun i _ => by rw [X.upTo_start]), HK3.out⟩
        case round =>
          obtain ⟨v, rfl, v0, v1, HV, c1, hXv, hKv⟩ := hrel
          by_cases hvb : v ≤ b
          · have i0 : (0 : Int) ≤ (v : Int) := by omega
            have i1 : (v : Int) < 60 := by omega
            have xc := hXv.ex.c (o + v) (by omega)
            have xf := hXv.fr (o + v)
            have hne : ¬ w2.heap.size = g := by omega
            go_wp2_with fail
            refine ⟨⟨v + 1, by go_num, by omega, by omega, ?_, ?_, hXv.set (o + v) (by omega) (fun i _ => X.upTo_step S o a 1 v q4 v0 HV.out i), hKv.trans (KeepX.set _ _ _)⟩, by simp [intOf]; omega⟩
            · show _ = _
              rw [show v + 1 - a = (v - a) + 1 by omega, Nat.add_mod_right]; exact HV.out
            · rw [World.cell?_setCell_other _ _ _ _ (by simp <;> omega)]; exact c1
          · go_wp2_with fail
            go_ret
            refine ⟨by rw [HR.out]; rfl, ?_, hKv⟩
            rw [HR.out]
            exact hXv.congr (fun i _ => by rw [X.upTo_end S o a b 1 v v0 HV.out (by omega) v1]; rfl)
  · generalize hW3 : w2.alloc (.cells #[.int .i64 a, .int .i64 b] 54) = W3 at *
    have c1 := hS3.b1
    go_wp2_with fail
    go_at_call 69
    refine (number_any ⟨l.toArray⟩ (by show l.toArray.size ≤ 1024; simp; omega) 1 hi hh _).mono ?_
    rintro e w4 ⟨⟨k, ok2, rfl, hk, hnum⟩, hb4⟩
    have hS4 := hS3.keep hb4
    have e0 : w4.cell? ⟨w2.heap.size, 0, none⟩ = some (.int .i64 a) := by rw [hb4.cell (p := ⟨w2.heap.size, 0, none⟩) (World.block_lt_of_cell? _ _ he0)]; exact he0
    have e1 : w4.cell? ⟨w2.heap.size, 1, none⟩ = some (.int .i64 b) := by rw [hb4.cell (p := ⟨w2.heap.size, 1, none⟩) (World.block_lt_of_cell? _ _ he1)]; exact he1
    clear hS3 c1 he0 he1 hW3 hb4
    have he0 := e0
    have he1 := e1
    clear e0 e1
    obtain ⟨c0, c1, env, hX3, bel⟩ := hS4
    have HK3 := hide (KeepX.ofBelow (g := g) bel)
    have hnum' : NumIs ⟨l.toArray⟩ 1 hi k ok2 := hnum
    unfold NumIs at hnum'
    rw [bytes_at] at hnum'
    have HNU := hide hnum'
    clear env bel hnum hnum' c0 c1
    cases ok
    · have hR : R = none := by
        have := HM.out
        rw [show X.spanM f lo hi = none from HSP.out] at this
        exact this
      go_wp2_with fail
      go_ret
      refine ⟨by rw [hR]; rfl, ?_, HK3.out⟩
      rw [hR]; exact hX3
    · cases ok2
      · have hR : R = none := by
          have := HM.out
          rw [show X.spanM f lo hi = some (a, b, sg) from HSP.out, if_pos trivial, show X.num l 1 hi = none from HNU.out] at this
          exact this
        go_wp2_with fail
        go_ret
        refine ⟨by rw [hR]; rfl, ?_, HK3.out⟩
        rw [hR]; exact hX3
      · have hm := HM.out
        rw [show X.spanM f lo hi = some (a, b, sg) from HSP.out, if_pos trivial, show X.num l 1 hi = some k from HNU.out] at hm
        simp only at hm
        cases sg
        · have hR : R = some (a, b, k) := by simpa using hm
          have HR := hide hR
          clear hR hm
          go_wp2_with fail
          obtain ⟨q1, q2, q3, q4, q5⟩ := HBD.out a b k HR.out
          go_loopw [15] (fun x wx => ∃ v : Nat, x = .int .i64 v ∧ a ≤ v ∧ v ≤ b + k ∧ Hid ((v - a) % k = 0) ∧ wx.cell? ⟨w2.heap.size, 1, none⟩ = some (.int .i64 b) ∧ ExprW wx g (X.upTo S o a k v) ∧ KeepX g w wx) (fun x _ => b + 1 - (intOf x).toNat)
          case atStart => exact ⟨a, rfl, by omega, by omega, (by show _ = _; simp), he1, hX3.congr (fun i _ => by rw [X.upTo_start]), HK3.out⟩
          case round =>
            obtain ⟨v, rfl, v0, v1, HV, c1, hXv, hKv⟩ := hrel
            by_cases hvb : v ≤ b
            · have i0 : (0 : Int) ≤ (v : Int) := by omega
              have i1 : (v : Int) < 60 := by omega
              have xc := hXv.ex.c (o + v) (by omega)
              have xf := hXv.fr (o + v)
              have hne : ¬ w2.heap.size = g := by omega
              go_wp2_with fail
              refine ⟨⟨v + k, by go_num, by omega, by omega, ?_, ?_, hXv.set (o + v) (by omega) (fun i _ => X.upTo_step S o a k v q4 v0 HV.out i), hKv.trans (KeepX.set _ _ _)⟩, by simp [intOf]; omega⟩
              · show _ = _
                rw [show v + k - a = (v - a) + k by omega, Nat.add_mod_right]; exact HV.out
              · rw [World.cell?_setCell_other _ _ _ _ (by simp <;> omega)]; exact c1
            · go_wp2_with fail
              go_ret
              refine ⟨by rw [HR.out]; rfl, ?_, hKv⟩
              rw [HR.out]
              exact hXv.congr (fun i _ => by rw [X.upTo_end S o a b k v v0 HV.out (by omega) v1]; rfl)
        · have hR : R = none := by simpa using hm
          clear hm
          go_wp2_with fail
          go_ret
          refine ⟨by rw [hR]; rfl, ?_, HK3.out⟩
          rw [hR]; exact hX3
end Go.Proofs.YtbgioclbjbmicaaDoor
