import Derived.Test.YtiackejbpcjmeaaRNew
/- The laws' told: how a run's nodes stand, as it tells them. -/
namespace Go.Proofs.Ytiackejbpcjmeaa
namespace Rn
open Go.RowKit Gr

theorem has_in {n k : Nat} (h : k < n) : hasI n (k : Int) = true := by unfold hasI; simp; omega
theorem node_in {T : Nat → Prop} {w : World} {P G : Nat} {nm : ByteArray} {dl : Int} {s : Option Addr × Nat × Nat} {xs : List No} {R : Rs} (h : RunAt T w P G nm dl s xs R) (k : Nat) (p : Pt) (hp : R.ps[k]? = some p) :
    Calls Try.prog 21 #[.pointer (some ⟨P, 0, none⟩), .int .i64 (k : Int)] w fun e w' => e = .returned (.tuple #[.int .i64 p.st, .int .i64 p.tr, .int .i64 0]) ∧ Keep (fun _ => False) w w' := by
  have := node_any h (k : Int)
  rw [has_in (List.getElem?_eq_some_iff.1 hp).1, if_pos rfl, sAt_sts hp, show trAt R.ps (k : Int) = p.tr by unfold trAt; simp [hp]] at this
  exact this
theorem node_out {T : Nat → Prop} {w : World} {P G : Nat} {nm : ByteArray} {dl : Int} {s : Option Addr × Nat × Nat} {xs : List No} {R : Rs} (h : RunAt T w P G nm dl s xs R) :
    Calls Try.prog 21 #[.pointer (some ⟨P, 0, none⟩), .int .i64 (xs.length : Int)] w fun e w' => e = .returned (.tuple #[.int .i64 0, .int .i64 0, .int .i64 130]) ∧ Keep (fun _ => False) w w' := by
  have := node_any h (xs.length : Int)
  rw [show hasI R.ps.length (xs.length : Int) = false by unfold hasI; rw [h.len]; simp, if_neg (by simp)] at this
  exact this
theorem result_in {T : Nat → Prop} {w : World} {P G : Nat} {nm : ByteArray} {dl : Int} {s : Option Addr × Nat × Nat} {xs : List No} {R : Rs} (h : RunAt T w P G nm dl s xs R) (hl : ∀ p ∈ R.ps, p.rs.length ≤ 1000) (k : Nat) (p : Pt) (hp : R.ps[k]? = some p) :
    Calls Try.prog 32 #[.pointer (some ⟨P, 0, none⟩), .int .i64 (k : Int)] w fun e w' => ∃ v, e = .returned (.tuple #[v, .int .i64 0]) ∧ w'.ownsRow w.heap.size 5 1 v p.rs.length (B8 p.rs) ∧ Keep (fun _ => False) w w' := by
  refine (result_any h (k : Int) hl).mono ?_
  rintro e w' ⟨v, rfl, h2, h3⟩
  rw [has_in (List.getElem?_eq_some_iff.1 hp).1, if_pos rfl, show rsAt R.ps (k : Int) = p.rs by unfold rsAt; simp [hp]] at h2
  refine ⟨v, ?_, h2, Keep.ofBelow h3 (Nat.le_refl _)⟩
  rw [has_in (List.getElem?_eq_some_iff.1 hp).1, if_pos rfl]
theorem result_out {T : Nat → Prop} {w : World} {P G : Nat} {nm : ByteArray} {dl : Int} {s : Option Addr × Nat × Nat} {xs : List No} {R : Rs} (h : RunAt T w P G nm dl s xs R) (hl : ∀ p ∈ R.ps, p.rs.length ≤ 1000) :
    Calls Try.prog 32 #[.pointer (some ⟨P, 0, none⟩), .int .i64 (-1)] w fun e w' => ∃ v, e = .returned (.tuple #[v, .int .i64 130]) ∧ Keep (fun _ => False) w w' := by
  refine (result_any h (-1) hl).mono ?_
  rintro e w' ⟨v, rfl, h2, h3⟩
  refine ⟨v, ?_, Keep.ofBelow h3 (Nat.le_refl _)⟩
  rw [show hasI R.ps.length (-1) = false by unfold hasI; simp, if_neg (by simp)]
def flatT (l : List (Pt × (Option Addr × Nat × Nat))) : List Value := (l.map fun x => ptRow x.1 x.2).flatten
theorem flatT_snoc (l : List (Pt × (Option Addr × Nat × Nat))) (x : Pt × (Option Addr × Nat × Nat)) : flatT (l ++ [x]) = flatT l ++ ptRow x.1 x.2 := by simp [flatT]
theorem flatT_get (l : List (Pt × (Option Addr × Nat × Nat))) (i j : Nat) (x : Pt × (Option Addr × Nat × Nat)) (u : Value) (hq : l[i]? = some x) (hu : (ptRow x.1 x.2)[j]? = some u) : (flatT l)[i * 5 + j]? = some u := by
  induction l generalizing i with
  | nil => simp at hq
  | cons p l ih =>
    have hl : ∀ x : Pt × (Option Addr × Nat × Nat), (ptRow x.1 x.2).length = 5 := fun q => rfl
    have e : flatT (p :: l) = ptRow p.1 p.2 ++ flatT l := by simp [flatT]
    have hj : j < 5 := by rw [← hl x]; exact (List.getElem?_eq_some_iff.1 hu).1
    rw [e]
    cases i with
    | zero =>
      simp only [List.getElem?_cons_zero, Option.some.injEq] at hq
      subst hq
      rw [Nat.zero_mul, Nat.zero_add, List.getElem?_append_left (by rw [hl]; omega)]
      exact hu
    | succ i =>
      simp only [List.getElem?_cons_succ] at hq
      rw [List.getElem?_append_right (by rw [hl]; omega), hl, show (i + 1) * 5 + j - 5 = i * 5 + j by omega]
      exact ih i hq
/-- how nodes stand, told in memory of its own -/
def TdAt (B : Nat) (w : World) (v : Value) (ps : List Pt) : Prop :=
  ∃ l : List (Pt × (Option Addr × Nat × Nat)), l.map Prod.fst = ps ∧ w.ownsRow B 40 5 v ps.length (flatT l) ∧ ∀ x ∈ l, w.ownsRow B 5 1 (.slice x.2.1 x.2.2.1 x.2.2.2) x.1.rs.length (B8 x.1.rs)
theorem own_keepT {w w' : World} {b : Nat} {e : TypeId} {sz : Nat} {v : Value} {n : Nat} {l : List Value} (h : w.ownsRow b e sz v n l) {S : Nat → Prop} (k : Keep S w w') (hS : ∀ i cur, S i → w.heap[i]? ≠ some (.cells cur e (0, 0))) : w'.ownsRow b e sz v n l := ownsRow_keep h k fun i hi hh => by
  rcases h.2 with ⟨rfl, _⟩ | ⟨g, cap, cur, rfl, _, hg, _⟩
  · simp [Value.ownBlock] at hh
  · simp [Value.ownBlock] at hh
    subst hh
    exact hS _ cur hi hg
theorem TdAt.keep {B : Nat} {S : Nat → Prop} {w w' : World} {v : Value} {ps : List Pt} (h : TdAt B w v ps) (k : Keep S w w') (hS : ∀ i cur, S i → w.heap[i]? ≠ some (.cells cur 40 (0, 0)) ∧ w.heap[i]? ≠ some (.cells cur 5 (0, 0))) : TdAt B w' v ps := by
  obtain ⟨l, h1, h2, h3⟩ := h
  exact ⟨l, h1, own_keepT h2 k fun i cur hi => (hS i cur hi).1, fun x hx => own_keepT (h3 x hx) k fun i cur hi => (hS i cur hi).2⟩
theorem TdAt.new {B : Nat} {w w' : World} {v : Value} {ps : List Pt} (h : TdAt B w v ps) (k : Keep (fun _ => False) w w') : TdAt B w' v ps := h.keep k fun _ _ f => f.elim
/-- what can be read of it -/
def RdT (w : World) (s : Option Addr × Nat × Nat) (ps : List Pt) : Prop :=
  s.2.1 = ps.length ∧ (s.2.1 = 0 ∨ ∃ g off, s.1 = some ⟨g, off, none⟩ ∧ ∀ i p, ps[i]? = some p → ∃ m : Option Addr × Nat × Nat, (∀ j u, (ptRow p m)[j]? = some u → w.cell? ⟨g, off + i * 5 + j, none⟩ = some u) ∧ Rd w m.1 m.2.1 p.rs)
theorem TdAt.rd {B : Nat} {w : World} {v : Value} {ps : List Pt} (h : TdAt B w v ps) (hb : ∀ p ∈ ps, (∀ d ∈ p.rs, d < 256) ∧ p.rs.length ≤ 1000) : ∃ a c, v = .slice a ps.length c ∧ RdT w (a, ps.length, c) ps := by
  obtain ⟨l, h1, h2, h3⟩ := h
  obtain ⟨a, c, rfl⟩ := ownsRow_shape h2
  refine ⟨a, c, rfl, rfl, ?_⟩
  rcases h2.2 with ⟨e, e2⟩ | ⟨g, cap, cur, e, hb', hg, _, _, _, htk⟩
  · exact .inl e2
  · injection e with e1 _ _
    subst e1
    refine .inr ⟨g, 0, rfl, fun i p hp => ?_⟩
    rw [← h1, List.getElem?_map] at hp
    obtain ⟨x, hx, rfl⟩ := Option.map_eq_some_iff.1 hp
    have hxm := List.mem_of_getElem? hx
    have hpm : x.1 ∈ ps := by rw [← h1]; exact List.mem_map_of_mem hxm
    obtain ⟨a', c', e', hr, _⟩ := ownsRow_rdB (h3 x hxm) (hb _ hpm).1 (by have := (hb _ hpm).2; omega)
    injection e' with e1 e2 e3
    refine ⟨x.2, fun j u hu => ?_, by rw [e1, e2]; exact hr⟩
    have hc := h2.cells (g := g) rfl (i * 5 + j) u (flatT_get l i j x u hx hu)
    rw [Addr.add_mid] at hc
    rw [Nat.add_assoc]
    exact hc
theorem info_ns : (Try.prog.info? 40).map (fun i => (i.zero, i.size, i.bytes)) = some (some (.agg #[.int .i64 0, .int .i64 0, .int .i64 0, .int .i64 0, .slice none 0 0]), 5, 56) := by kernel_rfl
theorem wp_append_ns {w : World} {ops : Array Oper} {rest : List Oper} {o : Oper} {a : Act} {Q : Exit → Act → World → Prop} (hgd : o.guard = none) (s x : Operand)
    (ho : o.op = .call { callee := .builtin .append, args := #[s, x], argTypes := #[31, 31] })
    (base : Nat) (v : Value) (n : Nat) (l : List Value) (hs : a.eval s = v) (hown : w.ownsRow base 40 5 v n l) (B : Nat) (p : Pt) (m : Option Addr × Nat × Nat) (hx : a.eval x = .slice (some ⟨B, 0, none⟩) 1 1) (hq : w.heap[B]? = some (.cells (ptRow p m).toArray 40 (0, 0))) (hn : n ≤ 1000) (hbase : base ≤ w.heap.size)
    (h : ∀ v' w', w'.ownsRow base 40 5 v' (n + 1) (l ++ ptRow p m) → Keep (fun k => v.ownBlock = some k) w w' → wpList Try.prog ops Q rest (a.put o.dst v') w') : wpList Try.prog ops Q (o :: rest) a w := by
  obtain ⟨i0, hi, hz0, hz1, hz2⟩ := info_parts info_ns
  refine wpList_append_own2 hgd s x 31 ho base 40 i0 _ 5 56 Try.underlying31 hi hz0 hz1 hz2 rfl (by decide) v n _ hs hown ⟨B, 0, none⟩ 1 1 (ptRow p m) hx rfl (fun j u hu => ?_) (fun u hu => ?_) (by unfold maxLen; omega) (by omega) hbase ?_
  · rw [Addr.add_mid, Nat.zero_add]
    exact cell_blk hq j (by simpa using hu)
  · simp [ptRow] at hu
    rcases hu with rfl | rfl | rfl | rfl <;> rfl
  · intro v' w' h1 h2 _
    exact h v' w' h1 (Keep.grown h2 fun k e => e)

set_option maxRecDepth 100000 in
set_option maxHeartbeats 4000000 in
theorem told_any {T : Nat → Prop} {w : World} {P G : Nat} {nm : ByteArray} {dl : Int} {s : Option Addr × Nat × Nat} {xs : List No} {R : Rs} (h : RunAt T w P G nm dl s xs R) (hl : ∀ p ∈ R.ps, (∀ d ∈ p.rs, d < 256) ∧ p.rs.length ≤ 1000) :
    Calls Try.prog 13 #[.pointer (some ⟨P, 0, none⟩), .int .i64 (xs.length : Int)] w fun e w' => ∃ v, e = .returned (.tuple #[v, .bool true]) ∧ TdAt w.heap.size w' v R.ps ∧ Keep (fun _ => False) w w' := by
  have hl2 : ∀ p ∈ R.ps, p.rs.length ≤ 1000 := fun p hp => (hl p hp).2
  have HL := hide hl
  have HLN : Hid (R.ps.length = xs.length) := h.len
  have hn64 : xs.length ≤ 64 := h.val.1
  have NI := hide (fun (W : World) (k : Keep (fun _ => False) w W) j p hp => node_in (h.new k) j p hp)
  have RI := hide (fun (W : World) (k : Keep (fun _ => False) w W) j p hp => result_in (h.new k) hl2 j p hp)
  have NO := hide (fun (W : World) (k : Keep (fun _ => False) w W) => node_out (h.new k))
  have RO := hide (fun (W : World) (k : Keep (fun _ => False) w W) => result_out (h.new k) hl2)
  clear h hl hl2
  generalize hn : xs.length = n at *
  go_enter Try.func13, Try.ntmps13
  go_wp2_with fail
  go_loopw [6, 7] (fun v6 v7 wr => ∃ (i : Nat) (va : Option Addr) (vc : Nat), v6 = .slice va i vc ∧ v7 = .int .i64 (i : Nat) ∧ i ≤ n ∧ Hid (TdAt w.heap.size wr (.slice va i vc) (R.ps.take i) ∧ Keep (fun k => w.heap.size ≤ k) w wr)) (fun _ v7 _ => n - (intOf v7).toNat)
  case atStart => exact ⟨0, none, 0, rfl, rfl, Nat.zero_le _, ⟨[], rfl, World.ownsRow_nil _ _ _ _, fun x hx => by cases hx⟩, Keep.refl _ _⟩
  case round =>
    obtain ⟨i, va, vc, rfl, rfl, hi, HD⟩ := hrel
    have HTD := hide HD.out.1
    have HK : Hid (Keep (fun _ => False) w wr) := ⟨HD.out.2.os, HD.out.2.tape, HD.out.2.output, HD.out.2.size, fun k hk _ => HD.out.2.block k hk (by omega)⟩
    clear HD
    by_cases hlt : i < n
    · have hp : R.ps[i]? = some (R.ps[i]'(by have := HLN.out; omega)) := List.getElem?_eq_getElem _
      have hpm := List.mem_of_getElem? hp
      have hbs := HL.out _ hpm
      have HP := hide hp
      have C1 := hide (NI.out wr HK.out i _ hp)
      have C2 := hide (fun W k => RI.out W k i _ hp)
      generalize R.ps[i]'_ = p at *
      have HBS := hide hbs
      clear hp hpm hbs
      go_wp2_with fail
      go_at_call 21
      refine C1.out.mono ?_
      rintro e w1 ⟨rfl, k1⟩
      have K1 := hide (HK.out.more k1)
      have C3 := hide (C2.out w1 K1.out)
      have T1 := hide (HTD.out.new k1)
      clear k1 C1 C2 HTD
      go_wp2_with fail
      go_at_call 32
      refine C3.out.mono ?_
      rintro e w2 ⟨v2, rfl, ho2, k2⟩
      obtain ⟨ra, rc, rfl, hrd, hcp, _, _⟩ := ownsRow_rdB ho2 HBS.out.1 (by have := HBS.out.2; omega)
      have K2 := hide (K1.out.more k2)
      have T2 := hide (T1.out.new k2)
      have TW := hide (twin_any ra p.rs.length rc p.rs w2 hrd hcp (by have := HBS.out.2; omega))
      clear k2 ho2 hrd hcp C3 T1
      go_wp2_with fail
      go_at_call 30
      refine TW.out.mono ?_
      rintro e w3 ⟨v3, rfl, ho3, hb3⟩
      obtain ⟨ta, tc, rfl⟩ := ownsRow_shape ho3
      have k3 := Keep.ofBelow (S := fun _ => False) hb3 (Nat.le_refl _)
      have K3 := hide (K2.out.more k3)
      have T3 := hide (T2.out.new k3)
      have O3 := hide (ownsRow_base ho3 K2.out.size)
      have k4 := Keep.alloc (fun _ => False) w3 (.cells #[.int .i64 p.st, .int .i64 p.tr, .int .i64 0, .int .i64 0, .slice ta p.rs.length tc] 40)
      have b4 := heap_alloc_new w3 (.cells #[.int .i64 p.st, .int .i64 p.tr, .int .i64 0, .int .i64 0, .slice ta p.rs.length tc] 40)
      have HQ4 := hide b4
      have K4 := hide (K3.out.more k4)
      have O4 := hide (ownsRow_new O3.out k4)
      obtain ⟨l4, e4, r4, s4⟩ := T3.out.new k4
      have htl : (R.ps.take i).length = i := by rw [List.length_take]; have := HLN.out; omega
      rw [htl] at r4
      have R4 := hide r4
      have S4 := hide s4
      have E4 := hide e4
      have hzs : w.heap.size ≤ (w3.alloc (.cells #[.int .i64 p.st, .int .i64 p.tr, .int .i64 0, .int .i64 0, .slice ta p.rs.length tc] 40)).heap.size := K4.out.size
      clear k3 ho3 hb3 k4 b4 e4 r4 s4 TW T2 T3 O3 K3 htl
      go_wp2_with (at_builtin; refine wp_append_ns rfl _ _ rfl w.heap.size (.slice va i vc) i (flatT l4) rfl R4.out w3.heap.size p (ta, p.rs.length, tc) rfl HQ4.out (by omega) hzs ?_; intro v' w5 ho5 hk5; obtain ⟨na, nc, hv'⟩ := ownsRow_shape ho5; subst hv'; have HO5 := hide ho5; have HK5 := hide hk5; clear ho5 hk5)
      have HNX : Hid (TdAt w.heap.size w5 (.slice na (i + 1) nc) (R.ps.take (i + 1)) ∧ Keep (fun k => w.heap.size ≤ k) w w5) := by
        have far : ∀ {u : Value} {m : Nat} {l : List Value}, (w3.alloc (.cells #[.int .i64 p.st, .int .i64 p.tr, .int .i64 0, .int .i64 0, .slice ta p.rs.length tc] 40)).ownsRow w.heap.size 5 1 u m l → w5.ownsRow w.heap.size 5 1 u m l := fun {u m l} ho => own_keepT ho HK5.out fun j cur hj hg => by
          rcases R4.out.2 with ⟨e, _⟩ | ⟨g, cap, cur', e, _, hg', _⟩
          · rw [e] at hj; simp [Value.ownBlock] at hj
          · rw [e] at hj
            simp [Value.ownBlock] at hj
            subst hj
            rw [hg] at hg'
            injection hg' with hg'
            injection hg' with _ hg'
            exact absurd hg' (by decide)
        refine ⟨⟨l4 ++ [(p, (ta, p.rs.length, tc))], ?_, ?_, fun x hx => ?_⟩, (K4.out.mono fun _ f => f.elim).more (HK5.out.mono fun j hj => (R4.out.lt j hj).1)⟩
        · rw [List.map_append, E4.out, Gr.take_snoc _ _ _ HP.out]; rfl
        · rw [flatT_snoc, show (R.ps.take (i + 1)).length = i + 1 by rw [List.length_take]; have := HLN.out; omega]
          exact HO5.out
        · rcases List.mem_append.1 hx with hx | hx
          · exact far (S4.out x hx)
          · rw [List.mem_singleton] at hx
            subst hx
            exact far O4.out
      go_wp2_with fail
      go_roundw
      · exact ⟨i + 1, na, nc, rfl, rfl, by omega, HNX.out⟩
      · show n - ((i : Int) + 1).toNat < n - (i : Int).toNat
        omega
    · obtain rfl : i = n := by omega
      have HT2 : Hid (TdAt w.heap.size wr (.slice va i vc) R.ps) := by
        have := HTD.out
        rw [show R.ps.take i = R.ps by rw [← HLN.out]; exact List.take_length] at this
        exact this
      have C1 := hide (NO.out wr HK.out)
      clear hlt HTD
      go_wp2_with fail
      go_at_call 21
      refine C1.out.mono ?_
      rintro e w1 ⟨rfl, k1⟩
      have K1 := hide (HK.out.more k1)
      have T1 := hide (HT2.out.new k1)
      have C2 := hide (RO.out w1 K1.out)
      clear k1 C1
      go_wp2_with fail
      go_at_call 32
      refine C2.out.mono ?_
      rintro e w2 ⟨v2, rfl, k2⟩
      have K2 := hide (K1.out.more k2)
      have T2 := hide (T1.out.new k2)
      clear k2 C2
      go_wp2_with fail
      go_ret2
      exact ⟨_, rfl, T2.out, K2.out⟩
end Rn
end Go.Proofs.Ytiackejbpcjmeaa

/- How nodes stand, told in memory: read again. -/
namespace Go.Proofs.Ytiackejbpcjmeaa
namespace Rn
open Go.RowKit Gr

theorem RdT.new {w w' : World} {s : Option Addr × Nat × Nat} {ps : List Pt} (h : RdT w s ps) (k : Keep (fun _ => False) w w') : RdT w' s ps := by
  obtain ⟨h1, h2⟩ := h
  refine ⟨h1, ?_⟩
  rcases h2 with h2 | ⟨g, off, e, h2⟩
  · exact .inl h2
  · refine .inr ⟨g, off, e, fun i p hp => ?_⟩
    obtain ⟨m, h3, h4⟩ := h2 i p hp
    exact ⟨m, fun j u hu => k.cell (h3 j u hu) (fun f => f), h4.stay k fun _ _ _ f => f⟩
/-- one node of it -/
theorem RdT.at {w : World} {s : Option Addr × Nat × Nat} {ps : List Pt} (h : RdT w s ps) {i : Nat} (hi : i < ps.length) : ∃ (g off : Nat) (p : Pt) (m : Option Addr × Nat × Nat), s.1 = some ⟨g, off, none⟩ ∧ ps[i]? = some p ∧ w.cell? ⟨g, off + i * 5, none⟩ = some (.int .i64 p.st) ∧ w.cell? ⟨g, off + i * 5 + 1, none⟩ = some (.int .i64 p.tr) ∧ w.cell? ⟨g, off + i * 5 + 4, none⟩ = some (.slice m.1 m.2.1 m.2.2) ∧ Rd w m.1 m.2.1 p.rs := by
  obtain ⟨h1, h2⟩ := h
  obtain ⟨g, off, e, h2⟩ := h2.resolve_left (by omega)
  have hp : ps[i]? = some ps[i] := List.getElem?_eq_getElem hi
  obtain ⟨m, h3, h4⟩ := h2 i _ hp
  exact ⟨g, off, _, m, e, hp, h3 0 _ rfl, h3 1 _ rfl, h3 4 _ rfl, h4⟩
end Rn
end Go.Proofs.Ytiackejbpcjmeaa
