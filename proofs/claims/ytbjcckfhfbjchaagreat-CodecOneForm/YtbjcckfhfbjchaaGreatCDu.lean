/- Codec: a field taken; a node taken (written by cnt_gen.py). -/
import Derived.Test.YtbjcckfhfbjchaaGreatCDn
namespace Go.Proofs.YtbjcckfhfbjchaaGreat
namespace Cd
open Go.RowKit Go.Deep

variable {F : Nat} {bf : Nat × Nat}
theorem tk_ok {g : K.RS → K.RS} {s : K.RS} (h : (takeR g s).fault = 0) : s.fault = 0 := by
  by_cases hz : s.fault = 0
  · exact hz
  · unfold takeR at h
    rw [if_neg hz] at h
    exact h
def vS (most : Int) (s : K.RS) (_ : World) (v : Value) : Prop := v = .string (str (rowV most s))
def vI (s : K.RS) (_ : World) (v : Value) : Prop := v = .int .i64 (numV s : Nat)
def vL (s : K.RS) (w : World) (v : Value) : Prop := listV 3 64 (numR 0 63) vI s w v
theorem stable_S {T : TypeId} (most : Int) (s : K.RS) : StableT T (vS most s) := stableT_plain
theorem stable_I {T : TypeId} (s : K.RS) : StableT T (vI s) := stableT_plain
theorem stable_L {T : TypeId} (hT : 3 ≠ T) (s : K.RS) : StableT T (vL s) := listV_stable (by decide) hT (fun s => stable_I s) s
theorem sh_S {s' : K.RS} {w : World} {v : Value} {most : Int} {s : K.RS} (h : s'.fault = 0 → vS most s w v) (hn : s'.fault ≠ 0 → v = .string ⟨#[]⟩) : ∃ x, v = .string x ∧ (s'.fault = 0 → x = str (rowV most s)) := by
  by_cases hz : s'.fault = 0
  · exact ⟨_, h hz, fun _ => rfl⟩
  · exact ⟨_, hn hz, fun e => absurd e hz⟩
theorem sh_I {s' : K.RS} {w : World} {v : Value} {s : K.RS} (h : s'.fault = 0 → vI s w v) (hn : s'.fault ≠ 0 → v = .int .i64 0) : ∃ x : Int, v = .int .i64 x ∧ (s'.fault = 0 → x = (numV s : Nat)) := by
  by_cases hz : s'.fault = 0
  · exact ⟨_, h hz, fun _ => rfl⟩
  · exact ⟨_, hn hz, fun e => absurd e hz⟩
theorem sh_L {s' : K.RS} {w : World} {v : Value} {s : K.RS} (h : s'.fault = 0 → vL s w v) (hn : s'.fault ≠ 0 → v = .slice none 0 0) : ∃ a n c, v = .slice a n c ∧ (s'.fault = 0 → vL s w (.slice a n c)) := by
  by_cases hz : s'.fault = 0
  · obtain ⟨y1, y2, y3, e⟩ := listV_shape (h hz)
    refine ⟨y1, y2, y3, e, fun hz => ?_⟩
    rw [← e]
    exact h hz
  · exact ⟨_, _, _, hn hz, fun e => absurd e hz⟩
theorem ftakeI {wf W : World} {q : Nat} {fn1 fn2 : FuncId} {cap1 cap2 : Array Value} {g : K.RS → K.RS} {V : K.RS → World → Value → Prop} {s : K.RS} (ha : Agree (Lo bf wf) wf W) (hq : ¬ Lo bf wf q) (hr : Rr W q s) (ht : TakesG (Lo bf wf) wf fn2 cap2 g V) (hV : Stable (V s))
    (he : ∀ args w, (callFunc fn2 args).run Tryz.prog w = .ok (.enter fn2 args) w) :
    Calls Tryz.prog 48 #[.agg #[.func (.func fn1) #[] cap1, .func (.func fn2) #[] cap2], .pointer (some ⟨q, 0, none⟩)] W (Took q (takeR g s) (V s) (.int .i64 0) W) := by
  refine TakeI q fn1 fn2 cap1 cap2 s (takeR g s) (V s) hV W hr (fun hz w1 hb => ?_) (fun hz => ?_) he
  · have e : takeR g s = g s := by unfold takeR; rw [if_pos hz]
    rw [e]
    exact ht q s w1 (ha.keep (Keep.ofBelow (S := fun _ => False) hb (Nat.le_refl _)) (fun _ _ h => h)) hq (hr.below hb) hz
  · unfold takeR
    rw [if_neg hz]

theorem ftakeS {wf W : World} {q : Nat} {fn1 fn2 : FuncId} {cap1 cap2 : Array Value} {g : K.RS → K.RS} {V : K.RS → World → Value → Prop} {s : K.RS} (ha : Agree (Lo bf wf) wf W) (hq : ¬ Lo bf wf q) (hr : Rr W q s) (ht : TakesG (Lo bf wf) wf fn2 cap2 g V) (hV : Stable (V s))
    (he : ∀ args w, (callFunc fn2 args).run Tryz.prog w = .ok (.enter fn2 args) w) :
    Calls Tryz.prog 61 #[.agg #[.func (.func fn1) #[] cap1, .func (.func fn2) #[] cap2], .pointer (some ⟨q, 0, none⟩)] W (Took q (takeR g s) (V s) (.string ⟨#[]⟩) W) := by
  refine TakeS q fn1 fn2 cap1 cap2 s (takeR g s) (V s) hV W hr (fun hz w1 hb => ?_) (fun hz => ?_) he
  · have e : takeR g s = g s := by unfold takeR; rw [if_pos hz]
    rw [e]
    exact ht q s w1 (ha.keep (Keep.ofBelow (S := fun _ => False) hb (Nat.le_refl _)) (fun _ _ h => h)) hq (hr.below hb) hz
  · unfold takeR
    rw [if_neg hz]

theorem ftakeLi {wf W : World} {q : Nat} {fn1 fn2 : FuncId} {cap1 cap2 : Array Value} {g : K.RS → K.RS} {V : K.RS → World → Value → Prop} {s : K.RS} (ha : Agree (Lo bf wf) wf W) (hq : ¬ Lo bf wf q) (hr : Rr W q s) (ht : TakesG (Lo bf wf) wf fn2 cap2 g V) (hV : Stable (V s))
    (he : ∀ args w, (callFunc fn2 args).run Tryz.prog w = .ok (.enter fn2 args) w) :
    Calls Tryz.prog 126 #[.agg #[.func (.func fn1) #[] cap1, .func (.func fn2) #[] cap2], .pointer (some ⟨q, 0, none⟩)] W (Took q (takeR g s) (V s) (.slice none 0 0) W) := by
  refine TakeLi q fn1 fn2 cap1 cap2 s (takeR g s) (V s) hV W hr (fun hz w1 hb => ?_) (fun hz => ?_) he
  · have e : takeR g s = g s := by unfold takeR; rw [if_pos hz]
    rw [e]
    exact ht q s w1 (ha.keep (Keep.ofBelow (S := fun _ => False) hb (Nat.le_refl _)) (fun _ _ h => h)) hq (hr.below hb) hz
  · unfold takeR
    rw [if_neg hz]

theorem ftakeLn {wf W : World} {q : Nat} {fn1 fn2 : FuncId} {cap1 cap2 : Array Value} {g : K.RS → K.RS} {V : K.RS → World → Value → Prop} {s : K.RS} (ha : Agree (Lo bf wf) wf W) (hq : ¬ Lo bf wf q) (hr : Rr W q s) (ht : TakesG (Lo bf wf) wf fn2 cap2 g V) (hV : Stable (V s))
    (he : ∀ args w, (callFunc fn2 args).run Tryz.prog w = .ok (.enter fn2 args) w) :
    Calls Tryz.prog 62 #[.agg #[.func (.func fn1) #[] cap1, .func (.func fn2) #[] cap2], .pointer (some ⟨q, 0, none⟩)] W (Took q (takeR g s) (V s) (.slice none 0 0) W) := by
  refine TakeLn q fn1 fn2 cap1 cap2 s (takeR g s) (V s) hV W hr (fun hz w1 hb => ?_) (fun hz => ?_) he
  · have e : takeR g s = g s := by unfold takeR; rw [if_pos hz]
    rw [e]
    exact ht q s w1 (ha.keep (Keep.ofBelow (S := fun _ => False) hb (Nat.le_refl _)) (fun _ _ h => h)) hq (hr.below hb) hz
  · unfold takeR
    rw [if_neg hz]

theorem ftakeB {wf W : World} {q : Nat} {fn1 fn2 : FuncId} {cap1 cap2 : Array Value} {g : K.RS → K.RS} {V : K.RS → World → Value → Prop} {s : K.RS} (ha : Agree (Lo bf wf) wf W) (hq : ¬ Lo bf wf q) (hr : Rr W q s) (ht : TakesG (Lo bf wf) wf fn2 cap2 g V) (hV : Stable (V s))
    (he : ∀ args w, (callFunc fn2 args).run Tryz.prog w = .ok (.enter fn2 args) w) :
    Calls Tryz.prog 143 #[.agg #[.func (.func fn1) #[] cap1, .func (.func fn2) #[] cap2], .pointer (some ⟨q, 0, none⟩)] W (Took q (takeR g s) (V s) (.slice none 0 0) W) := by
  refine TakeB q fn1 fn2 cap1 cap2 s (takeR g s) (V s) hV W hr (fun hz w1 hb => ?_) (fun hz => ?_) he
  · have e : takeR g s = g s := by unfold takeR; rw [if_pos hz]
    rw [e]
    exact ht q s w1 (ha.keep (Keep.ofBelow (S := fun _ => False) hb (Nat.le_refl _)) (fun _ _ h => h)) hq (hr.below hb) hz
  · unfold takeR
    rw [if_neg hz]

theorem ftakeW {wf W : World} {q : Nat} {fn1 fn2 : FuncId} {cap1 cap2 : Array Value} {g : K.RS → K.RS} {V : K.RS → World → Value → Prop} {s : K.RS} (ha : Agree (Lo bf wf) wf W) (hq : ¬ Lo bf wf q) (hr : Rr W q s) (ht : TakesG (Lo bf wf) wf fn2 cap2 g V) (hV : Stable (V s))
    (he : ∀ args w, (callFunc fn2 args).run Tryz.prog w = .ok (.enter fn2 args) w) :
    Calls Tryz.prog 146 #[.agg #[.func (.func fn1) #[] cap1, .func (.func fn2) #[] cap2], .pointer (some ⟨q, 0, none⟩)] W (Took q (takeR g s) (V s) (.int .u64 0) W) := by
  refine TakeW q fn1 fn2 cap1 cap2 s (takeR g s) (V s) hV W hr (fun hz w1 hb => ?_) (fun hz => ?_) he
  · have e : takeR g s = g s := by unfold takeR; rw [if_pos hz]
    rw [e]
    exact ht q s w1 (ha.keep (Keep.ofBelow (S := fun _ => False) hb (Nat.le_refl _)) (fun _ _ h => h)) hq (hr.below hb) hz
  · unfold takeR
    rw [if_neg hz]

theorem takes_L {wf : World} {b m o l k : Nat} (hF : FL bf.2 wf b m o l k 64 0 63) : TakesG (Lo bf wf) wf 164 #[.pointer (some ⟨m, 0, none⟩), .pointer (some ⟨o, 0, none⟩)] (listR 64 (numR 0 63)) vL :=
  takesListI (Lo bf wf) wf m o 64 (by decide) _ _ _ _ (numR 0 63) vI (fun s => stable_I s) (fun s w v h => ⟨_, h⟩) (takesNum (Lo bf wf) wf l k 0 63 hF.ce0 hF.ce1 (clM hF.ce0 hF.hl) (clM hF.ce1 hF.hk)) ent_takeNum (clM hF.cel hF.hm) (blM hF.obk hF.ho) hF.cel hF.obk
theorem rd_typ {w : World} {q : Nat} {s : K.RS} (h : Rr w q s) : ∀ k, k = q → ∃ cs t, w.heap[k]? = some (.cells cs t (0, 0)) ∧ (t = 136 ∨ t = 57) := fun k e => by
  obtain ⟨a0, c0, hb, _⟩ := h.ex
  subst e
  exact ⟨_, _, hb, .inl rfl⟩
theorem ne_rd {w : World} {q : Nat} {s : K.RS} (h : Rr w q s) {b : Nat} {cs : Array Value} (hb : w.heap[b]? = some (.cells cs 57 (0, 0))) : ¬ b = q := box_ne h hb (by decide)
def Rn1 : K.RS → K.RS := rowR 40
def Rn2 : K.RS → K.RS := seqR Rn1 (numR 0 15)
def Rn3 : K.RS → K.RS := seqR Rn2 (numR 1 100)
def Rn4 : K.RS → K.RS := seqR Rn3 (numR 1 1099511627776)
def Rn5 : K.RS → K.RS := seqR Rn4 (numR 0 1099511627776)
def Rn6 : K.RS → K.RS := seqR Rn5 (numR 1 1099511627776)
def Rn7 : K.RS → K.RS := seqR Rn6 (numR 1 1099511627776)
def Rn8 : K.RS → K.RS := seqR Rn7 (numR 0 1099511627776)
def Rn9 : K.RS → K.RS := seqR Rn8 (listR 64 (numR 0 63))
def nodeR : K.RS → K.RS := seqR Rn9 (listR 64 (numR 0 63))
def iV (s : K.RS) : Int := ((numV s : Nat) : Int)
def lV (s : K.RS) : List Int := listVal 64 (numR 0 63) iV s
/-- the node that is taken -/
def nodeVal (s : K.RS) : Nv := (((((((((rowV 40 s, iV (Rn1 s)), iV (Rn2 s)), iV (Rn3 s)), iV (Rn4 s)), iV (Rn5 s)), iV (Rn6 s)), iV (Rn7 s)), lV (Rn8 s)), lV (Rn9 s))
theorem wI (least most : Int) (h : most ≤ 9223372036854775807) : WR (numR least most) iV (fun x => numW least most x) := wr_num least most h
theorem wL : WR (listR 64 (numR 0 63)) lV (fun z => listW 64 (zW 0 63 z)) := wr_list (wI 0 63 (by decide)) 64
theorem wr10 {A1 A2 A3 A4 A5 A6 A7 A8 A9 A0 : Type} {R1 R2 R3 R4 R5 R6 R7 R8 R9 R0 g2 g3 g4 g5 g6 g7 g8 g9 g0 : K.RS → K.RS} {v1 : K.RS → A1} {v2 : K.RS → A2} {v3 : K.RS → A3} {v4 : K.RS → A4} {v5 : K.RS → A5} {v6 : K.RS → A6} {v7 : K.RS → A7} {v8 : K.RS → A8} {v9 : K.RS → A9} {v0 : K.RS → A0} {f1 : A1 → K.WS → K.WS} {f2 : A2 → K.WS → K.WS} {f3 : A3 → K.WS → K.WS} {f4 : A4 → K.WS → K.WS} {f5 : A5 → K.WS → K.WS} {f6 : A6 → K.WS → K.WS} {f7 : A7 → K.WS → K.WS} {f8 : A8 → K.WS → K.WS} {f9 : A9 → K.WS → K.WS} {f0 : A0 → K.WS → K.WS}
    (h1 : WR R1 v1 f1) (h2 : WR g2 v2 f2) (h3 : WR g3 v3 f3) (h4 : WR g4 v4 f4) (h5 : WR g5 v5 f5) (h6 : WR g6 v6 f6) (h7 : WR g7 v7 f7) (h8 : WR g8 v8 f8) (h9 : WR g9 v9 f9) (h0 : WR g0 v0 f0)
    (e2 : R2 = seqR R1 g2) (e3 : R3 = seqR R2 g3) (e4 : R4 = seqR R3 g4) (e5 : R5 = seqR R4 g5) (e6 : R6 = seqR R5 g6) (e7 : R7 = seqR R6 g7) (e8 : R8 = seqR R7 g8) (e9 : R9 = seqR R8 g9) (e0 : R0 = seqR R9 g0) :
    WR R0 (fun s => (((((((((v1 s, v2 (R1 s)), v3 (R2 s)), v4 (R3 s)), v5 (R4 s)), v6 (R5 s)), v7 (R6 s)), v8 (R7 s)), v9 (R8 s)), v0 (R9 s)))
      (fun x => seqW (seqW (seqW (seqW (seqW (seqW (seqW (seqW (seqW (f1 x.1.1.1.1.1.1.1.1.1) (f2 x.1.1.1.1.1.1.1.1.2)) (f3 x.1.1.1.1.1.1.1.2)) (f4 x.1.1.1.1.1.1.2)) (f5 x.1.1.1.1.1.2)) (f6 x.1.1.1.1.2)) (f7 x.1.1.1.2)) (f8 x.1.1.2)) (f9 x.1.2)) (f0 x.2)) := by
  subst e2 e3 e4 e5 e6 e7 e8 e9 e0
  have t2 := wr_seq h1 h2
  have t3 := wr_seq t2 h3
  have t4 := wr_seq t3 h4
  have t5 := wr_seq t4 h5
  have t6 := wr_seq t5 h6
  have t7 := wr_seq t6 h7
  have t8 := wr_seq t7 h8
  have t9 := wr_seq t8 h9
  have t0 := wr_seq t9 h0
  clear t2 t3 t4 t5 t6 t7 t8 t9
  exact t0
theorem wr_node : WR nodeR nodeVal nodeW := by
  have h := wr10 (R1 := Rn1) (R2 := Rn2) (R3 := Rn3) (R4 := Rn4) (R5 := Rn5) (R6 := Rn6) (R7 := Rn7) (R8 := Rn8) (R9 := Rn9) (R0 := nodeR) (wr_text 40) (wI 0 15 (by decide)) (wI 1 100 (by decide)) (wI 1 1099511627776 (by decide)) (wI 0 1099511627776 (by decide)) (wI 1 1099511627776 (by decide)) (wI 1 1099511627776 (by decide)) (wI 0 1099511627776 (by decide)) wL wL rfl rfl rfl rfl rfl rfl rfl rfl rfl
  have e1 : nodeVal = (fun s => (((((((((rowV 40 s, iV (Rn1 s)), iV (Rn2 s)), iV (Rn3 s)), iV (Rn4 s)), iV (Rn5 s)), iV (Rn6 s)), iV (Rn7 s)), lV (Rn8 s)), lV (Rn9 s))) := by funext s; simp only [nodeVal]
  rw [e1]
  have e2 : nodeW = (fun x => seqW (seqW (seqW (seqW (seqW (seqW (seqW (seqW (seqW (textW 40 x.1.1.1.1.1.1.1.1.1) (numW 0 15 x.1.1.1.1.1.1.1.1.2)) (numW 1 100 x.1.1.1.1.1.1.1.2)) (numW 1 1099511627776 x.1.1.1.1.1.1.2)) (numW 0 1099511627776 x.1.1.1.1.1.2)) (numW 1 1099511627776 x.1.1.1.1.2)) (numW 1 1099511627776 x.1.1.1.2)) (numW 0 1099511627776 x.1.1.2)) (listW 64 (zW 0 63 x.1.2))) (listW 64 (zW 0 63 x.2))) := by funext x; simp only [nodeW]
  rw [e2]
  exact h
theorem nv_9 (s : K.RS) : (nodeVal s).1.2 = lV (Rn8 s) := by simp only [nodeVal]
theorem nv_10 (s : K.RS) : (nodeVal s).2 = lV (Rn9 s) := by simp only [nodeVal]
/-- a list of numbers by value, in memory -/
def zRow (w : World) (a : Option Addr) (n c : Nat) (z : List Int) : Prop := n = z.length ∧ w.ownsRow 0 3 1 (.slice a n c) n (z.map (Value.int .i64))
theorem vL_row {s : K.RS} {w : World} {a : Option Addr} {n c : Nat} (h : vL s w (.slice a n c)) : zRow w a n c (lV s) := by
  unfold vL listV at h
  unfold lV listVal
  cases hc : cnt 64 (rest s) with
  | error e => rw [hc] at h; exact h.elim
  | ok r =>
    obtain ⟨k, z⟩ := r
    rw [hc] at h
    obtain ⟨vs, hl, ho, hv⟩ := h
    have hk : n = k := by
      obtain ⟨a', c', e⟩ := ownsRow_shape ho
      injection e
    subst hk
    have e : vs = (valsOf (numR 0 63) iV n (s.go z)).map (Value.int .i64) := by
      apply List.ext_getElem?
      intro i
      unfold valsOf
      rw [List.map_map, List.getElem?_map]
      by_cases hi : i < n
      · rw [List.getElem?_range hi]
        cases hx : vs[i]? with
        | none => have := List.getElem?_eq_none_iff.1 hx; omega
        | some x => rw [hv i x hx]; rfl
      · rw [List.getElem?_eq_none (by omega), List.getElem?_eq_none (by simp; omega)]
        rfl
    refine ⟨by simp [valsOf], ?_⟩
    rw [← e]
    exact ho
/-- a node in memory, of this value -/
def NdV (d : Nv) (w : World) (v : Value) : Prop := ∃ a1 n1 c1 a2 n2 c2, v = .agg #[.string (str d.1.1.1.1.1.1.1.1.1), .int .i64 d.1.1.1.1.1.1.1.1.2, .int .i64 d.1.1.1.1.1.1.1.2, .int .i64 d.1.1.1.1.1.1.2, .int .i64 d.1.1.1.1.1.2, .int .i64 d.1.1.1.1.2, .int .i64 d.1.1.1.2, .int .i64 d.1.1.2, .slice a1 n1 c1, .slice a2 n2 c2] ∧ zRow w a1 n1 c1 d.1.2 ∧ zRow w a2 n2 c2 d.2
def nodeV (s : K.RS) (w : World) (v : Value) : Prop := NdV (nodeVal s) w v
set_option maxRecDepth 10000 in
set_option maxHeartbeats 4000000 in
theorem takeNode (wf w0 : World) (b1 b2 b3 b4 b5 b6 : Nat) (hF : NF bf.2 wf b1 b2 b3 b4 b5 b6) (q : Nat) (s : K.RS) (ha : Agree (Lo bf wf) wf w0) (hq : ¬ Lo bf wf q) (h : Rr w0 q s) (hz : s.fault = 0) :
    TakesF w0 q 125 (capN b1 b2 b3 b4 b5 b6) (nodeR s) (nodeV s) ShNd := by
  obtain ⟨m1, l2, m2, l3, m3, l4, m4, l5, m5, m6, o6, l6, k6, f1, f2, f3, f4, f5, f6⟩ := hF.ex
  have T0 := hide (takesText (Lo bf wf) wf m1 40 f1.cel (clM f1.cel f1.hm))
  have T1 := hide (takesNum (Lo bf wf) wf l2 m2 0 15 f2.ce0 f2.cel (clM f2.ce0 f2.hl) (clM f2.cel f2.hm))
  have T2 := hide (takesNum (Lo bf wf) wf l3 m3 1 100 f3.ce0 f3.cel (clM f3.ce0 f3.hl) (clM f3.cel f3.hm))
  have T3 := hide (takesNum (Lo bf wf) wf l4 m4 1 1099511627776 f4.ce0 f4.cel (clM f4.ce0 f4.hl) (clM f4.cel f4.hm))
  have T4 := hide (takesNum (Lo bf wf) wf l5 m5 0 1099511627776 f5.ce0 f5.cel (clM f5.ce0 f5.hl) (clM f5.cel f5.hm))
  have T8 := hide (takes_L f6)
  have HC : Hid (∀ W, Agree (Lo bf wf) wf W → ((W.cell? ⟨b1, 0, none⟩ = some ((fS m1)[0]!) ∧ W.cell? ⟨b1, 1, none⟩ = some ((fS m1)[1]!)) ∧ (W.cell? ⟨b2, 0, none⟩ = some ((fI l2 m2)[0]!) ∧ W.cell? ⟨b2, 1, none⟩ = some ((fI l2 m2)[1]!)) ∧ (W.cell? ⟨b3, 0, none⟩ = some ((fI l3 m3)[0]!) ∧ W.cell? ⟨b3, 1, none⟩ = some ((fI l3 m3)[1]!)) ∧ (W.cell? ⟨b4, 0, none⟩ = some ((fI l4 m4)[0]!) ∧ W.cell? ⟨b4, 1, none⟩ = some ((fI l4 m4)[1]!)) ∧ (W.cell? ⟨b5, 0, none⟩ = some ((fI l5 m5)[0]!) ∧ W.cell? ⟨b5, 1, none⟩ = some ((fI l5 m5)[1]!)) ∧ (W.cell? ⟨b6, 0, none⟩ = some ((fL m6 o6)[0]!) ∧ W.cell? ⟨b6, 1, none⟩ = some ((fL m6 o6)[1]!)))) := fun W ha => ⟨lo_cells ha f1.blk f1.hb, lo_cells ha f2.blk f2.hb, lo_cells ha f3.blk f3.hb, lo_cells ha f4.blk f4.hb, lo_cells ha f5.blk f5.hb, lo_cells ha f6.blk f6.hb⟩
  have HAG : Hid (∀ W, Keep (fun k => k = q) w0 W → Agree (Lo bf wf) wf W) := fun W k => ha.keep k fun j hj e => hq (e ▸ hj)
  have HQ := hide hq
  have HQ0 := hide h.lt
  have hba := ((Below.refl w0.heap.size w0).alloc (Nat.le_refl _) (.cells #[.string ⟨#[]⟩, .int .i64 0, .int .i64 0, .int .i64 0, .int .i64 0, .int .i64 0, .int .i64 0, .int .i64 0, .slice none 0 0, .slice none 0 0] 57)).alloc (by simp) (.cells #[.string ⟨#[]⟩, .int .i64 0, .int .i64 0, .int .i64 0, .int .i64 0, .int .i64 0, .int .i64 0, .int .i64 0, .slice none 0 0, .slice none 0 0] 57)
  obtain ⟨hbe, hbx⟩ := blk2 w0 (.cells #[.string ⟨#[]⟩, .int .i64 0, .int .i64 0, .int .i64 0, .int .i64 0, .int .i64 0, .int .i64 0, .int .i64 0, .slice none 0 0, .slice none 0 0] 57) (.cells #[.string ⟨#[]⟩, .int .i64 0, .int .i64 0, .int .i64 0, .int .i64 0, .int .i64 0, .int .i64 0, .int .i64 0, .slice none 0 0, .slice none 0 0] 57)
  have HE0 := hide hbe
  have HX0 := hide hbx
  have HR0 := hide (h.below hba)
  have HK0 := hide (Keep.ofBelow (S := fun k => k = q) hba (Nat.le_refl _))
  have HZ := hide hz
  have HIZ : Hid ((Tryz.prog.info? 57).map (·.size) = some (#[.string ⟨#[]⟩, .int .i64 0, .int .i64 0, .int .i64 0, .int .i64 0, .int .i64 0, .int .i64 0, .int .i64 0, .slice none 0 0, .slice none 0 0] : Array Value).size) := sizeNd
  clear ha hq h hba hbe hbx f1 f2 f3 f4 f5 f6 hF hz
  unfold TakesF
  show Calls Tryz.prog 125 #[.pointer (some ⟨q, 0, none⟩), .pointer (some ⟨b1, 0, none⟩), .pointer (some ⟨b2, 0, none⟩), .pointer (some ⟨b3, 0, none⟩), .pointer (some ⟨b4, 0, none⟩), .pointer (some ⟨b5, 0, none⟩), .pointer (some ⟨b6, 0, none⟩)] w0 _
  go_enter Tryz.func125, Tryz.ntmps125
  go_upto_region 2 with fail
  change Code.wp _ _ _ _ ((w0.alloc (.cells #[.string ⟨#[]⟩, .int .i64 0, .int .i64 0, .int .i64 0, .int .i64 0, .int .i64 0, .int .i64 0, .int .i64 0, .slice none 0 0, .slice none 0 0] 57)).alloc (.cells #[.string ⟨#[]⟩, .int .i64 0, .int .i64 0, .int .i64 0, .int .i64 0, .int .i64 0, .int .i64 0, .int .i64 0, .slice none 0 0, .slice none 0 0] 57))
  generalize (w0.alloc (.cells #[.string ⟨#[]⟩, .int .i64 0, .int .i64 0, .int .i64 0, .int .i64 0, .int .i64 0, .int .i64 0, .int .i64 0, .slice none 0 0, .slice none 0 0] 57)).alloc (.cells #[.string ⟨#[]⟩, .int .i64 0, .int .i64 0, .int .i64 0, .int .i64 0, .int .i64 0, .int .i64 0, .int .i64 0, .slice none 0 0, .slice none 0 0] 57) = W0 at *
  generalize hbz : w0.heap.size = bz at *
  have HBZ := hide hbz
  clear hbz
  obtain ⟨s0, hs0⟩ : ∃ x, s = x := ⟨_, rfl⟩
  have HS0 := hide hs0
  rw [hs0] at HR0
  clear hs0
  have hc := (HC.out W0 (HAG.out _ HK0.out)).1
  have c0 : W0.cell? ⟨b1, 0, none⟩ = some (.func (.func 155) #[] #[.pointer (some ⟨m1, 0, none⟩)]) := hc.1
  have c1 : W0.cell? ⟨b1, 1, none⟩ = some (.func (.func 157) #[] #[.pointer (some ⟨m1, 0, none⟩)]) := hc.2
  have C0 : Hid (Calls Tryz.prog 61 #[.agg #[.func (.func 155) #[] #[.pointer (some ⟨m1, 0, none⟩)], .func (.func 157) #[] #[.pointer (some ⟨m1, 0, none⟩)]], .pointer (some ⟨q, 0, none⟩)] W0 (Took q (takeR (rowR 40) s0) (vS 40 s0) (.string ⟨#[]⟩) W0)) := ftakeS (HAG.out _ HK0.out) HQ.out HR0.out T0.out ((stable_S (T := 57) 40 _).stable) ent_takeText
  clear hc
  go_upto_region 3 with (go_at_call 61; refine C0.out.mono ?_; rintro e V0 ⟨v, rfl, hr, hk, hv, hn⟩; obtain ⟨x0, rfl, hx⟩ := sh_S hv hn; have HXv := hide (hk.blk HX0.out (ne_rd HR0.out HX0.out)); have HEv := hide (hk.blk HE0.out (ne_rd HR0.out HE0.out)); have HRv := hide hr; have HKv := hide (HK0.out.more hk); have HF0 := hide hx; have d0 : V0.cell? ⟨bz + 1, 0, none⟩ = some (.string ⟨#[]⟩) := cell_blk HXv.out 0 rfl; have d1 := frozen_blk HXv.out 0; clear hr hk hv hn hx c0 c1 C0 HX0 HE0 HR0 HK0)
  have kx := keep_cell V0 (bz + 1) 0 (.string x0)
  have HX1 : Hid ((V0.setCell ⟨bz + 1, 0, none⟩ (.string x0)).heap[bz + 1]? = some (.cells #[.string x0, .int .i64 0, .int .i64 0, .int .i64 0, .int .i64 0, .int .i64 0, .int .i64 0, .int .i64 0, .slice none 0 0, .slice none 0 0] 57 (0, 0))) := (set_blk HXv.out 0 _).trans rfl
  have HE1 := hide (kx.blk HEv.out (by show ¬ _ = _; omega))
  have HR1 := hide (HRv.out.stay kx fun j hj e => by have := HQ0.out; have e : j = _ := e; omega)
  have HK1 := hide (HKv.out.trans kx fun j e => .inr (by have := HBZ.out; have e : j = _ := e; omega))
  clear kx HXv HEv HRv HKv d0 d1
  generalize V0.setCell ⟨bz + 1, 0, none⟩ (.string x0) = W1 at *
  obtain ⟨s1, hs⟩ : ∃ x, takeR (rowR 40) s0 = x := ⟨_, rfl⟩
  have HS1 := hide hs
  rw [hs] at HR1 HF0
  clear hs
  have hc := (HC.out W1 (HAG.out _ HK1.out)).2.1
  have c0 : W1.cell? ⟨b2, 0, none⟩ = some (.func (.func 78) #[] #[.pointer (some ⟨l2, 0, none⟩), .pointer (some ⟨m2, 0, none⟩)]) := hc.1
  have c1 : W1.cell? ⟨b2, 1, none⟩ = some (.func (.func 81) #[] #[.pointer (some ⟨l2, 0, none⟩), .pointer (some ⟨m2, 0, none⟩)]) := hc.2
  have C1 : Hid (Calls Tryz.prog 48 #[.agg #[.func (.func 78) #[] #[.pointer (some ⟨l2, 0, none⟩), .pointer (some ⟨m2, 0, none⟩)], .func (.func 81) #[] #[.pointer (some ⟨l2, 0, none⟩), .pointer (some ⟨m2, 0, none⟩)]], .pointer (some ⟨q, 0, none⟩)] W1 (Took q (takeR (numR 0 15) s1) (vI s1) (.int .i64 0) W1)) := ftakeI (HAG.out _ HK1.out) HQ.out HR1.out T1.out ((stable_I (T := 57) _).stable) ent_takeNum
  clear hc
  go_upto_region 4 with (go_at_call 48; refine C1.out.mono ?_; rintro e V1 ⟨v, rfl, hr, hk, hv, hn⟩; obtain ⟨x1, rfl, hx⟩ := sh_I hv hn; have HXv := hide (hk.blk HX1.out (ne_rd HR1.out HX1.out)); have HEv := hide (hk.blk HE1.out (ne_rd HR1.out HE1.out)); have HRv := hide hr; have HKv := hide (HK1.out.more hk); have HF1 := hide hx; have d0 : V1.cell? ⟨bz + 1, 1, none⟩ = some (.int .i64 0) := cell_blk HXv.out 1 rfl; have d1 := frozen_blk HXv.out 1; clear hr hk hv hn hx c0 c1 C1 HX1 HE1 HR1 HK1)
  have kx := keep_cell V1 (bz + 1) 1 (.int .i64 x1)
  have HX2 : Hid ((V1.setCell ⟨bz + 1, 1, none⟩ (.int .i64 x1)).heap[bz + 1]? = some (.cells #[.string x0, .int .i64 x1, .int .i64 0, .int .i64 0, .int .i64 0, .int .i64 0, .int .i64 0, .int .i64 0, .slice none 0 0, .slice none 0 0] 57 (0, 0))) := (set_blk HXv.out 1 _).trans rfl
  have HE2 := hide (kx.blk HEv.out (by show ¬ _ = _; omega))
  have HR2 := hide (HRv.out.stay kx fun j hj e => by have := HQ0.out; have e : j = _ := e; omega)
  have HK2 := hide (HKv.out.trans kx fun j e => .inr (by have := HBZ.out; have e : j = _ := e; omega))
  clear kx HXv HEv HRv HKv d0 d1
  generalize V1.setCell ⟨bz + 1, 1, none⟩ (.int .i64 x1) = W2 at *
  obtain ⟨s2, hs⟩ : ∃ x, takeR (numR 0 15) s1 = x := ⟨_, rfl⟩
  have HS2 := hide hs
  rw [hs] at HR2 HF1
  clear hs
  have hc := (HC.out W2 (HAG.out _ HK2.out)).2.2.1
  have c0 : W2.cell? ⟨b3, 0, none⟩ = some (.func (.func 78) #[] #[.pointer (some ⟨l3, 0, none⟩), .pointer (some ⟨m3, 0, none⟩)]) := hc.1
  have c1 : W2.cell? ⟨b3, 1, none⟩ = some (.func (.func 81) #[] #[.pointer (some ⟨l3, 0, none⟩), .pointer (some ⟨m3, 0, none⟩)]) := hc.2
  have C2 : Hid (Calls Tryz.prog 48 #[.agg #[.func (.func 78) #[] #[.pointer (some ⟨l3, 0, none⟩), .pointer (some ⟨m3, 0, none⟩)], .func (.func 81) #[] #[.pointer (some ⟨l3, 0, none⟩), .pointer (some ⟨m3, 0, none⟩)]], .pointer (some ⟨q, 0, none⟩)] W2 (Took q (takeR (numR 1 100) s2) (vI s2) (.int .i64 0) W2)) := ftakeI (HAG.out _ HK2.out) HQ.out HR2.out T2.out ((stable_I (T := 57) _).stable) ent_takeNum
  clear hc
  go_upto_region 5 with (go_at_call 48; refine C2.out.mono ?_; rintro e V2 ⟨v, rfl, hr, hk, hv, hn⟩; obtain ⟨x2, rfl, hx⟩ := sh_I hv hn; have HXv := hide (hk.blk HX2.out (ne_rd HR2.out HX2.out)); have HEv := hide (hk.blk HE2.out (ne_rd HR2.out HE2.out)); have HRv := hide hr; have HKv := hide (HK2.out.more hk); have HF2 := hide hx; have d0 : V2.cell? ⟨bz + 1, 2, none⟩ = some (.int .i64 0) := cell_blk HXv.out 2 rfl; have d1 := frozen_blk HXv.out 2; clear hr hk hv hn hx c0 c1 C2 HX2 HE2 HR2 HK2)
  have kx := keep_cell V2 (bz + 1) 2 (.int .i64 x2)
  have HX3 : Hid ((V2.setCell ⟨bz + 1, 2, none⟩ (.int .i64 x2)).heap[bz + 1]? = some (.cells #[.string x0, .int .i64 x1, .int .i64 x2, .int .i64 0, .int .i64 0, .int .i64 0, .int .i64 0, .int .i64 0, .slice none 0 0, .slice none 0 0] 57 (0, 0))) := (set_blk HXv.out 2 _).trans rfl
  have HE3 := hide (kx.blk HEv.out (by show ¬ _ = _; omega))
  have HR3 := hide (HRv.out.stay kx fun j hj e => by have := HQ0.out; have e : j = _ := e; omega)
  have HK3 := hide (HKv.out.trans kx fun j e => .inr (by have := HBZ.out; have e : j = _ := e; omega))
  clear kx HXv HEv HRv HKv d0 d1
  generalize V2.setCell ⟨bz + 1, 2, none⟩ (.int .i64 x2) = W3 at *
  obtain ⟨s3, hs⟩ : ∃ x, takeR (numR 1 100) s2 = x := ⟨_, rfl⟩
  have HS3 := hide hs
  rw [hs] at HR3 HF2
  clear hs
  have hc := (HC.out W3 (HAG.out _ HK3.out)).2.2.2.1
  have c0 : W3.cell? ⟨b4, 0, none⟩ = some (.func (.func 78) #[] #[.pointer (some ⟨l4, 0, none⟩), .pointer (some ⟨m4, 0, none⟩)]) := hc.1
  have c1 : W3.cell? ⟨b4, 1, none⟩ = some (.func (.func 81) #[] #[.pointer (some ⟨l4, 0, none⟩), .pointer (some ⟨m4, 0, none⟩)]) := hc.2
  have C3 : Hid (Calls Tryz.prog 48 #[.agg #[.func (.func 78) #[] #[.pointer (some ⟨l4, 0, none⟩), .pointer (some ⟨m4, 0, none⟩)], .func (.func 81) #[] #[.pointer (some ⟨l4, 0, none⟩), .pointer (some ⟨m4, 0, none⟩)]], .pointer (some ⟨q, 0, none⟩)] W3 (Took q (takeR (numR 1 1099511627776) s3) (vI s3) (.int .i64 0) W3)) := ftakeI (HAG.out _ HK3.out) HQ.out HR3.out T3.out ((stable_I (T := 57) _).stable) ent_takeNum
  clear hc
  go_upto_region 6 with (go_at_call 48; refine C3.out.mono ?_; rintro e V3 ⟨v, rfl, hr, hk, hv, hn⟩; obtain ⟨x3, rfl, hx⟩ := sh_I hv hn; have HXv := hide (hk.blk HX3.out (ne_rd HR3.out HX3.out)); have HEv := hide (hk.blk HE3.out (ne_rd HR3.out HE3.out)); have HRv := hide hr; have HKv := hide (HK3.out.more hk); have HF3 := hide hx; have d0 : V3.cell? ⟨bz + 1, 3, none⟩ = some (.int .i64 0) := cell_blk HXv.out 3 rfl; have d1 := frozen_blk HXv.out 3; clear hr hk hv hn hx c0 c1 C3 HX3 HE3 HR3 HK3)
  have kx := keep_cell V3 (bz + 1) 3 (.int .i64 x3)
  have HX4 : Hid ((V3.setCell ⟨bz + 1, 3, none⟩ (.int .i64 x3)).heap[bz + 1]? = some (.cells #[.string x0, .int .i64 x1, .int .i64 x2, .int .i64 x3, .int .i64 0, .int .i64 0, .int .i64 0, .int .i64 0, .slice none 0 0, .slice none 0 0] 57 (0, 0))) := (set_blk HXv.out 3 _).trans rfl
  have HE4 := hide (kx.blk HEv.out (by show ¬ _ = _; omega))
  have HR4 := hide (HRv.out.stay kx fun j hj e => by have := HQ0.out; have e : j = _ := e; omega)
  have HK4 := hide (HKv.out.trans kx fun j e => .inr (by have := HBZ.out; have e : j = _ := e; omega))
  clear kx HXv HEv HRv HKv d0 d1
  generalize V3.setCell ⟨bz + 1, 3, none⟩ (.int .i64 x3) = W4 at *
  obtain ⟨s4, hs⟩ : ∃ x, takeR (numR 1 1099511627776) s3 = x := ⟨_, rfl⟩
  have HS4 := hide hs
  rw [hs] at HR4 HF3
  clear hs
  have hc := (HC.out W4 (HAG.out _ HK4.out)).2.2.2.2.1
  have c0 : W4.cell? ⟨b5, 0, none⟩ = some (.func (.func 78) #[] #[.pointer (some ⟨l5, 0, none⟩), .pointer (some ⟨m5, 0, none⟩)]) := hc.1
  have c1 : W4.cell? ⟨b5, 1, none⟩ = some (.func (.func 81) #[] #[.pointer (some ⟨l5, 0, none⟩), .pointer (some ⟨m5, 0, none⟩)]) := hc.2
  have C4 : Hid (Calls Tryz.prog 48 #[.agg #[.func (.func 78) #[] #[.pointer (some ⟨l5, 0, none⟩), .pointer (some ⟨m5, 0, none⟩)], .func (.func 81) #[] #[.pointer (some ⟨l5, 0, none⟩), .pointer (some ⟨m5, 0, none⟩)]], .pointer (some ⟨q, 0, none⟩)] W4 (Took q (takeR (numR 0 1099511627776) s4) (vI s4) (.int .i64 0) W4)) := ftakeI (HAG.out _ HK4.out) HQ.out HR4.out T4.out ((stable_I (T := 57) _).stable) ent_takeNum
  clear hc
  go_upto_region 7 with (go_at_call 48; refine C4.out.mono ?_; rintro e V4 ⟨v, rfl, hr, hk, hv, hn⟩; obtain ⟨x4, rfl, hx⟩ := sh_I hv hn; have HXv := hide (hk.blk HX4.out (ne_rd HR4.out HX4.out)); have HEv := hide (hk.blk HE4.out (ne_rd HR4.out HE4.out)); have HRv := hide hr; have HKv := hide (HK4.out.more hk); have HF4 := hide hx; have d0 : V4.cell? ⟨bz + 1, 4, none⟩ = some (.int .i64 0) := cell_blk HXv.out 4 rfl; have d1 := frozen_blk HXv.out 4; clear hr hk hv hn hx c0 c1 C4 HX4 HE4 HR4 HK4)
  have kx := keep_cell V4 (bz + 1) 4 (.int .i64 x4)
  have HX5 : Hid ((V4.setCell ⟨bz + 1, 4, none⟩ (.int .i64 x4)).heap[bz + 1]? = some (.cells #[.string x0, .int .i64 x1, .int .i64 x2, .int .i64 x3, .int .i64 x4, .int .i64 0, .int .i64 0, .int .i64 0, .slice none 0 0, .slice none 0 0] 57 (0, 0))) := (set_blk HXv.out 4 _).trans rfl
  have HE5 := hide (kx.blk HEv.out (by show ¬ _ = _; omega))
  have HR5 := hide (HRv.out.stay kx fun j hj e => by have := HQ0.out; have e : j = _ := e; omega)
  have HK5 := hide (HKv.out.trans kx fun j e => .inr (by have := HBZ.out; have e : j = _ := e; omega))
  clear kx HXv HEv HRv HKv d0 d1
  generalize V4.setCell ⟨bz + 1, 4, none⟩ (.int .i64 x4) = W5 at *
  obtain ⟨s5, hs⟩ : ∃ x, takeR (numR 0 1099511627776) s4 = x := ⟨_, rfl⟩
  have HS5 := hide hs
  rw [hs] at HR5 HF4
  clear hs
  have hc := (HC.out W5 (HAG.out _ HK5.out)).2.2.2.1
  have c0 : W5.cell? ⟨b4, 0, none⟩ = some (.func (.func 78) #[] #[.pointer (some ⟨l4, 0, none⟩), .pointer (some ⟨m4, 0, none⟩)]) := hc.1
  have c1 : W5.cell? ⟨b4, 1, none⟩ = some (.func (.func 81) #[] #[.pointer (some ⟨l4, 0, none⟩), .pointer (some ⟨m4, 0, none⟩)]) := hc.2
  have C5 : Hid (Calls Tryz.prog 48 #[.agg #[.func (.func 78) #[] #[.pointer (some ⟨l4, 0, none⟩), .pointer (some ⟨m4, 0, none⟩)], .func (.func 81) #[] #[.pointer (some ⟨l4, 0, none⟩), .pointer (some ⟨m4, 0, none⟩)]], .pointer (some ⟨q, 0, none⟩)] W5 (Took q (takeR (numR 1 1099511627776) s5) (vI s5) (.int .i64 0) W5)) := ftakeI (HAG.out _ HK5.out) HQ.out HR5.out T3.out ((stable_I (T := 57) _).stable) ent_takeNum
  clear hc
  go_upto_region 8 with (go_at_call 48; refine C5.out.mono ?_; rintro e V5 ⟨v, rfl, hr, hk, hv, hn⟩; obtain ⟨x5, rfl, hx⟩ := sh_I hv hn; have HXv := hide (hk.blk HX5.out (ne_rd HR5.out HX5.out)); have HEv := hide (hk.blk HE5.out (ne_rd HR5.out HE5.out)); have HRv := hide hr; have HKv := hide (HK5.out.more hk); have HF5 := hide hx; have d0 : V5.cell? ⟨bz + 1, 5, none⟩ = some (.int .i64 0) := cell_blk HXv.out 5 rfl; have d1 := frozen_blk HXv.out 5; clear hr hk hv hn hx c0 c1 C5 HX5 HE5 HR5 HK5)
  have kx := keep_cell V5 (bz + 1) 5 (.int .i64 x5)
  have HX6 : Hid ((V5.setCell ⟨bz + 1, 5, none⟩ (.int .i64 x5)).heap[bz + 1]? = some (.cells #[.string x0, .int .i64 x1, .int .i64 x2, .int .i64 x3, .int .i64 x4, .int .i64 x5, .int .i64 0, .int .i64 0, .slice none 0 0, .slice none 0 0] 57 (0, 0))) := (set_blk HXv.out 5 _).trans rfl
  have HE6 := hide (kx.blk HEv.out (by show ¬ _ = _; omega))
  have HR6 := hide (HRv.out.stay kx fun j hj e => by have := HQ0.out; have e : j = _ := e; omega)
  have HK6 := hide (HKv.out.trans kx fun j e => .inr (by have := HBZ.out; have e : j = _ := e; omega))
  clear kx HXv HEv HRv HKv d0 d1
  generalize V5.setCell ⟨bz + 1, 5, none⟩ (.int .i64 x5) = W6 at *
  obtain ⟨s6, hs⟩ : ∃ x, takeR (numR 1 1099511627776) s5 = x := ⟨_, rfl⟩
  have HS6 := hide hs
  rw [hs] at HR6 HF5
  clear hs
  have hc := (HC.out W6 (HAG.out _ HK6.out)).2.2.2.1
  have c0 : W6.cell? ⟨b4, 0, none⟩ = some (.func (.func 78) #[] #[.pointer (some ⟨l4, 0, none⟩), .pointer (some ⟨m4, 0, none⟩)]) := hc.1
  have c1 : W6.cell? ⟨b4, 1, none⟩ = some (.func (.func 81) #[] #[.pointer (some ⟨l4, 0, none⟩), .pointer (some ⟨m4, 0, none⟩)]) := hc.2
  have C6 : Hid (Calls Tryz.prog 48 #[.agg #[.func (.func 78) #[] #[.pointer (some ⟨l4, 0, none⟩), .pointer (some ⟨m4, 0, none⟩)], .func (.func 81) #[] #[.pointer (some ⟨l4, 0, none⟩), .pointer (some ⟨m4, 0, none⟩)]], .pointer (some ⟨q, 0, none⟩)] W6 (Took q (takeR (numR 1 1099511627776) s6) (vI s6) (.int .i64 0) W6)) := ftakeI (HAG.out _ HK6.out) HQ.out HR6.out T3.out ((stable_I (T := 57) _).stable) ent_takeNum
  clear hc
  go_upto_region 9 with (go_at_call 48; refine C6.out.mono ?_; rintro e V6 ⟨v, rfl, hr, hk, hv, hn⟩; obtain ⟨x6, rfl, hx⟩ := sh_I hv hn; have HXv := hide (hk.blk HX6.out (ne_rd HR6.out HX6.out)); have HEv := hide (hk.blk HE6.out (ne_rd HR6.out HE6.out)); have HRv := hide hr; have HKv := hide (HK6.out.more hk); have HF6 := hide hx; have d0 : V6.cell? ⟨bz + 1, 6, none⟩ = some (.int .i64 0) := cell_blk HXv.out 6 rfl; have d1 := frozen_blk HXv.out 6; clear hr hk hv hn hx c0 c1 C6 HX6 HE6 HR6 HK6)
  have kx := keep_cell V6 (bz + 1) 6 (.int .i64 x6)
  have HX7 : Hid ((V6.setCell ⟨bz + 1, 6, none⟩ (.int .i64 x6)).heap[bz + 1]? = some (.cells #[.string x0, .int .i64 x1, .int .i64 x2, .int .i64 x3, .int .i64 x4, .int .i64 x5, .int .i64 x6, .int .i64 0, .slice none 0 0, .slice none 0 0] 57 (0, 0))) := (set_blk HXv.out 6 _).trans rfl
  have HE7 := hide (kx.blk HEv.out (by show ¬ _ = _; omega))
  have HR7 := hide (HRv.out.stay kx fun j hj e => by have := HQ0.out; have e : j = _ := e; omega)
  have HK7 := hide (HKv.out.trans kx fun j e => .inr (by have := HBZ.out; have e : j = _ := e; omega))
  clear kx HXv HEv HRv HKv d0 d1
  generalize V6.setCell ⟨bz + 1, 6, none⟩ (.int .i64 x6) = W7 at *
  obtain ⟨s7, hs⟩ : ∃ x, takeR (numR 1 1099511627776) s6 = x := ⟨_, rfl⟩
  have HS7 := hide hs
  rw [hs] at HR7 HF6
  clear hs
  have hc := (HC.out W7 (HAG.out _ HK7.out)).2.2.2.2.1
  have c0 : W7.cell? ⟨b5, 0, none⟩ = some (.func (.func 78) #[] #[.pointer (some ⟨l5, 0, none⟩), .pointer (some ⟨m5, 0, none⟩)]) := hc.1
  have c1 : W7.cell? ⟨b5, 1, none⟩ = some (.func (.func 81) #[] #[.pointer (some ⟨l5, 0, none⟩), .pointer (some ⟨m5, 0, none⟩)]) := hc.2
  have C7 : Hid (Calls Tryz.prog 48 #[.agg #[.func (.func 78) #[] #[.pointer (some ⟨l5, 0, none⟩), .pointer (some ⟨m5, 0, none⟩)], .func (.func 81) #[] #[.pointer (some ⟨l5, 0, none⟩), .pointer (some ⟨m5, 0, none⟩)]], .pointer (some ⟨q, 0, none⟩)] W7 (Took q (takeR (numR 0 1099511627776) s7) (vI s7) (.int .i64 0) W7)) := ftakeI (HAG.out _ HK7.out) HQ.out HR7.out T4.out ((stable_I (T := 57) _).stable) ent_takeNum
  clear hc
  go_upto_region 10 with (go_at_call 48; refine C7.out.mono ?_; rintro e V7 ⟨v, rfl, hr, hk, hv, hn⟩; obtain ⟨x7, rfl, hx⟩ := sh_I hv hn; have HXv := hide (hk.blk HX7.out (ne_rd HR7.out HX7.out)); have HEv := hide (hk.blk HE7.out (ne_rd HR7.out HE7.out)); have HRv := hide hr; have HKv := hide (HK7.out.more hk); have HF7 := hide hx; have d0 : V7.cell? ⟨bz + 1, 7, none⟩ = some (.int .i64 0) := cell_blk HXv.out 7 rfl; have d1 := frozen_blk HXv.out 7; clear hr hk hv hn hx c0 c1 C7 HX7 HE7 HR7 HK7)
  have kx := keep_cell V7 (bz + 1) 7 (.int .i64 x7)
  have HX8 : Hid ((V7.setCell ⟨bz + 1, 7, none⟩ (.int .i64 x7)).heap[bz + 1]? = some (.cells #[.string x0, .int .i64 x1, .int .i64 x2, .int .i64 x3, .int .i64 x4, .int .i64 x5, .int .i64 x6, .int .i64 x7, .slice none 0 0, .slice none 0 0] 57 (0, 0))) := (set_blk HXv.out 7 _).trans rfl
  have HE8 := hide (kx.blk HEv.out (by show ¬ _ = _; omega))
  have HR8 := hide (HRv.out.stay kx fun j hj e => by have := HQ0.out; have e : j = _ := e; omega)
  have HK8 := hide (HKv.out.trans kx fun j e => .inr (by have := HBZ.out; have e : j = _ := e; omega))
  clear kx HXv HEv HRv HKv d0 d1
  generalize V7.setCell ⟨bz + 1, 7, none⟩ (.int .i64 x7) = W8 at *
  obtain ⟨s8, hs⟩ : ∃ x, takeR (numR 0 1099511627776) s7 = x := ⟨_, rfl⟩
  have HS8 := hide hs
  rw [hs] at HR8 HF7
  clear hs
  have hc := (HC.out W8 (HAG.out _ HK8.out)).2.2.2.2.2
  have c0 : W8.cell? ⟨b6, 0, none⟩ = some (.func (.func 162) #[] #[.pointer (some ⟨m6, 0, none⟩), .pointer (some ⟨o6, 0, none⟩)]) := hc.1
  have c1 : W8.cell? ⟨b6, 1, none⟩ = some (.func (.func 164) #[] #[.pointer (some ⟨m6, 0, none⟩), .pointer (some ⟨o6, 0, none⟩)]) := hc.2
  have C8 : Hid (Calls Tryz.prog 126 #[.agg #[.func (.func 162) #[] #[.pointer (some ⟨m6, 0, none⟩), .pointer (some ⟨o6, 0, none⟩)], .func (.func 164) #[] #[.pointer (some ⟨m6, 0, none⟩), .pointer (some ⟨o6, 0, none⟩)]], .pointer (some ⟨q, 0, none⟩)] W8 (Took q (takeR (listR 64 (numR 0 63)) s8) (vL s8) (.slice none 0 0) W8)) := ftakeLi (HAG.out _ HK8.out) HQ.out HR8.out T8.out ((stable_L (T := 57) (by decide) _).stable) ent_takeListI
  clear hc
  go_upto_region 11 with (go_at_call 126; refine C8.out.mono ?_; rintro e V8 ⟨v, rfl, hr, hk, hv, hn⟩; obtain ⟨x8, n8, c8, rfl, hx⟩ := sh_L hv hn; have HXv := hide (hk.blk HX8.out (ne_rd HR8.out HX8.out)); have HEv := hide (hk.blk HE8.out (ne_rd HR8.out HE8.out)); have HRv := hide hr; have HKv := hide (HK8.out.more hk); have HF8 := hide hx; have d0 : V8.cell? ⟨bz + 1, 8, none⟩ = some (.slice none 0 0) := cell_blk HXv.out 8 rfl; have d1 := frozen_blk HXv.out 8; clear hr hk hv hn hx c0 c1 C8 HX8 HE8 HR8 HK8)
  have kx := keep_cell V8 (bz + 1) 8 (.slice x8 n8 c8)
  have HX9 : Hid ((V8.setCell ⟨bz + 1, 8, none⟩ (.slice x8 n8 c8)).heap[bz + 1]? = some (.cells #[.string x0, .int .i64 x1, .int .i64 x2, .int .i64 x3, .int .i64 x4, .int .i64 x5, .int .i64 x6, .int .i64 x7, .slice x8 n8 c8, .slice none 0 0] 57 (0, 0))) := (set_blk HXv.out 8 _).trans rfl
  have HE9 := hide (kx.blk HEv.out (by show ¬ _ = _; omega))
  have HR9 := hide (HRv.out.stay kx fun j hj e => by have := HQ0.out; have e : j = _ := e; omega)
  have HK9 := hide (HKv.out.trans kx fun j e => .inr (by have := HBZ.out; have e : j = _ := e; omega))
  have HL8 : Hid ((takeR (listR 64 (numR 0 63)) s8).fault = 0 → vL s8 (V8.setCell ⟨bz + 1, 8, none⟩ (.slice x8 n8 c8)) (.slice x8 n8 c8)) := fun hz => stable_L (T := 57) (by decide) s8 _ _ _ _ (HF8.out hz) kx (fun j e => ⟨_, _, e ▸ HXv.out, .inr rfl⟩)
  clear kx HXv HEv HRv HKv d0 d1 HF8
  generalize V8.setCell ⟨bz + 1, 8, none⟩ (.slice x8 n8 c8) = W9 at *
  obtain ⟨s9, hs⟩ : ∃ x, takeR (listR 64 (numR 0 63)) s8 = x := ⟨_, rfl⟩
  have HS9 := hide hs
  rw [hs] at HR9 HL8
  clear hs
  have hc := (HC.out W9 (HAG.out _ HK9.out)).2.2.2.2.2
  have c0 : W9.cell? ⟨b6, 0, none⟩ = some (.func (.func 162) #[] #[.pointer (some ⟨m6, 0, none⟩), .pointer (some ⟨o6, 0, none⟩)]) := hc.1
  have c1 : W9.cell? ⟨b6, 1, none⟩ = some (.func (.func 164) #[] #[.pointer (some ⟨m6, 0, none⟩), .pointer (some ⟨o6, 0, none⟩)]) := hc.2
  have C9 : Hid (Calls Tryz.prog 126 #[.agg #[.func (.func 162) #[] #[.pointer (some ⟨m6, 0, none⟩), .pointer (some ⟨o6, 0, none⟩)], .func (.func 164) #[] #[.pointer (some ⟨m6, 0, none⟩), .pointer (some ⟨o6, 0, none⟩)]], .pointer (some ⟨q, 0, none⟩)] W9 (Took q (takeR (listR 64 (numR 0 63)) s9) (vL s9) (.slice none 0 0) W9)) := ftakeLi (HAG.out _ HK9.out) HQ.out HR9.out T8.out ((stable_L (T := 57) (by decide) _).stable) ent_takeListI
  clear hc
  go_upto_region 12 with (go_at_call 126; refine C9.out.mono ?_; rintro e V9 ⟨v, rfl, hr, hk, hv, hn⟩; obtain ⟨x9, n9, c9, rfl, hx⟩ := sh_L hv hn; have HXv := hide (hk.blk HX9.out (ne_rd HR9.out HX9.out)); have HEv := hide (hk.blk HE9.out (ne_rd HR9.out HE9.out)); have HRv := hide hr; have HKv := hide (HK9.out.more hk); have HL8a : Hid (s9.fault = 0 → vL s8 V9 (.slice x8 n8 c8)) := fun hz => stable_L (T := 57) (by decide) s8 _ _ _ _ (HL8.out hz) hk (rd_typ HR9.out); have HF9 := hide hx; have d0 : V9.cell? ⟨bz + 1, 9, none⟩ = some (.slice none 0 0) := cell_blk HXv.out 9 rfl; have d1 := frozen_blk HXv.out 9; clear hr hk hv hn hx c0 c1 C9 HX9 HE9 HR9 HK9 HL8)
  have kx := keep_cell V9 (bz + 1) 9 (.slice x9 n9 c9)
  have HX10 : Hid ((V9.setCell ⟨bz + 1, 9, none⟩ (.slice x9 n9 c9)).heap[bz + 1]? = some (.cells #[.string x0, .int .i64 x1, .int .i64 x2, .int .i64 x3, .int .i64 x4, .int .i64 x5, .int .i64 x6, .int .i64 x7, .slice x8 n8 c8, .slice x9 n9 c9] 57 (0, 0))) := (set_blk HXv.out 9 _).trans rfl
  have HE10 := hide (kx.blk HEv.out (by show ¬ _ = _; omega))
  have HR10 := hide (HRv.out.stay kx fun j hj e => by have := HQ0.out; have e : j = _ := e; omega)
  have HK10 := hide (HKv.out.trans kx fun j e => .inr (by have := HBZ.out; have e : j = _ := e; omega))
  have HL9 : Hid ((takeR (listR 64 (numR 0 63)) s9).fault = 0 → vL s9 (V9.setCell ⟨bz + 1, 9, none⟩ (.slice x9 n9 c9)) (.slice x9 n9 c9)) := fun hz => stable_L (T := 57) (by decide) s9 _ _ _ _ (HF9.out hz) kx (fun j e => ⟨_, _, e ▸ HXv.out, .inr rfl⟩)
  have HL8b : Hid (s9.fault = 0 → vL s8 (V9.setCell ⟨bz + 1, 9, none⟩ (.slice x9 n9 c9)) (.slice x8 n8 c8)) := fun hz => stable_L (T := 57) (by decide) s8 _ _ _ _ (HL8a.out hz) kx (fun j e => ⟨_, _, e ▸ HXv.out, .inr rfl⟩)
  clear kx HXv HEv HRv HKv d0 d1 HF9 HL8a
  generalize V9.setCell ⟨bz + 1, 9, none⟩ (.slice x9 n9 c9) = W10 at *
  obtain ⟨s10, hs⟩ : ∃ x, takeR (listR 64 (numR 0 63)) s9 = x := ⟨_, rfl⟩
  have HS10 := hide hs
  rw [hs] at HR10 HL9
  clear hs
  have HI : Hid ((Tryz.prog.info? 57).map (·.size) = some (#[.string x0, .int .i64 x1, .int .i64 x2, .int .i64 x3, .int .i64 x4, .int .i64 x5, .int .i64 x6, .int .i64 x7, .slice x8 n8 c8, .slice x9 n9 c9] : Array Value).size) := sizeNd
  have HO1 := hide (onesNd x0 x1 x2 x3 x4 x5 x6 x7 x8 n8 c8 x9 n9 c9)
  go_wp2_with (first
    | (refine wpList_load_row rfl 57 _ rfl (bz + 1) rfl 57 #[.string x0, .int .i64 x1, .int .i64 x2, .int .i64 x3, .int .i64 x4, .int .i64 x5, .int .i64 x6, .int .i64 x7, .slice x8 n8 c8, .slice x9 n9 c9] (0, 0) _ HX10.out Tryz.underlying57 rfl HI.out ?_)
    | (refine wpList_store_row rfl 57 _ _ rfl bz #[.string x0, .int .i64 x1, .int .i64 x2, .int .i64 x3, .int .i64 x4, .int .i64 x5, .int .i64 x6, .int .i64 x7, .slice x8 n8 c8, .slice x9 n9 c9] rfl rfl 57 _ HE10.out HI.out rfl HO1.out ?_))
  have HX := hide (setRow_heap _ bz _ #[.string x0, .int .i64 x1, .int .i64 x2, .int .i64 x3, .int .i64 x4, .int .i64 x5, .int .i64 x6, .int .i64 x7, .slice x8 n8 c8, .slice x9 n9 c9] _ _ HE10.out)
  have HK := hide (keep_row W10 bz #[.string x0, .int .i64 x1, .int .i64 x2, .int .i64 x3, .int .i64 x4, .int .i64 x5, .int .i64 x6, .int .i64 x7, .slice x8 n8 c8, .slice x9 n9 c9])
  have hN : nodeR s = s10 := by
    have e1 : Rn1 s = s1 := by rw [← HS1.out, ← HS0.out]; unfold takeR; rw [if_pos HZ.out]; rfl
    have e2 : Rn2 s = s2 := by rw [← HS2.out, ← e1]; rfl
    have e3 : Rn3 s = s3 := by rw [← HS3.out, ← e2]; rfl
    have e4 : Rn4 s = s4 := by rw [← HS4.out, ← e3]; rfl
    have e5 : Rn5 s = s5 := by rw [← HS5.out, ← e4]; rfl
    have e6 : Rn6 s = s6 := by rw [← HS6.out, ← e5]; rfl
    have e7 : Rn7 s = s7 := by rw [← HS7.out, ← e6]; rfl
    have e8 : Rn8 s = s8 := by rw [← HS8.out, ← e7]; rfl
    have e9 : Rn9 s = s9 := by rw [← HS9.out, ← e8]; rfl
    rw [← HS10.out, ← e9]; rfl
  rw [hN]
  refine bodyPost_ret (resNd rfl _ _ bz _ rfl rfl HX.out) rfl ⟨HK10.out.trans HK.out (fun i e => .inr (by have := HBZ.out; have e : i = _ := e; omega)), _, rfl, ⟨_, _, _, _, _, _, _, _, _, _, _, _, _, _, rfl⟩, HR10.out.stay HK.out (fun j hj e => by have := HQ0.out; have := HBZ.out; have e : j = _ := e; omega), fun hz => ?_⟩
  have z9 : s9.fault = 0 := tk_ok (by rw [HS10.out]; exact hz)
  have z8 : s8.fault = 0 := tk_ok (by rw [HS9.out]; exact z9)
  have z7 : s7.fault = 0 := tk_ok (by rw [HS8.out]; exact z8)
  have z6 : s6.fault = 0 := tk_ok (by rw [HS7.out]; exact z7)
  have z5 : s5.fault = 0 := tk_ok (by rw [HS6.out]; exact z6)
  have z4 : s4.fault = 0 := tk_ok (by rw [HS5.out]; exact z5)
  have z3 : s3.fault = 0 := tk_ok (by rw [HS4.out]; exact z4)
  have z2 : s2.fault = 0 := tk_ok (by rw [HS3.out]; exact z3)
  have z1 : s1.fault = 0 := tk_ok (by rw [HS2.out]; exact z2)
  have e1 : Rn1 s = s1 := by rw [← HS1.out, ← HS0.out]; unfold takeR; rw [if_pos HZ.out]; rfl
  have e2 : Rn2 s = s2 := by rw [← HS2.out, ← e1]; rfl
  have e3 : Rn3 s = s3 := by rw [← HS3.out, ← e2]; rfl
  have e4 : Rn4 s = s4 := by rw [← HS4.out, ← e3]; rfl
  have e5 : Rn5 s = s5 := by rw [← HS5.out, ← e4]; rfl
  have e6 : Rn6 s = s6 := by rw [← HS6.out, ← e5]; rfl
  have e7 : Rn7 s = s7 := by rw [← HS7.out, ← e6]; rfl
  have e8 : Rn8 s = s8 := by rw [← HS8.out, ← e7]; rfl
  have e9 : Rn9 s = s9 := by rw [← HS9.out, ← e8]; rfl
  have t8 := vL_row (stable_L (T := 57) (by decide) s8 _ _ _ _ (HL8b.out z9) HK.out (fun j e => ⟨_, _, e ▸ HE10.out, .inr rfl⟩))
  have t9 := vL_row (stable_L (T := 57) (by decide) s9 _ _ _ _ (HL9.out hz) HK.out (fun j e => ⟨_, _, e ▸ HE10.out, .inr rfl⟩))
  refine ⟨x8, n8, c8, x9, n9, c9, ?_, ?_, ?_⟩
  · show Value.agg _ = Value.agg #[.string (str (rowV 40 s)), .int .i64 (iV (Rn1 s)), .int .i64 (iV (Rn2 s)), .int .i64 (iV (Rn3 s)), .int .i64 (iV (Rn4 s)), .int .i64 (iV (Rn5 s)), .int .i64 (iV (Rn6 s)), .int .i64 (iV (Rn7 s)), .slice x8 n8 c8, .slice x9 n9 c9]
    rw [e1, e2, e3, e4, e5, e6, e7, HF0.out z1, HF1.out z2, HF2.out z3, HF3.out z4, HF4.out z5, HF5.out z6, HF6.out z7, HF7.out z8, HS0.out]
    rfl
  · rw [nv_9, e8]
    exact t8
  · rw [nv_10, e9]
    exact t9
theorem ent_takeNode (args : Array Value) (w : World) : (callFunc 125 args).run Tryz.prog w = .ok (.enter 125 args) w :=
  callFunc_enter Tryz.func125 (by kernel_rfl) (by kernel_rfl) args w
theorem takesNode (wf : World) (b1 b2 b3 b4 b5 b6 : Nat) (hF : NF bf.2 wf b1 b2 b3 b4 b5 b6) : TakesFG (Lo bf wf) wf 125 (capN b1 b2 b3 b4 b5 b6) nodeR nodeV ShNd :=
  fun q s w1 ha hq h hz => takeNode wf w1 b1 b2 b3 b4 b5 b6 hF q s ha hq h hz
end Cd
end Go.Proofs.YtbjcckfhfbjchaaGreat
