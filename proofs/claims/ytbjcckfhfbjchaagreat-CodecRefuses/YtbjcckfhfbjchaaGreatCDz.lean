import Derived.Test.YtbjcckfhfbjchaaGreatCDx
/- Codec: a plan put, a plan taken (its fields alone). -/
namespace Go.Proofs.YtbjcckfhfbjchaaGreat
namespace Cd
open Go.RowKit Go.Deep

variable {bf : Nat × Nat}
/-- a plan by value -/
abbrev Pv := (List Nat × Int) × List Nv
def planW (v : Pv) : K.WS → K.WS := seqW (seqW (textW 40 v.1.1) (numW 1 1099511627776 v.1.2)) (listW 64 (v.2.map nodeW))
def nvs (xs : List Gr.No) : List Nv := xs.map fun x => nv x.q x.nl x.al
def pv (nm : ByteArray) (dl : Int) (xs : List Gr.No) : Pv := ((sb nm, dl), nvs xs)
def POk (nm : ByteArray) (dl : Int) (xs : List Gr.No) : Prop := nm.size ≤ 140737488351232 ∧ dl ≤ 9223372036854775807 ∧ xs.length ≤ 16777216 ∧ ∀ x ∈ xs, NOk x.q x.nl x.al
theorem els_n {wf : World} {s : Option Addr × Nat × Nat} {xs : List Gr.No} (hw : bf.1 ≤ wf.heap.size) (h : Gr.RdP bf.1 wf s xs) (hn : xs.length ≤ 16777216) : ElsN (Lo bf wf) wf s.1 s.2.1 (xs.map (·.q)) := by
  obtain ⟨h1, h2, h3, h4⟩ := h
  refine ⟨by rw [List.length_map]; exact h1, by omega, ?_⟩
  rcases h3 with h3 | ⟨g, off, e, hg, h3⟩
  · exact .inl h3
  · refine .inr ⟨g, off, e, ⟨by omega, .inl hg⟩, fun i q hq j u hu => ?_⟩
    rw [List.getElem?_map] at hq
    cases hx : xs[i]? with
    | none => rw [hx] at hq; cases hq
    | some x =>
      rw [hx] at hq
      cases hq
      exact h3 i x hx j u hu
theorem puts_N {wf : World} {b m o c1 c2 c3 c4 c5 c6 : Nat} (hF : FN bf.2 wf b m o c1 c2 c3 c4 c5 c6) {s : Option Addr × Nat × Nat} {xs : List Gr.No} (hw : bf.1 ≤ wf.heap.size) (h : Gr.RdP bf.1 wf s xs) (hn : xs.length ≤ 16777216) (hok : ∀ x ∈ xs, NOk x.q x.nl x.al) :
    PutsG (Lo bf wf) wf 114 #[.pointer (some ⟨m, 0, none⟩), .pointer (some ⟨o, 0, none⟩)] (.slice s.1 s.2.1 s.2.2) (listW 64 ((nvs xs).map nodeW)) := by
  refine putsListNd (Lo bf wf) wf m o 64 _ _ _ _ s.1 s.2.1 s.2.2 (xs.map (·.q)) _ (els_n hw h hn) (by unfold nvs; rw [List.length_map, List.length_map]; exact h.1.symm) (fun i q f hq hf => ?_) ent_putNode (clM hF.cel hF.hm) (blM hF.obk hF.ho) hF.cel hF.obk
  unfold nvs at hf
  rw [List.map_map, List.getElem?_map] at hf
  rw [List.getElem?_map] at hq
  cases hx : xs[i]? with
  | none => rw [hx] at hq; cases hq
  | some x =>
    rw [hx] at hq hf
    simp only [Option.map_some, Option.some.injEq, Function.comp] at hq hf
    subst hq
    subst hf
    have hm := List.mem_of_getElem? hx
    exact putsNode wf c1 c2 c3 c4 c5 c6 hF.nf x.q x.nl x.al hw (h.2.2.2 x hm).1 (h.2.2.2 x hm).2 (hok x hm)
set_option maxRecDepth 10000 in
set_option maxHeartbeats 2000000 in
theorem putPlan (wf w0 : World) (b1 b2 b3 : Nat) (hF : PF bf.2 wf b1 b2 b3) (nm : ByteArray) (dl : Int) (x1 : Option Addr) (x2 x3 : Nat) (xs : List Gr.No) (hw : bf.1 ≤ wf.heap.size) (h1 : Gr.RdP bf.1 wf (x1, x2, x3) xs) (hok : POk nm dl xs) (p : Nat) (S : Nat → Prop) (ha : Agree (Lo bf wf) wf w0) (hd : ∀ k, Lo bf wf k → ¬ S k) (W : World) (s : K.WS) (h : WAt S w0 p s W) (hz : s.fault = 0) :
    Calls Tryz.prog 57 (#[.pointer (some ⟨p, 0, none⟩), .agg #[.string nm, .int .i64 dl, .slice x1 x2 x3]] ++ capP b1 b2 b3) W fun en w' => en = .returned (.tuple #[]) ∧ WAt S w0 p (planW (pv nm dl xs) s) w' := by
  obtain ⟨m1, l2, m2, m3, o3, c1, c2, c3, c4, c5, c6, f1, f2, f3⟩ := hF.ex
  obtain ⟨k0, k1, k2, k3⟩ := hok
  have P0 := hide (putsText (Lo bf wf) wf m1 40 nm k0 f1.cel (clM f1.cel f1.hm))
  have P1 := hide (putsNum (Lo bf wf) wf l2 m2 1 1099511627776 dl k1 f2.ce0 f2.cel (clM f2.ce0 f2.hl) (clM f2.cel f2.hm))
  have P2 := hide (puts_N f3 hw h1 k2 k3)
  have HC : Hid (∀ W, Agree (Lo bf wf) wf W → ((W.cell? ⟨b1, 0, none⟩ = some ((fS m1)[0]!) ∧ W.cell? ⟨b1, 1, none⟩ = some ((fS m1)[1]!)) ∧ (W.cell? ⟨b2, 0, none⟩ = some ((fI l2 m2)[0]!) ∧ W.cell? ⟨b2, 1, none⟩ = some ((fI l2 m2)[1]!)) ∧ (W.cell? ⟨b3, 0, none⟩ = some ((fN m3 o3)[0]!) ∧ W.cell? ⟨b3, 1, none⟩ = some ((fN m3 o3)[1]!)))) := fun W ha => ⟨lo_cells ha f1.blk f1.hb, lo_cells ha f2.blk f2.hb, lo_cells ha f3.blk f3.hb⟩
  have HA := hide ha
  have HD := hide hd
  have hba := (Below.refl W.heap.size W).alloc (Nat.le_refl _) (.cells #[.string nm, .int .i64 dl, .slice x1 x2 x3] 30)
  have HW0 := hide (h.below hba)
  have HX0 := hide (heap_alloc_new W (.cells #[.string nm, .int .i64 dl, .slice x1 x2 x3] 30))
  have HFN : Hid (seqW (seqW (textW 40 (sb nm)) (numW 1 1099511627776 dl)) (listW 64 ((nvs xs).map nodeW)) s = planW (pv nm dl xs) s) := rfl
  have HZ := hide hz
  generalize planW (pv nm dl xs) s = sE at *
  clear hw h ha hd hba f1 f2 f3 h1 k0 k1 k2 k3 hz hF
  show Calls Tryz.prog 57 #[.pointer (some ⟨p, 0, none⟩), .agg #[.string nm, .int .i64 dl, .slice x1 x2 x3], .pointer (some ⟨b1, 0, none⟩), .pointer (some ⟨b2, 0, none⟩), .pointer (some ⟨b3, 0, none⟩)] W _
  go_enter Tryz.func57, Tryz.ntmps57
  go_upto_region 1 with fail
  generalize W.alloc (.cells #[.string nm, .int .i64 dl, .slice x1 x2 x3] 30) = W0 at *
  generalize W.heap.size = bx at *
  have hc := (HC.out W0 (HA.out.keep HW0.out.keep HD.out)).1
  have c0 : W0.cell? ⟨b1, 0, none⟩ = some (.func (.func 155) #[] #[.pointer (some ⟨m1, 0, none⟩)]) := hc.1
  have c1 : W0.cell? ⟨b1, 1, none⟩ = some (.func (.func 157) #[] #[.pointer (some ⟨m1, 0, none⟩)]) := hc.2
  have d0 : W0.cell? ⟨bx, 0, none⟩ = some (.string nm) := cell_blk HX0.out 0 rfl
  have C0 := hide (fputS (fn2 := 157) (cap2 := #[.pointer (some ⟨m1, 0, none⟩)]) HA.out HD.out HW0.out P0.out ent_putText HX0.out (by decide) (by decide))
  clear hc P0
  go_upto_region 2 with (go_at_call 58; refine C0.out.mono ?_; rintro e W1 ⟨rfl, h, hx⟩; have HW1 := hide h; have HX1 := hide hx; clear h hx c0 c1 d0 C0 HW0 HX0)
  have hc := (HC.out W1 (HA.out.keep HW1.out.keep HD.out)).2.1
  have c0 : W1.cell? ⟨b2, 0, none⟩ = some (.func (.func 78) #[] #[.pointer (some ⟨l2, 0, none⟩), .pointer (some ⟨m2, 0, none⟩)]) := hc.1
  have c1 : W1.cell? ⟨b2, 1, none⟩ = some (.func (.func 81) #[] #[.pointer (some ⟨l2, 0, none⟩), .pointer (some ⟨m2, 0, none⟩)]) := hc.2
  have d0 : W1.cell? ⟨bx, 1, none⟩ = some (.int .i64 dl) := cell_blk HX1.out 1 rfl
  have C1 := hide (fputI (fn2 := 81) (cap2 := #[.pointer (some ⟨l2, 0, none⟩), .pointer (some ⟨m2, 0, none⟩)]) HA.out HD.out HW1.out P1.out ent_putNum HX1.out (by decide) (by decide))
  clear hc P1
  go_upto_region 3 with (go_at_call 46; refine C1.out.mono ?_; rintro e W2 ⟨rfl, h, hx⟩; have HW2 := hide h; have HX2 := hide hx; clear h hx c0 c1 d0 C1 HW1 HX1)
  have hc := (HC.out W2 (HA.out.keep HW2.out.keep HD.out)).2.2
  have c0 : W2.cell? ⟨b3, 0, none⟩ = some (.func (.func 114) #[] #[.pointer (some ⟨m3, 0, none⟩), .pointer (some ⟨o3, 0, none⟩)]) := hc.1
  have c1 : W2.cell? ⟨b3, 1, none⟩ = some (.func (.func 117) #[] #[.pointer (some ⟨m3, 0, none⟩), .pointer (some ⟨o3, 0, none⟩)]) := hc.2
  have d0 : W2.cell? ⟨bx, 2, none⟩ = some (.slice x1 x2 x3) := cell_blk HX2.out 2 rfl
  have C2 := hide (fputLn (fn2 := 117) (cap2 := #[.pointer (some ⟨m3, 0, none⟩), .pointer (some ⟨o3, 0, none⟩)]) HA.out HD.out HW2.out P2.out ent_putListNd HX2.out (by decide) (by decide))
  clear hc P2
  go_wp2_with (go_at_call 59; refine C2.out.mono ?_; rintro e W3 ⟨rfl, h, hx⟩; have HW3 := hide h; clear h hx c0 c1 d0 C2 HW2 HX2)
  go_end0
  refine ⟨rfl, ?_⟩
  have := HW3.out
  rw [putW_zero HZ.out] at this
  rw [← HFN.out]
  exact this
theorem ent_putPlan (args : Array Value) (w : World) : (callFunc 57 args).run Tryz.prog w = .ok (.enter 57 args) w :=
  callFunc_enter Tryz.func57 (by kernel_rfl) (by kernel_rfl) args w
theorem putsPlan (wf : World) (b1 b2 b3 : Nat) (hF : PF bf.2 wf b1 b2 b3) (nm : ByteArray) (dl : Int) (x1 : Option Addr) (x2 x3 : Nat) (xs : List Gr.No) (hw : bf.1 ≤ wf.heap.size) (h1 : Gr.RdP bf.1 wf (x1, x2, x3) xs) (hok : POk nm dl xs) :
    PutsG (Lo bf wf) wf 57 (capP b1 b2 b3) (.agg #[.string nm, .int .i64 dl, .slice x1 x2 x3]) (planW (pv nm dl xs)) :=
  fun p S w1 ha hd w2 s h hz => putPlan wf w1 b1 b2 b3 hF nm dl x1 x2 x3 xs hw h1 hok p S ha hd w2 s h hz
end Cd
end Go.Proofs.YtbjcckfhfbjchaaGreat

/- Codec: a plan taken (its fields alone). -/
namespace Go.Proofs.YtbjcckfhfbjchaaGreat
namespace Cd
open Go.RowKit Go.Deep

variable {bf : Nat × Nat}
theorem own_keepT {T : TypeId} {w1 w2 : World} {B es : Nat} {E : TypeId} {v : Value} {n : Nat} {xs : List Value} {S : Nat → Prop} (h : w1.ownsRow B E es v n xs) (hk : Keep S w1 w2) (hS : ∀ k, S k → ∃ cs t, w1.heap[k]? = some (.cells cs t (0, 0)) ∧ (t = 136 ∨ t = T)) (h1 : E ≠ 136) (h2 : E ≠ T) : w2.ownsRow B E es v n xs := by
  refine ⟨h.1, ?_⟩
  rcases h.2 with h' | ⟨g, cap, cur, rfl, hb, hg, rest⟩
  · exact .inl h'
  · refine .inr ⟨g, cap, cur, rfl, hb, hk.blk hg (fun hs => ?_), rest⟩
    obtain ⟨cs, t, hb, ht⟩ := hS g hs
    rw [hg] at hb
    simp only [Option.some.injEq, Obj.cells.injEq] at hb
    rcases ht with ht | ht
    · exact h1 (hb.2.1.trans ht)
    · exact h2 (hb.2.1.trans ht)
theorem stable_N {T : TypeId} (hT : 3 ≠ T) (d : Nv) : StableT T (NdV d) := by
  rintro w1 w2 v S ⟨a1, n1, c1, a2, n2, c2, e, ⟨k1, h1⟩, ⟨k2, h2⟩⟩ hk hS
  exact ⟨a1, n1, c1, a2, n2, c2, e, ⟨k1, own_keepT h1 hk hS (by decide) hT⟩, ⟨k2, own_keepT h2 hk hS (by decide) hT⟩⟩
theorem stable_n {T : TypeId} (hT : 3 ≠ T) (s : K.RS) : StableT T (nodeV s) := stable_N hT (nodeVal s)
/-- a row of nodes in memory, of these values -/
def NsV (ds : List Nv) (w : World) (v : Value) : Prop := ∃ qs : List Gr.Nd, qs.length = ds.length ∧ w.ownsRow 0 57 10 v ds.length (flat qs) ∧ ∀ (i : Nat) q d, qs[i]? = some q → ds[i]? = some d → NdV d w (.agg q.row.toArray)
theorem stable_Ns {T : TypeId} (hT : 3 ≠ T) (hN : 57 ≠ T) (ds : List Nv) : StableT T (NsV ds) := by
  rintro w1 w2 v S ⟨qs, hl, ho, hv⟩ hk hS
  exact ⟨qs, hl, own_keepT ho hk hS (by decide) hN, fun i q d hq hd => stable_N hT d _ _ _ _ (hv i q d hq hd) hk hS⟩
def nVs (s : K.RS) : List Nv := listVal 64 nodeR nodeVal s
def vN (s : K.RS) (w : World) (v : Value) : Prop := listVN 64 nodeR nodeV s w v
theorem vN_row {s : K.RS} {w : World} {v : Value} (h : vN s w v) : NsV (nVs s) w v := by
  unfold vN listVN at h
  unfold nVs listVal
  cases hc : cnt 64 (rest s) with
  | error e => rw [hc] at h; exact h.elim
  | ok r =>
    obtain ⟨k, z⟩ := r
    rw [hc] at h
    obtain ⟨qs, hl, ho, hv⟩ := h
    have hk : (valsOf nodeR nodeVal k (s.go z)).length = k := by simp [valsOf]
    refine ⟨qs, by rw [hk]; exact hl, by rw [hk]; exact ho, fun i q d hq hd => ?_⟩
    have hi : i < k := by rw [← hl]; exact (List.getElem?_eq_some_iff.1 hq).1
    unfold valsOf at hd
    rw [List.getElem?_map, List.getElem?_range hi] at hd
    simp only [Option.map_some, Option.some.injEq] at hd
    subst hd
    exact hv i q hq
theorem stable_vN {T : TypeId} (hT : 3 ≠ T) (hN : 57 ≠ T) (s : K.RS) : StableT T (vN s) := by
  intro w1 w2 v S h hk hS
  unfold vN listVN at h ⊢
  cases hc : cnt 64 (rest s) with
  | error e => rw [hc] at h; exact h.elim
  | ok r =>
    obtain ⟨k, z⟩ := r
    rw [hc] at h
    obtain ⟨qs, hl, ho, hv⟩ := h
    exact ⟨qs, hl, own_keepT ho hk hS (by decide) hN, fun i q hq => stable_n hT _ _ _ _ _ (hv i q hq) hk hS⟩
theorem vN_shape {s : K.RS} {w : World} {v : Value} (h : vN s w v) : ∃ y1 y2 y3, v = .slice y1 y2 y3 := by
  unfold vN listVN at h
  cases hc : cnt 64 (rest s) with
  | error e => rw [hc] at h; exact h.elim
  | ok r =>
    obtain ⟨k, z⟩ := r
    rw [hc] at h
    obtain ⟨qs, hl, ho, hv⟩ := h
    obtain ⟨a, c, e⟩ := ownsRow_shape ho
    exact ⟨_, _, _, e⟩
theorem sh_N {s' : K.RS} {w : World} {v : Value} {s : K.RS} (h : s'.fault = 0 → vN s w v) (hn : s'.fault ≠ 0 → v = .slice none 0 0) : ∃ a n c, v = .slice a n c ∧ (s'.fault = 0 → vN s w (.slice a n c)) := by
  by_cases hz : s'.fault = 0
  · obtain ⟨y1, y2, y3, e⟩ := vN_shape (h hz)
    refine ⟨y1, y2, y3, e, fun hz => ?_⟩
    rw [← e]
    exact h hz
  · exact ⟨_, _, _, hn hz, fun e => absurd e hz⟩
theorem takes_N {wf : World} {b m o c1 c2 c3 c4 c5 c6 : Nat} (hF : FN bf.2 wf b m o c1 c2 c3 c4 c5 c6) : TakesG (Lo bf wf) wf 117 #[.pointer (some ⟨m, 0, none⟩), .pointer (some ⟨o, 0, none⟩)] (listR 64 nodeR) vN :=
  takesListNd (Lo bf wf) wf m o 64 (by decide) _ _ _ _ nodeR nodeV (fun s => stable_n (by decide) s) (takesNode wf c1 c2 c3 c4 c5 c6 hF.nf) ent_takeNode (clM hF.cel hF.hm) (blM hF.obk hF.ho) hF.cel hF.obk
theorem rd_typP {w : World} {q : Nat} {s : K.RS} (h : Rr w q s) : ∀ k, k = q → ∃ cs t, w.heap[k]? = some (.cells cs t (0, 0)) ∧ (t = 136 ∨ t = 30) := fun k e => by
  obtain ⟨a0, c0, hb, _⟩ := h.ex
  subst e
  exact ⟨_, _, hb, .inl rfl⟩
theorem ne_rdP {w : World} {q : Nat} {s : K.RS} (h : Rr w q s) {b : Nat} {cs : Array Value} (hb : w.heap[b]? = some (.cells cs 30 (0, 0))) : ¬ b = q := box_ne h hb (by decide)
def Pn1 : K.RS → K.RS := rowR 40
def Pn2 : K.RS → K.RS := seqR Pn1 (numR 1 1099511627776)
def planR : K.RS → K.RS := seqR Pn2 (listR 64 nodeR)
def planVal (s : K.RS) : Pv := ((rowV 40 s, iV (Pn1 s)), nVs (Pn2 s))
theorem wr3 {A1 A2 A3 : Type} {R1 R2 R3 g2 g3 : K.RS → K.RS} {v1 : K.RS → A1} {v2 : K.RS → A2} {v3 : K.RS → A3} {f1 : A1 → K.WS → K.WS} {f2 : A2 → K.WS → K.WS} {f3 : A3 → K.WS → K.WS} (h1 : WR R1 v1 f1) (h2 : WR g2 v2 f2) (h3 : WR g3 v3 f3) (e2 : R2 = seqR R1 g2) (e3 : R3 = seqR R2 g3) :
    WR R3 (fun s => ((v1 s, v2 (R1 s)), v3 (R2 s))) (fun x => seqW (seqW (f1 x.1.1) (f2 x.1.2)) (f3 x.2)) := by
  subst e2 e3
  have t2 := wr_seq h1 h2
  have t3 := wr_seq t2 h3
  clear t2
  exact t3
theorem wNs : WR (listR 64 nodeR) nVs (fun ds => listW 64 (ds.map nodeW)) := by
  have h := wr_list wr_node 64
  have e : nVs = listVal 64 nodeR nodeVal := by funext s; simp only [nVs]
  rw [e]
  exact h
theorem wr_plan : WR planR planVal planW := by
  have h := wr3 (R1 := Pn1) (R2 := Pn2) (R3 := planR) (wr_text 40) (wI 1 1099511627776 (by decide)) wNs rfl rfl
  have e1 : planVal = fun s => ((rowV 40 s, iV (Pn1 s)), nVs (Pn2 s)) := by funext s; simp only [planVal]
  rw [e1]
  have e2 : planW = fun x => seqW (seqW (textW 40 x.1.1) (numW 1 1099511627776 x.1.2)) (listW 64 (x.2.map nodeW)) := by funext x; simp only [planW]
  rw [e2]
  exact h
theorem pv_3 (s : K.RS) : (planVal s).2 = nVs (Pn2 s) := by simp only [planVal]
/-- a plan in memory, of this value -/
def PlV (d : Pv) (w : World) (v : Value) : Prop := ∃ a n c, v = .agg #[.string (str d.1.1), .int .i64 d.1.2, .slice a n c] ∧ NsV d.2 w (.slice a n c)
def planV (s : K.RS) (w : World) (v : Value) : Prop := PlV (planVal s) w v
set_option maxRecDepth 10000 in
set_option maxHeartbeats 4000000 in
theorem takePlan (wf w0 : World) (b1 b2 b3 : Nat) (hF : PF bf.2 wf b1 b2 b3) (q : Nat) (s : K.RS) (ha : Agree (Lo bf wf) wf w0) (hq : ¬ Lo bf wf q) (h : Rr w0 q s) (hz : s.fault = 0) :
    TakesF w0 q 60 (capP b1 b2 b3) (planR s) (planV s) ShPn := by
  obtain ⟨m1, l2, m2, m3, o3, c1, c2, c3, c4, c5, c6, f1, f2, f3⟩ := hF.ex
  have T0 := hide (takesText (Lo bf wf) wf m1 40 f1.cel (clM f1.cel f1.hm))
  have T1 := hide (takesNum (Lo bf wf) wf l2 m2 1 1099511627776 f2.ce0 f2.cel (clM f2.ce0 f2.hl) (clM f2.cel f2.hm))
  have T2 := hide (takes_N f3)
  have HC : Hid (∀ W, Agree (Lo bf wf) wf W → ((W.cell? ⟨b1, 0, none⟩ = some ((fS m1)[0]!) ∧ W.cell? ⟨b1, 1, none⟩ = some ((fS m1)[1]!)) ∧ (W.cell? ⟨b2, 0, none⟩ = some ((fI l2 m2)[0]!) ∧ W.cell? ⟨b2, 1, none⟩ = some ((fI l2 m2)[1]!)) ∧ (W.cell? ⟨b3, 0, none⟩ = some ((fN m3 o3)[0]!) ∧ W.cell? ⟨b3, 1, none⟩ = some ((fN m3 o3)[1]!)))) := fun W ha => ⟨lo_cells ha f1.blk f1.hb, lo_cells ha f2.blk f2.hb, lo_cells ha f3.blk f3.hb⟩
  have HAG : Hid (∀ W, Keep (fun k => k = q) w0 W → Agree (Lo bf wf) wf W) := fun W k => ha.keep k fun j hj e => hq (e ▸ hj)
  have HQ := hide hq
  have HQ0 := hide h.lt
  have hba := ((Below.refl w0.heap.size w0).alloc (Nat.le_refl _) (.cells #[.string ⟨#[]⟩, .int .i64 0, .slice none 0 0] 30)).alloc (by simp) (.cells #[.string ⟨#[]⟩, .int .i64 0, .slice none 0 0] 30)
  obtain ⟨hbe, hbx⟩ := blk2 w0 (.cells #[.string ⟨#[]⟩, .int .i64 0, .slice none 0 0] 30) (.cells #[.string ⟨#[]⟩, .int .i64 0, .slice none 0 0] 30)
  have HE0 := hide hbe
  have HX0 := hide hbx
  have HR0 := hide (h.below hba)
  have HK0 := hide (Keep.ofBelow (S := fun k => k = q) hba (Nat.le_refl _))
  have HZ := hide hz
  clear ha hq h hba hbe hbx f1 f2 f3 hF hz
  unfold TakesF
  show Calls Tryz.prog 60 #[.pointer (some ⟨q, 0, none⟩), .pointer (some ⟨b1, 0, none⟩), .pointer (some ⟨b2, 0, none⟩), .pointer (some ⟨b3, 0, none⟩)] w0 _
  go_enter Tryz.func60, Tryz.ntmps60
  go_upto_region 2 with fail
  change Code.wp _ _ _ _ ((w0.alloc (.cells #[.string ⟨#[]⟩, .int .i64 0, .slice none 0 0] 30)).alloc (.cells #[.string ⟨#[]⟩, .int .i64 0, .slice none 0 0] 30))
  generalize (w0.alloc (.cells #[.string ⟨#[]⟩, .int .i64 0, .slice none 0 0] 30)).alloc (.cells #[.string ⟨#[]⟩, .int .i64 0, .slice none 0 0] 30) = W0 at *
  generalize hbz : w0.heap.size = bz at *
  have HBZ := hide hbz
  clear hbz
  obtain ⟨s0, hs0⟩ : ∃ x, s = x := ⟨_, rfl⟩
  have HS0 := hide hs0
  rw [hs0] at HR0
  clear hs0
  have hc := (HC.out W0 (HAG.out _ HK0.out)).1
  have d0 : W0.cell? ⟨b1, 0, none⟩ = some (.func (.func 155) #[] #[.pointer (some ⟨m1, 0, none⟩)]) := hc.1
  have d1 : W0.cell? ⟨b1, 1, none⟩ = some (.func (.func 157) #[] #[.pointer (some ⟨m1, 0, none⟩)]) := hc.2
  have C0 : Hid (Calls Tryz.prog 61 #[.agg #[.func (.func 155) #[] #[.pointer (some ⟨m1, 0, none⟩)], .func (.func 157) #[] #[.pointer (some ⟨m1, 0, none⟩)]], .pointer (some ⟨q, 0, none⟩)] W0 (Took q (takeR (rowR 40) s0) (vS 40 s0) (.string ⟨#[]⟩) W0)) := ftakeS (HAG.out _ HK0.out) HQ.out HR0.out T0.out (stable_S (T := 57) 40 _).stable ent_takeText
  clear hc
  go_upto_region 3 with (go_at_call 61; refine C0.out.mono ?_; rintro e V0 ⟨v, rfl, hr, hk, hv, hn⟩; obtain ⟨x0, rfl, hx⟩ := sh_S hv hn; have HXv := hide (hk.blk HX0.out (ne_rdP HR0.out HX0.out)); have HEv := hide (hk.blk HE0.out (ne_rdP HR0.out HE0.out)); have HRv := hide hr; have HKv := hide (HK0.out.more hk); have HF0 := hide hx; have z0 : V0.cell? ⟨bz + 1, 0, none⟩ = some (.string ⟨#[]⟩) := cell_blk HXv.out 0 rfl; have z1 := frozen_blk HXv.out 0; clear hr hk hv hn hx d0 d1 C0 HX0 HE0 HR0 HK0)
  have kx := keep_cell V0 (bz + 1) 0 (.string x0)
  have HX1 : Hid ((V0.setCell ⟨bz + 1, 0, none⟩ (.string x0)).heap[bz + 1]? = some (.cells #[.string x0, .int .i64 0, .slice none 0 0] 30 (0, 0))) := (set_blk HXv.out 0 _).trans rfl
  have HE1 := hide (kx.blk HEv.out (by show ¬ _ = _; omega))
  have HR1 := hide (HRv.out.stay kx fun j hj e => by have := HQ0.out; have e : j = _ := e; omega)
  have HK1 := hide (HKv.out.trans kx fun j e => .inr (by have := HBZ.out; have e : j = _ := e; omega))
  clear kx HXv HEv HRv HKv z0 z1
  generalize V0.setCell ⟨bz + 1, 0, none⟩ (.string x0) = W1 at *
  obtain ⟨s1, hs⟩ : ∃ x, takeR (rowR 40) s0 = x := ⟨_, rfl⟩
  have HS1 := hide hs
  rw [hs] at HR1 HF0
  clear hs
  have hc := (HC.out W1 (HAG.out _ HK1.out)).2.1
  have d0 : W1.cell? ⟨b2, 0, none⟩ = some (.func (.func 78) #[] #[.pointer (some ⟨l2, 0, none⟩), .pointer (some ⟨m2, 0, none⟩)]) := hc.1
  have d1 : W1.cell? ⟨b2, 1, none⟩ = some (.func (.func 81) #[] #[.pointer (some ⟨l2, 0, none⟩), .pointer (some ⟨m2, 0, none⟩)]) := hc.2
  have C1 : Hid (Calls Tryz.prog 48 #[.agg #[.func (.func 78) #[] #[.pointer (some ⟨l2, 0, none⟩), .pointer (some ⟨m2, 0, none⟩)], .func (.func 81) #[] #[.pointer (some ⟨l2, 0, none⟩), .pointer (some ⟨m2, 0, none⟩)]], .pointer (some ⟨q, 0, none⟩)] W1 (Took q (takeR (numR 1 1099511627776) s1) (vI s1) (.int .i64 0) W1)) := ftakeI (HAG.out _ HK1.out) HQ.out HR1.out T1.out (stable_I (T := 57) _).stable ent_takeNum
  clear hc
  go_upto_region 4 with (go_at_call 48; refine C1.out.mono ?_; rintro e V1 ⟨v, rfl, hr, hk, hv, hn⟩; obtain ⟨x1, rfl, hx⟩ := sh_I hv hn; have HXv := hide (hk.blk HX1.out (ne_rdP HR1.out HX1.out)); have HEv := hide (hk.blk HE1.out (ne_rdP HR1.out HE1.out)); have HRv := hide hr; have HKv := hide (HK1.out.more hk); have HF1 := hide hx; have z0 : V1.cell? ⟨bz + 1, 1, none⟩ = some (.int .i64 0) := cell_blk HXv.out 1 rfl; have z1 := frozen_blk HXv.out 1; clear hr hk hv hn hx d0 d1 C1 HX1 HE1 HR1 HK1)
  have kx := keep_cell V1 (bz + 1) 1 (.int .i64 x1)
  have HX2 : Hid ((V1.setCell ⟨bz + 1, 1, none⟩ (.int .i64 x1)).heap[bz + 1]? = some (.cells #[.string x0, .int .i64 x1, .slice none 0 0] 30 (0, 0))) := (set_blk HXv.out 1 _).trans rfl
  have HE2 := hide (kx.blk HEv.out (by show ¬ _ = _; omega))
  have HR2 := hide (HRv.out.stay kx fun j hj e => by have := HQ0.out; have e : j = _ := e; omega)
  have HK2 := hide (HKv.out.trans kx fun j e => .inr (by have := HBZ.out; have e : j = _ := e; omega))
  clear kx HXv HEv HRv HKv z0 z1
  generalize V1.setCell ⟨bz + 1, 1, none⟩ (.int .i64 x1) = W2 at *
  obtain ⟨s2, hs⟩ : ∃ x, takeR (numR 1 1099511627776) s1 = x := ⟨_, rfl⟩
  have HS2 := hide hs
  rw [hs] at HR2 HF1
  clear hs
  have hc := (HC.out W2 (HAG.out _ HK2.out)).2.2
  have d0 : W2.cell? ⟨b3, 0, none⟩ = some (.func (.func 114) #[] #[.pointer (some ⟨m3, 0, none⟩), .pointer (some ⟨o3, 0, none⟩)]) := hc.1
  have d1 : W2.cell? ⟨b3, 1, none⟩ = some (.func (.func 117) #[] #[.pointer (some ⟨m3, 0, none⟩), .pointer (some ⟨o3, 0, none⟩)]) := hc.2
  have C2 : Hid (Calls Tryz.prog 62 #[.agg #[.func (.func 114) #[] #[.pointer (some ⟨m3, 0, none⟩), .pointer (some ⟨o3, 0, none⟩)], .func (.func 117) #[] #[.pointer (some ⟨m3, 0, none⟩), .pointer (some ⟨o3, 0, none⟩)]], .pointer (some ⟨q, 0, none⟩)] W2 (Took q (takeR (listR 64 nodeR) s2) (vN s2) (.slice none 0 0) W2)) := ftakeLn (HAG.out _ HK2.out) HQ.out HR2.out T2.out (stable_vN (T := 30) (by decide) (by decide) _).stable ent_takeListNd
  clear hc
  go_upto_region 5 with (go_at_call 62; refine C2.out.mono ?_; rintro e V2 ⟨v, rfl, hr, hk, hv, hn⟩; obtain ⟨x2, n2, e2, rfl, hx⟩ := sh_N hv hn; have HXv := hide (hk.blk HX2.out (ne_rdP HR2.out HX2.out)); have HEv := hide (hk.blk HE2.out (ne_rdP HR2.out HE2.out)); have HRv := hide hr; have HKv := hide (HK2.out.more hk); have HF2 := hide hx; have z0 : V2.cell? ⟨bz + 1, 2, none⟩ = some (.slice none 0 0) := cell_blk HXv.out 2 rfl; have z1 := frozen_blk HXv.out 2; clear hr hk hv hn hx d0 d1 C2 HX2 HE2 HR2 HK2)
  have kx := keep_cell V2 (bz + 1) 2 (.slice x2 n2 e2)
  have HX3 : Hid ((V2.setCell ⟨bz + 1, 2, none⟩ (.slice x2 n2 e2)).heap[bz + 1]? = some (.cells #[.string x0, .int .i64 x1, .slice x2 n2 e2] 30 (0, 0))) := (set_blk HXv.out 2 _).trans rfl
  have HE3 := hide (kx.blk HEv.out (by show ¬ _ = _; omega))
  have HR3 := hide (HRv.out.stay kx fun j hj e => by have := HQ0.out; have e : j = _ := e; omega)
  have HK3 := hide (HKv.out.trans kx fun j e => .inr (by have := HBZ.out; have e : j = _ := e; omega))
  have HL2 : Hid ((takeR (listR 64 nodeR) s2).fault = 0 → vN s2 (V2.setCell ⟨bz + 1, 2, none⟩ (.slice x2 n2 e2)) (.slice x2 n2 e2)) := fun hz => stable_vN (T := 30) (by decide) (by decide) s2 _ _ _ _ (HF2.out hz) kx (fun j e => ⟨_, _, e ▸ HXv.out, .inr rfl⟩)
  clear kx HXv HEv HRv HKv z0 z1 HF2
  generalize V2.setCell ⟨bz + 1, 2, none⟩ (.slice x2 n2 e2) = W3 at *
  obtain ⟨s3, hs⟩ : ∃ x, takeR (listR 64 nodeR) s2 = x := ⟨_, rfl⟩
  have HS3 := hide hs
  rw [hs] at HR3 HL2
  clear hs
  have HI : Hid ((Tryz.prog.info? 30).map (·.size) = some (#[.string x0, .int .i64 x1, .slice x2 n2 e2] : Array Value).size) := sizePn
  have HO1 := hide (onesPn x0 x1 x2 n2 e2)
  go_wp2_with (first
    | (refine wpList_load_row rfl 30 _ rfl (bz + 1) rfl 30 #[.string x0, .int .i64 x1, .slice x2 n2 e2] (0, 0) _ HX3.out Tryz.underlying30 rfl HI.out ?_)
    | (refine wpList_store_row rfl 30 _ _ rfl bz #[.string x0, .int .i64 x1, .slice x2 n2 e2] rfl rfl 30 _ HE3.out HI.out rfl HO1.out ?_))
  have HX := hide (setRow_heap _ bz _ #[.string x0, .int .i64 x1, .slice x2 n2 e2] _ _ HE3.out)
  have HK := hide (keep_row W3 bz #[.string x0, .int .i64 x1, .slice x2 n2 e2])
  have e1 : Pn1 s = s1 := by rw [← HS1.out, ← HS0.out]; unfold takeR; rw [if_pos HZ.out]; rfl
  have e2' : Pn2 s = s2 := by rw [← HS2.out, ← e1]; rfl
  have hN : planR s = s3 := by rw [← HS3.out, ← e2']; rfl
  rw [hN]
  refine bodyPost_ret (resPn rfl _ _ bz _ rfl rfl HX.out) rfl ⟨HK3.out.trans HK.out (fun i e => .inr (by have := HBZ.out; have e : i = _ := e; omega)), _, rfl, ⟨_, _, _, _, _, rfl⟩, HR3.out.stay HK.out (fun j hj e => by have := HQ0.out; have := HBZ.out; have e : j = _ := e; omega), fun hz => ?_⟩
  have z2 : s2.fault = 0 := tk_ok (by rw [HS3.out]; exact hz)
  have z1 : s1.fault = 0 := tk_ok (by rw [HS2.out]; exact z2)
  have t2 := vN_row (stable_vN (T := 30) (by decide) (by decide) s2 _ _ _ _ (HL2.out hz) HK.out (fun j e => ⟨_, _, e ▸ HE3.out, .inr rfl⟩))
  refine ⟨x2, n2, e2, ?_, ?_⟩
  · show Value.agg _ = Value.agg #[.string (str (rowV 40 s)), .int .i64 (iV (Pn1 s)), .slice x2 n2 e2]
    rw [e1, HF0.out z1, HF1.out z2, HS0.out]
    rfl
  · rw [pv_3, e2']
    exact t2
theorem ent_takePlan (args : Array Value) (w : World) : (callFunc 60 args).run Tryz.prog w = .ok (.enter 60 args) w :=
  callFunc_enter Tryz.func60 (by kernel_rfl) (by kernel_rfl) args w
theorem takesPlan (wf : World) (b1 b2 b3 : Nat) (hF : PF bf.2 wf b1 b2 b3) : TakesFG (Lo bf wf) wf 60 (capP b1 b2 b3) planR planV ShPn :=
  fun q s w1 ha hq h hz => takePlan wf w1 b1 b2 b3 hF q s ha hq h hz
end Cd
end Go.Proofs.YtbjcckfhfbjchaaGreat
