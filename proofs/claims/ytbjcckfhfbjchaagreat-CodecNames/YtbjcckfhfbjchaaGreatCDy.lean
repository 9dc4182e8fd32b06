/- Codec: a plan put, a plan taken (its fields alone). -/
import Derived.Test.YtbjcckfhfbjchaaGreatCDx
namespace Go.Proofs.YtbjcckfhfbjchaaGreat
namespace Cd
open Go.RowKit Go.Deep

variable {bf : Nat × Nat}
/-- a plan by value -/
abbrev Pv := (List Nat × Int) × List Nv
def planW (v : Pv) : K.WS → K.WS := seqW (seqW (textW 40 v.1.1) (numW 1 1099511627776 v.1.2)) (listW 64 (v.2.map nodeW))
def nvs (xs : List Gr.No) : List Nv := xs.map fun x => nv x.q x.nl x.al
def pv (nm : ByteArray) (dl : Int) (xs : List Gr.No) : Pv := ((sb nm, dl), nvs xs)
def POk (nm : ByteArray) (dl : Int) (xs : List Gr.No) : Prop := nm.size ≤ 140737488351232 ∧ dl ≤ 9223372036854775807 ∧ xs.length ≤ 16777216 ∧ ∀ x ∈ xs, NOk x.q x.nl x.al
theorem els_n {wf : World} {s : Option Addr × Nat × Nat} {xs : List Gr.No} (hw : bf.1 ≤ wf.heap.size) (h : Gr.RdP bf.1 wf s xs) (hn : xs.length ≤ 16777216) : ElsN (Lo bf wf) wf s.1 s.2.1 (xs.map (·.q)) := by
  obtain ⟨h1, h2, h3, h4⟩ := h
  refine ⟨by rw [List.length_map]; exact h1, by omega, ?_⟩
  rcases h3 with h3 | ⟨g, off, e, hg, h3⟩
  · exact .inl h3
  · refine .inr ⟨g, off, e, ⟨by omega, .inl hg⟩, fun i q hq j u hu => ?_⟩
    rw [List.getElem?_map] at hq
    cases hx : xs[i]? with
    | none => rw [hx] at hq; cases hq
    | some x =>
      rw [hx] at hq
      cases hq
      exact h3 i x hx j u hu
theorem puts_N {wf : World} {b m o c1 c2 c3 c4 c5 c6 : Nat} (hF : FN bf.2 wf b m o c1 c2 c3 c4 c5 c6) {s : Option Addr × Nat × Nat} {xs : List Gr.No} (hw : bf.1 ≤ wf.heap.size) (h : Gr.RdP bf.1 wf s xs) (hn : xs.length ≤ 16777216) (hok : ∀ x ∈ xs, NOk x.q x.nl x.al) :
    PutsG (Lo bf wf) wf 114 #[.pointer (some ⟨m, 0, none⟩), .pointer (some ⟨o, 0, none⟩)] (.slice s.1 s.2.1 s.2.2) (listW 64 ((nvs xs).map nodeW)) := by
  refine putsListNd (Lo bf wf) wf m o 64 _ _ _ _ s.1 s.2.1 s.2.2 (xs.map (·.q)) _ (els_n hw h hn) (by unfold nvs; rw [List.length_map, List.length_map]; exact h.1.symm) (fun i q f hq hf => ?_) ent_putNode (clM hF.cel hF.hm) (blM hF.obk hF.ho) hF.cel hF.obk
  unfold nvs at hf
  rw [List.map_map, List.getElem?_map] at hf
  rw [List.getElem?_map] at hq
  cases hx : xs[i]? with
  | none => rw [hx] at hq; cases hq
  | some x =>
    rw [hx] at hq hf
    simp only [Option.map_some, Option.some.injEq, Function.comp] at hq hf
    subst hq
    subst hf
    have hm := List.mem_of_getElem? hx
    exact putsNode wf c1 c2 c3 c4 c5 c6 hF.nf x.q x.nl x.al hw (h.2.2.2 x hm).1 (h.2.2.2 x hm).2 (hok x hm)
set_option maxRecDepth 10000 in
set_option maxHeartbeats 2000000 in
theorem putPlan (wf w0 : World) (b1 b2 b3 : Nat) (hF : PF bf.2 wf b1 b2 b3) (nm : ByteArray) (dl : Int) (x1 : Option Addr) (x2 x3 : Nat) (xs : List Gr.No) (hw : bf.1 ≤ wf.heap.size) (h1 : Gr.RdP bf.1 wf (x1, x2, x3) xs) (hok : POk nm dl xs) (p : Nat) (S : Nat → Prop) (ha : Agree (Lo bf wf) wf w0) (hd : ∀ k, Lo bf wf k → ¬ S k) (W : World) (s : K.WS) (h : WAt S w0 p s W) (hz : s.fault = 0) :
    Calls Tryz.prog 57 (#[.pointer (some ⟨p, 0, none⟩), .agg #[.string nm, .int .i64 dl, .slice x1 x2 x3]] ++ capP b1 b2 b3) W fun en w' => en = .returned (.tuple #[]) ∧ WAt S w0 p (planW (pv nm dl xs) s) w' := by
  obtain ⟨m1, l2, m2, m3, o3, c1, c2, c3, c4, c5, c6, f1, f2, f3⟩ := hF.ex
  obtain ⟨k0, k1, k2, k3⟩ := hok
  have P0 := hide (putsText (Lo bf wf) wf m1 40 nm k0 f1.cel (clM f1.cel f1.hm))
  have P1 := hide (putsNum (Lo bf wf) wf l2 m2 1 1099511627776 dl k1 f2.ce0 f2.cel (clM f2.ce0 f2.hl) (clM f2.cel f2.hm))
  have P2 := hide (puts_N f3 hw h1 k2 k3)
  have HC : Hid (∀ W, Agree (Lo bf wf) wf W → ((W.cell? ⟨b1, 0, none⟩ = some ((fS m1)[0]!) ∧ W.cell? ⟨b1, 1, none⟩ = some ((fS m1)[1]!)) ∧ (W.cell? ⟨b2, 0, none⟩ = some ((fI l2 m2)[0]!) ∧ W.cell? ⟨b2, 1, none⟩ = some ((fI l2 m2)[1]!)) ∧ (W.cell? ⟨b3, 0, none⟩ = some ((fN m3 o3)[0]!) ∧ W.cell? ⟨b3, 1, none⟩ = some ((fN m3 o3)[1]!)))) := fun W ha => ⟨lo_cells ha f1.blk f1.hb, lo_cells ha f2.blk f2.hb, lo_cells ha f3.blk f3.hb⟩
  have HA := hide ha
  have HD := hide hd
  have hba := (Below.refl W.heap.size W).alloc (Nat.le_refl _) (.cells #[.string nm, .int .i64 dl, .slice x1 x2 x3] 30)
  have HW0 := hide (h.below hba)
  have HX0 := hide (heap_alloc_new W (.cells #[.string nm, .int .i64 dl, .slice x1 x2 x3] 30))
  have HFN : Hid (seqW (seqW (textW 40 (sb nm)) (numW 1 1099511627776 dl)) (listW 64 ((nvs xs).map nodeW)) s = planW (pv nm dl xs) s) := rfl
  have HZ := hide hz
  generalize planW (pv nm dl xs) s = sE at *
  clear hw h ha hd hba f1 f2 f3 h1 k0 k1 k2 k3 hz hF
  show Calls Tryz.prog 57 #[.pointer (some ⟨p, 0, none⟩), .agg #[.string nm, .int .i64 dl, .slice x1 x2 x3], .pointer (some ⟨b1, 0, none⟩), .pointer (some ⟨b2, 0, none⟩), .pointer (some ⟨b3, 0, none⟩)] W _
  go_enter Tryz.func57, Tryz.ntmps57
  go_upto_region 1 with fail
  generalize W.alloc (.cells #[.string nm, .int .i64 dl, .slice x1 x2 x3] 30) = W0 at *
  generalize W.heap.size = bx at *
  have hc := (HC.out W0 (HA.out.keep HW0.out.keep HD.out)).1
  have c0 : W0.cell? ⟨b1, 0, none⟩ = some (.func (.func 155) #[] #[.pointer (some ⟨m1, 0, none⟩)]) := hc.1
  have c1 : W0.cell? ⟨b1, 1, none⟩ = some (.func (.func 157) #[] #[.pointer (some ⟨m1, 0, none⟩)]) := hc.2
  have d0 : W0.cell? ⟨bx, 0, none⟩ = some (.string nm) := cell_blk HX0.out 0 rfl
  have C0 := hide (fputS (fn2 := 157) (cap2 := #[.pointer (some ⟨m1, 0, none⟩)]) HA.out HD.out HW0.out P0.out ent_putText HX0.out (by decide) (by decide))
  clear hc P0
  go_upto_region 2 with (go_at_call 58; refine C0.out.mono ?_; rintro e W1 ⟨rfl, h, hx⟩; have HW1 := hide h; have HX1 := hide hx; clear h hx c0 c1 d0 C0 HW0 HX0)
  have hc := (HC.out W1 (HA.out.keep HW1.out.keep HD.out)).2.1
  have c0 : W1.cell? ⟨b2, 0, none⟩ = some (.func (.func 78) #[] #[.pointer (some ⟨l2, 0, none⟩), .pointer (some ⟨m2, 0, none⟩)]) := hc.1
  have c1 : W1.cell? ⟨b2, 1, none⟩ = some (.func (.func 81) #[] #[.pointer (some ⟨l2, 0, none⟩), .pointer (some ⟨m2, 0, none⟩)]) := hc.2
  have d0 : W1.cell? ⟨bx, 1, none⟩ = some (.int .i64 dl) := cell_blk HX1.out 1 rfl
  have C1 := hide (fputI (fn2 := 81) (cap2 := #[.pointer (some ⟨l2, 0, none⟩), .pointer (some ⟨m2, 0, none⟩)]) HA.out HD.out HW1.out P1.out ent_putNum HX1.out (by decide) (by decide))
  clear hc P1
  go_upto_region 3 with (go_at_call 46; refine C1.out.mono ?_; rintro e W2 ⟨rfl, h, hx⟩; have HW2 := hide h; have HX2 := hide hx; clear h hx c0 c1 d0 C1 HW1 HX1)
  have hc := (HC.out W2 (HA.out.keep HW2.out.keep HD.out)).2.2
  have c0 : W2.cell? ⟨b3, 0, none⟩ = some (.func (.func 114) #[] #[.pointer (some ⟨m3, 0, none⟩), .pointer (some ⟨o3, 0, none⟩)]) := hc.1
  have c1 : W2.cell? ⟨b3, 1, none⟩ = some (.func (.func 117) #[] #[.pointer (some ⟨m3, 0, none⟩), .pointer (some ⟨o3, 0, none⟩)]) := hc.2
  have d0 : W2.cell? ⟨bx, 2, none⟩ = some (.slice x1 x2 x3) := cell_blk HX2.out 2 rfl
  have C2 := hide (fputLn (fn2 := 117) (cap2 := #[.pointer (some ⟨m3, 0, none⟩), .pointer (some ⟨o3, 0, none⟩)]) HA.out HD.out HW2.out P2.out ent_putListNd HX2.out (by decide) (by decide))
  clear hc P2
  go_wp2_with (go_at_call 59; refine C2.out.mono ?_; rintro e W3 ⟨rfl, h, hx⟩; have HW3 := hide h; clear h hx c0 c1 d0 C2 HW2 HX2)
  go_end0
  refine ⟨rfl, ?_⟩
  have := HW3.out
  rw [putW_zero HZ.out] at this
  rw [← HFN.out]
  exact this
theorem ent_putPlan (args : Array Value) (w : World) : (callFunc 57 args).run Tryz.prog w = .ok (.enter 57 args) w :=
  callFunc_enter Tryz.func57 (by kernel_rfl) (by kernel_rfl) args w
theorem putsPlan (wf : World) (b1 b2 b3 : Nat) (hF : PF bf.2 wf b1 b2 b3) (nm : ByteArray) (dl : Int) (x1 : Option Addr) (x2 x3 : Nat) (xs : List Gr.No) (hw : bf.1 ≤ wf.heap.size) (h1 : Gr.RdP bf.1 wf (x1, x2, x3) xs) (hok : POk nm dl xs) :
    PutsG (Lo bf wf) wf 57 (capP b1 b2 b3) (.agg #[.string nm, .int .i64 dl, .slice x1 x2 x3]) (planW (pv nm dl xs)) :=
  fun p S w1 ha hd w2 s h hz => putPlan wf w1 b1 b2 b3 hF nm dl x1 x2 x3 xs hw h1 hok p S ha hd w2 s h hz
end Cd
end Go.Proofs.YtbjcckfhfbjchaaGreat
