/- Package run: Inputs. -/
import Derived.Test.YtcgkkhkpimjlmabRFit
import Derived.Test.YtcgkkhkpimjlmabRFrm
namespace Go.Proofs.Ytcgkkhkpimjlmab
namespace Rn
open Go.RowKit Gr

theorem info_sl8 : (Try.prog.info? 38).map (fun i => (i.zero, i.size, i.bytes)) = some (some (.slice none 0 0), 1, 24) := by kernel_rfl
def sl (m : Option Addr × Nat × Nat) : Value := .slice m.1 m.2.1 m.2.2
/-- a list of bytes more behind a row of the call's own -/
theorem wp_appendB {w : World} {ops : Array Oper} {rest : List Oper} {o : Oper} {a : Act} {Q : Exit → Act → World → Prop} (hgd : o.guard = none) (s x : Operand)
    (ho : o.op = .call { callee := .builtin .append, args := #[s, x], argTypes := #[47, 47] })
    (base : Nat) (v : Value) (n : Nat) (xs : List Value) (hs : a.eval s = v) (hown : w.ownsRow base 38 1 v n xs) (ad : Addr) (m : Option Addr × Nat × Nat) (hx : a.eval x = .slice (some ad) 1 1) (hc : w.cell? ad = some (sl m)) (hn : n + 1 ≤ 1000000) (hbase : base ≤ w.heap.size)
    (h : ∀ v' w', w'.ownsRow base 38 1 v' (n + 1) (xs ++ [sl m]) → Keep (fun k => v.ownBlock = some k) w w' → NewBlk w v v' → wpList Try.prog ops Q rest (a.put o.dst v') w') : wpList Try.prog ops Q (o :: rest) a w := by
  obtain ⟨i0, hi, hz0, hz1, hz2⟩ := info_parts info_sl8
  refine wpList_append_own2 hgd s x 47 ho base 38 i0 (.slice none 0 0) 1 24 Try.underlying47 hi hz0 hz1 hz2 rfl (by decide) v n xs hs hown ad 1 1 [sl m] hx rfl (fun j u hu => ?_) (fun u hu => by rw [List.mem_singleton.1 hu]; rfl) (by unfold maxLen; omega) (by omega) hbase ?_
  · cases j with
    | zero =>
      have : u = sl m := by simpa using hu.symm
      subst this
      simpa [Addr.add] using hc
    | succ j => simp at hu
  · intro v' w' h1 h2 h3
    exact h v' w' h1 (Keep.grown h2 fun k e => e) h3
/-- lists of bytes in a row of the call's own -/
structure InM (w wr : World) (v : Value) (ms : List (Option Addr × Nat × Nat)) (ls : List (List Nat)) : Prop where
  ln : ms.length = ls.length
  row : wr.ownsRow w.heap.size 38 1 v ls.length (ms.map sl)
  el : ∀ (j : Nat) (m : Option Addr × Nat × Nat) (l : List Nat), ms[j]? = some m → ls[j]? = some l → wr.ownsRow w.heap.size 5 1 (sl m) l.length (B8 l)
  kp : Keep (fun _ => False) w wr
def InI (w wr : World) (v : Value) (ls : List (List Nat)) : Prop := ∃ ms, InM w wr v ms ls
theorem ownBlock_type {w : World} {b : Nat} {e : TypeId} {sz : Nat} {v : Value} {n : Nat} {l : List Value} (h : w.ownsRow b e sz v n l) {k : Nat} (hk : v.ownBlock = some k) : ∃ cur, w.heap[k]? = some (.cells cur e (0, 0)) := by
  rcases h.2 with ⟨rfl, _⟩ | ⟨g, cap, cur, rfl, _, hg, _⟩
  · simp [Value.ownBlock] at hk
  · simp [Value.ownBlock] at hk
    subst hk
    exact ⟨cur, hg⟩
theorem InM.snoc {w wr w2 w4 : World} {v v' : Value} {ms : List (Option Addr × Nat × Nat)} {ls : List (List Nat)} {m : Option Addr × Nat × Nat} {l : List Nat} (h : InM w wr v ms ls) (k2 : Keep (fun _ => False) wr w2) (hm : w2.ownsRow wr.heap.size 5 1 (sl m) l.length (B8 l)) (ho : w4.ownsRow w.heap.size 38 1 v' (ls.length + 1) (ms.map sl ++ [sl m])) (hg : Keep (fun k => v.ownBlock = some k) (w2.alloc (.cells #[sl m] 38)) w4) : InM w w4 v' (ms ++ [m]) (ls ++ [l]) := by
  obtain ⟨h1, h2, h3, h4⟩ := h
  have k3 := k2.more (Keep.alloc (fun _ => False) w2 (.cells #[sl m] 38))
  have hrow := ownsRow_new h2 k3
  have hS : ∀ i cur, v.ownBlock = some i → (w2.alloc (.cells #[sl m] 38)).heap[i]? ≠ some (.cells cur 5 (0, 0)) := fun i cur hi e => by
    obtain ⟨cur', e'⟩ := ownBlock_type hrow hi
    rw [e'] at e
    injection e with e
    injection e with _ e _
    exact absurd e (by decide)
  refine ⟨by simp [h1], by rw [List.length_append, List.map_append]; exact ho, fun j m' l' hj hl => ?_, keep_up (((h4.more k3).mono fun _ f => f.elim).more (hg.mono fun k hk => (hrow.lt k hk).1))⟩
  by_cases e : j < ms.length
  · rw [List.getElem?_append_left e] at hj
    rw [List.getElem?_append_left (by omega)] at hl
    exact own_keepT (ownsRow_new (h3 j m' l' hj hl) k3) hg hS
  · rw [List.getElem?_append_right (by omega)] at hj
    rw [List.getElem?_append_right (by omega)] at hl
    have e0 : j - ms.length = 0 := by
      have := (List.getElem?_eq_some_iff.1 hj).1
      simp at this; omega
    rw [e0] at hj
    rw [show j - ls.length = 0 by omega] at hl
    obtain rfl : m = m' := by simpa using hj
    obtain rfl : l = l' := by simpa using hl
    exact own_keepT (ownsRow_new (ownsRow_base hm h4.size) (Keep.alloc (fun _ => False) w2 (.cells #[sl m] 38))) hg hS
/-- what can be read of it -/
theorem InI.rd {w wr : World} {v : Value} {ls : List (List Nat)} (h : InI w wr v ls) (hb : ∀ l ∈ ls, (∀ d ∈ l, d < 256) ∧ l.length ≤ 1000) : ∃ a c, v = .slice a ls.length c ∧ ∀ (j : Nat) (l : List Nat), ls[j]? = some l → ∃ (g : Nat) (m : Option Addr × Nat × Nat), a = some ⟨g, 0, none⟩ ∧ wr.cell? ⟨g, j, none⟩ = some (.slice m.1 m.2.1 m.2.2) ∧ Rd wr m.1 m.2.1 l := by
  obtain ⟨ms, h1, h2, h3, _⟩ := h
  obtain ⟨a, c, rfl⟩ := ownsRow_shape h2
  refine ⟨a, c, rfl, fun j l hl => ?_⟩
  have hj := (List.getElem?_eq_some_iff.1 hl).1
  have hm : ms[j]? = some (ms[j]'(by omega)) := List.getElem?_eq_getElem _
  have hr := h3 j _ l hm hl
  obtain ⟨a1, c1, e1, r1, _⟩ := ownsRow_rdB hr (hb l (List.mem_of_getElem? hl)).1 (by have := (hb l (List.mem_of_getElem? hl)).2; omega)
  rcases h2.2 with ⟨_, h0⟩ | ⟨g, cap, cur, e, _, hg, _, _, _, htk⟩
  · omega
  · injection e with e _ _
    refine ⟨g, ms[j]'(by omega), e, cell_blk hg j ?_, ?_⟩
    · have h2 : (ms.map sl)[j]? = some (sl (ms[j]'(by omega))) := by rw [List.getElem?_map, hm]; rfl
      rw [← htk, List.getElem?_take] at h2
      split at h2
      · simpa [sl] using h2
      · cases h2
    · generalize ms[j]'_ = mm at *
      unfold sl at e1
      injection e1 with e1 e2 e3
      rw [e1, e2]
      exact r1
set_option maxRecDepth 100000 in
set_option maxHeartbeats 4000000 in
theorem inputs_ok {T : Nat → Prop} {w : World} {P G : Nat} {nm : ByteArray} {dl : Int} {s : Option Addr × Nat × Nat} {xs : List No} {R : Rs} (h : RunAt T w P G nm dl s xs R) (hb : ∀ p ∈ R.ps, (∀ d ∈ p.rs, d < 256) ∧ p.rs.length ≤ 1000) (i : Nat) (x : No) (hx : xs[i]? = some x) (hr : refI R (i : Int) [2, 3] = 0) (hnl2 : x.nl.length ≤ 20000) :
    Calls Try.prog 12 #[.pointer (some ⟨P, 0, none⟩), .int .i64 (i : Int)] w fun e w' => ∃ v, e = .returned (.tuple #[v, .int .i64 0]) ∧ InI w w' v (x.nl.map fun e => rsAt R.ps e) := by
  have k1 := Keep.alloc (fun _ => False) w (.cells #[.int .i64 2, .int .i64 3] 3)
  have RF := hide (refuses_any (h.new k1) (i : Int) (some ⟨w.heap.size, 0, none⟩, 2, 2) [2, 3] (rdz_two w 2 3))
  rw [hr] at RF
  have hn64 : xs.length ≤ 64 := h.val.1
  have hil := (List.getElem?_eq_some_iff.1 hx).1
  have HH := hide h
  have HBB := hide hb
  have HX := hide hx
  have hsl : s.2.1 = xs.length := h.pln.1
  obtain ⟨sa, sn, sc⟩ := s
  have hsl : sn = xs.length := hsl
  have HR1 := hide (h.new k1)
  have II1 : Hid (InI w (w.alloc (.cells #[.int .i64 2, .int .i64 3] 3)) (.slice none 0 0) []) := ⟨[], rfl, World.ownsRow_nil _ _ _ _, (fun j m l h _ => by simp at h), k1⟩
  clear h hb hr k1 hx
  go_enter Try.func12, Try.ntmps12
  go_wp2_with fail
  go_at_call 32
  refine RF.out.mono ?_
  rintro e w1 ⟨rfl, hw1⟩
  have hw1 := hw1.symm
  subst hw1
  clear RF
  generalize w.alloc (.cells #[.int .i64 2, .int .i64 3] 3) = w1 at *
  obtain ⟨c, _, _, d2, _, d4⟩ := HR1.out.cells
  obtain ⟨g, off, x', hs', _, hx', hN, hz1, _⟩ := HR1.out.pln.at (i := i) (by show i < sn; omega)
  obtain rfl : x = x' := Option.some.inj (HX.out.symm.trans hx')
  have hs' : sa = some ⟨g, off, none⟩ := hs'
  subst hs'
  obtain ⟨n0, n1, n2, n3, n4, n5, n6, n7, n8, n9⟩ := hN.all
  have HZ := hide (HH.out.pln.2.2.2 x (List.mem_of_getElem? HX.out)).1
  have hnl : x.q.ne.2.1 = x.nl.length := hz1.1
  have hnb : x.q.ne.2.1 ≤ 17592186044416 := hz1.2.1
  have HV : Hid (∀ e ∈ x.nl, 0 ≤ e ∧ e < xs.length) := fun e he => HH.out.val.2 x (List.mem_of_getElem? HX.out) e (List.mem_append.2 (.inl he))
  clear hx' hN hz1 n0 n1 n2 n3 n4 n5 n6 n7 n9
  obtain ⟨n, hn⟩ : ∃ n, n = x.q.ne.2.1 := ⟨_, rfl⟩
  obtain ⟨ls, hls⟩ : ∃ ls, ls = x.nl.map fun e => rsAt R.ps e := ⟨_, rfl⟩
  have hln : ls.length = n := by rw [hls, List.length_map, hn, hnl]
  have hn2 : n ≤ 20000 := by omega
  rw [← hn] at n8 hnl
  have HLS := hide hls
  have HLN := hide hln
  have HNE := hide hn
  have HNL := hide hnl
  clear hnl2 hnb hls hln hn hnl
  go_wp2_with fail
  go_loopw [7, 27] (fun v7 v27 wr => ∃ (k : Nat) (va : Option Addr) (vc : Nat), v7 = .slice va k vc ∧ v27 = .int .i64 (k : Nat) ∧ k ≤ n ∧ Hid (InI w wr (.slice va k vc) (ls.take k))) (fun _ v27 _ => n - (intOf v27).toNat)
  case atStart => exact ⟨0, none, 0, rfl, rfl, Nat.zero_le _, II1.out⟩
  case round =>
    obtain ⟨k, va, vc, rfl, rfl, hk, HI⟩ := hrel
    obtain ⟨ms, hM⟩ := HI.out
    have HM := hide hM
    by_cases hlt : k < n
    · have hz3 := (HZ.out.2.2).resolve_left (by have := HNE.out; omega)
      obtain ⟨g2, o2, e2, _, h2⟩ := hz3
      have he : x.nl[k]? = some (x.nl[k]'(by have := HNL.out; omega)) := List.getElem?_eq_getElem _
      generalize x.nl[k]'_ = ev at he
      obtain ⟨hv0, hv1⟩ := HV.out ev (List.mem_of_getElem? he)
      have hRr := HH.out.new hM.kp
      obtain ⟨en, rfl⟩ : ∃ en : Nat, ev = (en : Int) := ⟨ev.toNat, by omega⟩
      have hen : en < xs.length := by omega
      have hp : R.ps[en]? = some (R.ps[en]'(by rw [HH.out.len]; exact hen)) := List.getElem?_eq_getElem _
      generalize R.ps[en]'_ = p at hp
      obtain ⟨m, hm⟩ := hRr.pts en p hp
      obtain ⟨_, _, _, _, m4⟩ := hm.all
      obtain ⟨cc, _, _, _, _, f4⟩ := hRr.cells
      have hpb := HBB.out p (List.mem_of_getElem? hp)
      have hrs : rsAt R.ps (en : Int) = p.rs := by unfold rsAt; rw [Int.toNat_natCast, hp]; rfl
      have hlk : ls[k]? = some p.rs := by rw [HLS.out, List.getElem?_map, he]; show some (rsAt R.ps (en : Int)) = _; rw [hrs]
      have HLK := hide hlk
      have HPB := hide hpb
      have e3 := hM.kp.cell (h2 k (en : Int) he) (fun f => f)
      have CL := hide (clone_any m.1 m.2.1 m.2.2 p.rs wr hm.rd hm.cap (by rw [hm.rd.1]; omega))
      have hm1 : x.q.ne.1 = some ⟨g2, o2, none⟩ := e2
      have hzr : w.heap.size ≤ wr.heap.size := hM.kp.size
      have HZR := hide hzr
      have HLT := hide hlt
      clear hm hp hpb hrs hlk he h2 e2 hM HI hzr
      rw [hm1]
      go_wp2_with fail
      go_at_call 31
      refine CL.out.mono ?_
      rintro e w2 ⟨v2, rfl, ho2, hb2⟩
      obtain ⟨va2, vc2, rfl⟩ := ownsRow_shape ho2
      have K2 : Hid (Keep (fun _ => False) wr w2) := Keep.ofBelow hb2 (Nat.le_refl _)
      have HO2 := hide ho2
      have k3 := K2.out.more (Keep.alloc (fun _ => False) w2 (.cells #[.slice va2 p.rs.length vc2] 38))
      have hlk : (ls.take k).length = k := by rw [List.length_take]; have := HLN.out; omega
      have hro := ownsRow_new HM.out.row k3
      rw [hlk] at hro
      have HRO := hide hro
      have hone := cell_one w2 (.slice va2 p.rs.length vc2) 38
      have hzz : w.heap.size ≤ (w2.alloc (.cells #[.slice va2 p.rs.length vc2] 38)).heap.size := Nat.le_trans HZR.out k3.size
      have HLk := hide hlk
      clear ho2 hb2 CL k3 hro hlk
      go_wp2_with (at_builtin; refine wp_appendB rfl _ _ rfl w.heap.size _ k (ms.map sl) rfl HRO.out ⟨w2.heap.size, 0, none⟩ (va2, p.rs.length, vc2) rfl hone (by omega) hzz ?_; intro v' w7 ho7 hg7 _; obtain ⟨na, nc, hv'⟩ := ownsRow_shape ho7; subst hv'; have HN7 := hide (HM.out.snoc (m := (va2, p.rs.length, vc2)) (l := p.rs) K2.out HO2.out (by rw [HLk.out]; exact ho7) hg7); clear ho7 hg7)
      go_wp2_with fail
      go_roundw
      · refine ⟨k + 1, na, nc, rfl, rfl, by have := HLT.out; omega, ?_⟩
        rw [Gr.take_snoc ls k p.rs HLK.out]
        exact ⟨_, HN7.out⟩
      · show n - ((k : Int) + 1).toNat < n - (k : Int).toNat
        have := HLT.out; omega
    · obtain rfl : k = n := by omega
      have hT : ls.take k = ls := List.take_of_length_le (by have := HLN.out; omega)
      have HE := hide HI.out
      go_wp2_with fail
      go_ret2
      refine ⟨_, rfl, ?_⟩
      rw [← HLS.out, ← hT]
      exact HE.out
end Rn
end Go.Proofs.Ytcgkkhkpimjlmab
