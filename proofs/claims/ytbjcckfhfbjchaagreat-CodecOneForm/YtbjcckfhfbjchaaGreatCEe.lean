/- Codec: the parts of an operation, put one by one (written by cee_gen.py). -/
import Derived.Test.YtbjcckfhfbjchaaGreatCEd
import Derived.Deep.RegionHeld3
namespace Go.Proofs.YtbjcckfhfbjchaaGreat
namespace Cd
open Go.RowKit Go.Deep

theorem wset_lt {w : World} {p : Nat} {v : Value} {s : K.WS} (h : Wr w p v s) {k : Nat} (hk : Wset p v k) : k < w.heap.size := by
  rcases hk with rfl | hk
  · exact (Array.getElem?_eq_some_iff.1 h.blk).1
  · exact (h.row.lt k hk).2
theorem put_new {S : Nat → Prop} {w0 W w1 : World} {p B0 : Nat} {s : K.WS} (h : WAt S w0 p s W) (hb : Below W.heap.size W w1) (hB : B0 ≤ w0.heap.size) (hS : ∀ k, k < B0 → ¬ S k) :
    ∃ v, Wr w1 p v s ∧ WAt (Wset p v) w1 p s w1 ∧ (∀ k, Lo (B0, W.heap.size) w1 k → ¬ Wset p v k) ∧ ∀ s' w', WAt (Wset p v) w1 p s' w' → WAt S w0 p s' w' := by
  obtain ⟨v, hv, _, hs⟩ := h.rebase
  have hv1 : Wr w1 p v s := hv.keep (Keep.ofBelow (S := fun _ => False) hb (Nat.le_refl _)) fun _ _ f => f
  refine ⟨v, hv1, ⟨Keep.refl _ _, v, hv1, fun _ hk => .inl hk⟩, fun k hk hw => ?_, fun s' w' h3 => (h.below hb).step hs h3⟩
  have h1 := wset_lt hv hw
  rcases hk.2 with h2 | h2
  · rcases hs k hw with h3 | h3
    · exact hS k h2 h3
    · have : k < B0 := h2
      omega
  · have : W.heap.size ≤ k := h2
    omega
/-- a field put by a form that is new -/
theorem fnewI {S : Nat → Prop} {w0 W w1 : World} {p B0 : Nat} {fn1 fn2 : FuncId} {cap1 cap2 : Array Value} {x : Value} {f : K.WS → K.WS} {s : K.WS} (h : WAt S w0 p s W) (hb : Below W.heap.size W w1) (hB : B0 ≤ w0.heap.size) (hS : ∀ k, k < B0 → ¬ S k) (hp : PutsG (Lo (B0, W.heap.size) w1) w1 fn1 cap1 x f)
    (he : ∀ args w, (callFunc fn1 args).run Tryz.prog w = .ok (.enter fn1 args) w) {bx : Nat} {cs : Array Value} {t : TypeId} (hx : w1.heap[bx]? = some (.cells cs t (0, 0))) (ht1 : t ≠ 128) (ht2 : t ≠ 5) :
    Calls Tryz.prog 46 #[.agg #[.func (.func fn1) #[] cap1, .func (.func fn2) #[] cap2], .pointer (some ⟨p, 0, none⟩), x] w1 fun en w' => en = .returned (.tuple #[]) ∧ WAt S w0 p (putW f s) w' ∧ w'.heap[bx]? = some (.cells cs t (0, 0)) := by
  obtain ⟨v, hv, h1, hD, hst⟩ := put_new h hb hB hS
  refine (PutI (Wset p v) w1 p fn1 fn2 cap1 cap2 x f s _ h1 (hp p _ w1 (Agree.refl fun k hk => hk.1) hD) he).mono ?_
  rintro e w' ⟨rfl, h3⟩
  exact ⟨rfl, hst _ _ h3, h3.keep.blk hx (hv.not hx ht1 ht2)⟩

/-- a field put by a form that is new -/
theorem fnewS {S : Nat → Prop} {w0 W w1 : World} {p B0 : Nat} {fn1 fn2 : FuncId} {cap1 cap2 : Array Value} {x : Value} {f : K.WS → K.WS} {s : K.WS} (h : WAt S w0 p s W) (hb : Below W.heap.size W w1) (hB : B0 ≤ w0.heap.size) (hS : ∀ k, k < B0 → ¬ S k) (hp : PutsG (Lo (B0, W.heap.size) w1) w1 fn1 cap1 x f)
    (he : ∀ args w, (callFunc fn1 args).run Tryz.prog w = .ok (.enter fn1 args) w) {bx : Nat} {cs : Array Value} {t : TypeId} (hx : w1.heap[bx]? = some (.cells cs t (0, 0))) (ht1 : t ≠ 128) (ht2 : t ≠ 5) :
    Calls Tryz.prog 58 #[.agg #[.func (.func fn1) #[] cap1, .func (.func fn2) #[] cap2], .pointer (some ⟨p, 0, none⟩), x] w1 fun en w' => en = .returned (.tuple #[]) ∧ WAt S w0 p (putW f s) w' ∧ w'.heap[bx]? = some (.cells cs t (0, 0)) := by
  obtain ⟨v, hv, h1, hD, hst⟩ := put_new h hb hB hS
  refine (PutS (Wset p v) w1 p fn1 fn2 cap1 cap2 x f s _ h1 (hp p _ w1 (Agree.refl fun k hk => hk.1) hD) he).mono ?_
  rintro e w' ⟨rfl, h3⟩
  exact ⟨rfl, hst _ _ h3, h3.keep.blk hx (hv.not hx ht1 ht2)⟩

/-- a field put by a form that is new -/
theorem fnewB {S : Nat → Prop} {w0 W w1 : World} {p B0 : Nat} {fn1 fn2 : FuncId} {cap1 cap2 : Array Value} {x : Value} {f : K.WS → K.WS} {s : K.WS} (h : WAt S w0 p s W) (hb : Below W.heap.size W w1) (hB : B0 ≤ w0.heap.size) (hS : ∀ k, k < B0 → ¬ S k) (hp : PutsG (Lo (B0, W.heap.size) w1) w1 fn1 cap1 x f)
    (he : ∀ args w, (callFunc fn1 args).run Tryz.prog w = .ok (.enter fn1 args) w) {bx : Nat} {cs : Array Value} {t : TypeId} (hx : w1.heap[bx]? = some (.cells cs t (0, 0))) (ht1 : t ≠ 128) (ht2 : t ≠ 5) :
    Calls Tryz.prog 142 #[.agg #[.func (.func fn1) #[] cap1, .func (.func fn2) #[] cap2], .pointer (some ⟨p, 0, none⟩), x] w1 fun en w' => en = .returned (.tuple #[]) ∧ WAt S w0 p (putW f s) w' ∧ w'.heap[bx]? = some (.cells cs t (0, 0)) := by
  obtain ⟨v, hv, h1, hD, hst⟩ := put_new h hb hB hS
  refine (PutB (Wset p v) w1 p fn1 fn2 cap1 cap2 x f s _ h1 (hp p _ w1 (Agree.refl fun k hk => hk.1) hD) he).mono ?_
  rintro e w' ⟨rfl, h3⟩
  exact ⟨rfl, hst _ _ h3, h3.keep.blk hx (hv.not hx ht1 ht2)⟩

/-- a field put by a form that is new -/
theorem fnewW {S : Nat → Prop} {w0 W w1 : World} {p B0 : Nat} {fn1 fn2 : FuncId} {cap1 cap2 : Array Value} {x : Value} {f : K.WS → K.WS} {s : K.WS} (h : WAt S w0 p s W) (hb : Below W.heap.size W w1) (hB : B0 ≤ w0.heap.size) (hS : ∀ k, k < B0 → ¬ S k) (hp : PutsG (Lo (B0, W.heap.size) w1) w1 fn1 cap1 x f)
    (he : ∀ args w, (callFunc fn1 args).run Tryz.prog w = .ok (.enter fn1 args) w) {bx : Nat} {cs : Array Value} {t : TypeId} (hx : w1.heap[bx]? = some (.cells cs t (0, 0))) (ht1 : t ≠ 128) (ht2 : t ≠ 5) :
    Calls Tryz.prog 145 #[.agg #[.func (.func fn1) #[] cap1, .func (.func fn2) #[] cap2], .pointer (some ⟨p, 0, none⟩), x] w1 fun en w' => en = .returned (.tuple #[]) ∧ WAt S w0 p (putW f s) w' ∧ w'.heap[bx]? = some (.cells cs t (0, 0)) := by
  obtain ⟨v, hv, h1, hD, hst⟩ := put_new h hb hB hS
  refine (PutW (Wset p v) w1 p fn1 fn2 cap1 cap2 x f s _ h1 (hp p _ w1 (Agree.refl fun k hk => hk.1) hD) he).mono ?_
  rintro e w' ⟨rfl, h3⟩
  exact ⟨rfl, hst _ _ h3, h3.keep.blk hx (hv.not hx ht1 ht2)⟩

theorem fnewPn {S : Nat → Prop} {w0 W w1 : World} {p B0 : Nat} {fn1 fn2 : FuncId} {cap1 cap2 : Array Value} {nm : ByteArray} {dl : Int} {x1 : Option Addr} {x2 x3 : Nat} {f : K.WS → K.WS} {s : K.WS} (h : WAt S w0 p s W) (hb : Below W.heap.size W w1) (hB : B0 ≤ w0.heap.size) (hS : ∀ k, k < B0 → ¬ S k) (hp : PutsG (Lo (B0, W.heap.size) w1) w1 fn1 cap1 (.agg #[.string nm, .int .i64 dl, .slice x1 x2 x3]) f)
    (he : ∀ args w, (callFunc fn1 args).run Tryz.prog w = .ok (.enter fn1 args) w) {bx : Nat} {cs : Array Value} {t : TypeId} (hx : w1.heap[bx]? = some (.cells cs t (0, 0))) (ht1 : t ≠ 128) (ht2 : t ≠ 5) :
    Calls Tryz.prog 53 #[.agg #[.func (.func fn1) #[] cap1, .func (.func fn2) #[] cap2], .pointer (some ⟨p, 0, none⟩), .agg #[.string nm, .int .i64 dl, .slice x1 x2 x3]] w1 fun en w' => en = .returned (.tuple #[]) ∧ WAt S w0 p (putW f s) w' ∧ w'.heap[bx]? = some (.cells cs t (0, 0)) := by
  obtain ⟨v, hv, h1, hD, hst⟩ := put_new h hb hB hS
  refine (PutPn (Wset p v) w1 p fn1 fn2 cap1 cap2 nm dl x1 x2 x3 f s _ h1 (hp p _ w1 (Agree.refl fun k hk => hk.1) hD) he).mono ?_
  rintro e w' ⟨rfl, h3⟩
  exact ⟨rfl, hst _ _ h3, h3.keep.blk hx (hv.not hx ht1 ht2)⟩
set_option maxRecDepth 10000 in
set_option maxHeartbeats 2000000 in
theorem putPlan_any (ki : Int) (nm : ByteArray) (dl : Int) (x1 : Option Addr) (x2 x3 : Nat) (ky : ByteArray) (la : Int) (wo : Int) (tk : Int) (y1 : Option Addr) (y2 y3 : Nat) (ru : Int) (lu : Int) (ti : Int) (S : Nat → Prop) (w0 W : World) (p B0 : Nat) (s : K.WS) (h : WAt S w0 p s W) (hB : B0 ≤ w0.heap.size) (hS : ∀ k, k < B0 → ¬ S k) (xs : List Gr.No) (h1 : Gr.RdP B0 W (x1, x2, x3) xs) (hBw : B0 ≤ W.heap.size) (hok : POk nm dl xs) :
    Calls Tryz.prog 84 #[.agg #[.int .i64 ki, .string nm, .int .i64 dl, .slice x1 x2 x3, .string ky, .int .i64 la, .int .i64 wo, .int .i64 tk, .slice y1 y2 y3, .int .i64 ru, .int .u64 lu, .int .i64 ti], .pointer (some ⟨p, 0, none⟩)] W fun en w' => en = .returned (.tuple #[]) ∧ WAt S w0 p (putW (planW (pv nm dl xs)) s) w' := by
  have hWW : Below W.heap.size W (W.alloc (.cells #[.int .i64 ki, .string nm, .int .i64 dl, .slice x1 x2 x3, .string ky, .int .i64 la, .int .i64 wo, .int .i64 tk, .slice y1 y2 y3, .int .i64 ru, .int .u64 lu, .int .i64 ti] 99)).drew := ((Below.refl _ _).alloc (Nat.le_refl _) _).drew
  have HX0 := hide (heap_alloc_new W (.cells #[.int .i64 ki, .string nm, .int .i64 dl, .slice x1 x2 x3, .string ky, .int .i64 la, .int .i64 wo, .int .i64 tk, .slice y1 y2 y3, .int .i64 ru, .int .u64 lu, .int .i64 ti] 99))
  have HXd : Hid ((W.alloc (.cells #[.int .i64 ki, .string nm, .int .i64 dl, .slice x1 x2 x3, .string ky, .int .i64 la, .int .i64 wo, .int .i64 tk, .slice y1 y2 y3, .int .i64 ru, .int .u64 lu, .int .i64 ti] 99)).drew.heap[W.heap.size]? = some (.cells #[.int .i64 ki, .string nm, .int .i64 dl, .slice x1 x2 x3, .string ky, .int .i64 la, .int .i64 wo, .int .i64 tk, .slice y1 y2 y3, .int .i64 ru, .int .u64 lu, .int .i64 ti] 99 (0, 0))) := HX0.out
  have HPT : Hid (∀ WW w2 : World, WW = (W.alloc (.cells #[.int .i64 ki, .string nm, .int .i64 dl, .slice x1 x2 x3, .string ky, .int .i64 la, .int .i64 wo, .int .i64 tk, .slice y1 y2 y3, .int .i64 ru, .int .u64 lu, .int .i64 ti] 99)).drew → Below WW.heap.size WW w2 → w2.heap[W.heap.size]? = some (.cells #[.int .i64 ki, .string nm, .int .i64 dl, .slice x1 x2 x3, .string ky, .int .i64 la, .int .i64 wo, .int .i64 tk, .slice y1 y2 y3, .int .i64 ru, .int .u64 lu, .int .i64 ti] 99 (0, 0)) → ∀ b1 b2 b3, PF WW.heap.size w2 b1 b2 b3 → Calls Tryz.prog 53 #[.agg #[.func (.func 57) #[] (capP b1 b2 b3), .func (.func 60) #[] (capP b1 b2 b3)], .pointer (some ⟨p, 0, none⟩), .agg #[.string nm, .int .i64 dl, .slice x1 x2 x3]] w2 fun en w' => en = .returned (.tuple #[]) ∧ WAt S w0 p (putW (planW (pv nm dl xs)) s) w' ∧ w'.heap[W.heap.size]? = some (.cells #[.int .i64 ki, .string nm, .int .i64 dl, .slice x1 x2 x3, .string ky, .int .i64 la, .int .i64 wo, .int .i64 tk, .slice y1 y2 y3, .int .i64 ru, .int .u64 lu, .int .i64 ti] 99 (0, 0))) := by
    intro WW w2 e hb2 hxx b1 b2 b3 hq
    have hWW : Below W.heap.size W WW := e ▸ hWW
    exact fnewPn (B0 := B0) (h.below hWW) hb2 hB hS (putsPlan (bf := (B0, WW.heap.size)) w2 b1 b2 b3 hq nm dl x1 x2 x3 xs (Nat.le_trans hBw (Nat.le_trans hWW.size hb2.size)) (h1.keep (below_keep (hWW.trans (hb2.mono hWW.size)) (Nat.le_refl _)) (fun _ f => f.elim)) hok) ent_putPlan hxx (by decide) (by decide)
  have d0 := cell_blk HX0.out 1 (v := .string nm) rfl
  have d1 := cell_blk HX0.out 2 (v := .int .i64 dl) rfl
  have d2 := cell_blk HX0.out 3 (v := .slice x1 x2 x3) rfl
  have HMK := hide (planFields_any (W.alloc (.cells #[.int .i64 ki, .string nm, .int .i64 dl, .slice x1 x2 x3, .string ky, .int .i64 la, .int .i64 wo, .int .i64 tk, .slice y1 y2 y3, .int .i64 ru, .int .u64 lu, .int .i64 ti] 99)).drew)
  clear h hB hS h1 hBw hok hWW
  go_enter Tryz.func84, Tryz.ntmps84
  go_upto_region 1 with fail
  generalize hW0 : W.alloc (.cells #[.int .i64 ki, .string nm, .int .i64 dl, .slice x1 x2 x3, .string ky, .int .i64 la, .int .i64 wo, .int .i64 tk, .slice y1 y2 y3, .int .i64 ru, .int .u64 lu, .int .i64 ti] 99) = W0 at *
  go_region_held3 (fun wx => wx.cell? ⟨W.heap.size, 1, none⟩ = some (.string nm) ∧ wx.cell? ⟨W.heap.size, 2, none⟩ = some (.int .i64 dl) ∧ wx.cell? ⟨W.heap.size, 3, none⟩ = some (.slice x1 x2 x3)) (first | (exact ⟨d0, d1, d2⟩) | (exact HS2.out) | (exact HS3.out) | go_keep) (first
    | (go_at_call 53; refine PT.out.mono ?_; rintro e w3 ⟨rfl, h3, hx3⟩; have H3 := hide h3; have HS3 : Hid (w3.cell? ⟨W.heap.size, 1, none⟩ = some (.string nm) ∧ w3.cell? ⟨W.heap.size, 2, none⟩ = some (.int .i64 dl) ∧ w3.cell? ⟨W.heap.size, 3, none⟩ = some (.slice x1 x2 x3)) := ⟨cell_blk hx3 1 rfl, cell_blk hx3 2 rfl, cell_blk hx3 3 rfl⟩; clear h3 hx3 PT)
    | (go_at_call 29; refine HMK.out.mono ?_; rintro e w2 ⟨b1, b2, b3, rfl, hq, hb⟩; have HX2 := hide (blkB HXd.out hb); have PT := hide (HPT.out _ w2 rfl hb HX2.out b1 b2 b3 hq); have HS2 : Hid (w2.cell? ⟨W.heap.size, 1, none⟩ = some (.string nm) ∧ w2.cell? ⟨W.heap.size, 2, none⟩ = some (.int .i64 dl) ∧ w2.cell? ⟨W.heap.size, 3, none⟩ = some (.slice x1 x2 x3)) := ⟨cell_blk HX2.out 1 rfl, cell_blk HX2.out 2 rfl, cell_blk HX2.out 3 rfl⟩; clear hq hb HMK))
  all_goals go_wp2
  all_goals first | go_end0 | refine bodyPost_ret (results_none rfl _ _ _) rfl ?_
  all_goals exact ⟨rfl, H3.out⟩
set_option maxRecDepth 10000 in
set_option maxHeartbeats 2000000 in
theorem putKey_any (ki : Int) (nm : ByteArray) (dl : Int) (x1 : Option Addr) (x2 x3 : Nat) (ky : ByteArray) (la : Int) (wo : Int) (tk : Int) (y1 : Option Addr) (y2 y3 : Nat) (ru : Int) (lu : Int) (ti : Int) (S : Nat → Prop) (w0 W : World) (p B0 : Nat) (s : K.WS) (h : WAt S w0 p s W) (hB : B0 ≤ w0.heap.size) (hS : ∀ k, k < B0 → ¬ S k) (hx : ky.size ≤ 140737488351232) :
    Calls Tryz.prog 86 #[.agg #[.int .i64 ki, .string nm, .int .i64 dl, .slice x1 x2 x3, .string ky, .int .i64 la, .int .i64 wo, .int .i64 tk, .slice y1 y2 y3, .int .i64 ru, .int .u64 lu, .int .i64 ti], .pointer (some ⟨p, 0, none⟩)] W fun en w' => en = .returned (.tuple #[]) ∧ WAt S w0 p (putW (textW 40 (sb ky)) s) w' := by
  have hWW : Below W.heap.size W (W.alloc (.cells #[.int .i64 ki, .string nm, .int .i64 dl, .slice x1 x2 x3, .string ky, .int .i64 la, .int .i64 wo, .int .i64 tk, .slice y1 y2 y3, .int .i64 ru, .int .u64 lu, .int .i64 ti] 99)).drew := ((Below.refl _ _).alloc (Nat.le_refl _) _).drew
  have HX0 := hide (heap_alloc_new W (.cells #[.int .i64 ki, .string nm, .int .i64 dl, .slice x1 x2 x3, .string ky, .int .i64 la, .int .i64 wo, .int .i64 tk, .slice y1 y2 y3, .int .i64 ru, .int .u64 lu, .int .i64 ti] 99))
  have HXd : Hid ((W.alloc (.cells #[.int .i64 ki, .string nm, .int .i64 dl, .slice x1 x2 x3, .string ky, .int .i64 la, .int .i64 wo, .int .i64 tk, .slice y1 y2 y3, .int .i64 ru, .int .u64 lu, .int .i64 ti] 99)).drew.heap[W.heap.size]? = some (.cells #[.int .i64 ki, .string nm, .int .i64 dl, .slice x1 x2 x3, .string ky, .int .i64 la, .int .i64 wo, .int .i64 tk, .slice y1 y2 y3, .int .i64 ru, .int .u64 lu, .int .i64 ti] 99 (0, 0))) := HX0.out
  have HPT : Hid (∀ WW w2 : World, WW = (W.alloc (.cells #[.int .i64 ki, .string nm, .int .i64 dl, .slice x1 x2 x3, .string ky, .int .i64 la, .int .i64 wo, .int .i64 tk, .slice y1 y2 y3, .int .i64 ru, .int .u64 lu, .int .i64 ti] 99)).drew → Below WW.heap.size WW w2 → w2.heap[W.heap.size]? = some (.cells #[.int .i64 ki, .string nm, .int .i64 dl, .slice x1 x2 x3, .string ky, .int .i64 la, .int .i64 wo, .int .i64 tk, .slice y1 y2 y3, .int .i64 ru, .int .u64 lu, .int .i64 ti] 99 (0, 0)) → ∀ m, w2.cell? ⟨m, 0, none⟩ = some (.int .i64 40) → WW.heap.size ≤ m → Calls Tryz.prog 58 #[.agg #[.func (.func 155) #[] (#[.pointer (some ⟨m, 0, none⟩)]), .func (.func 157) #[] (#[.pointer (some ⟨m, 0, none⟩)])], .pointer (some ⟨p, 0, none⟩), .string ky] w2 fun en w' => en = .returned (.tuple #[]) ∧ WAt S w0 p (putW (textW 40 (sb ky)) s) w' ∧ w'.heap[W.heap.size]? = some (.cells #[.int .i64 ki, .string nm, .int .i64 dl, .slice x1 x2 x3, .string ky, .int .i64 la, .int .i64 wo, .int .i64 tk, .slice y1 y2 y3, .int .i64 ru, .int .u64 lu, .int .i64 ti] 99 (0, 0))) := by
    intro WW w2 e hb2 hxx m hm hlm
    have hWW : Below W.heap.size W WW := e ▸ hWW
    exact fnewS (B0 := B0) (h.below hWW) hb2 hB hS (putsText _ _ m 40 ky hx hm (clM hm hlm)) ent_putText hxx (by decide) (by decide)
  have d0 := cell_blk HX0.out 4 (v := .string ky) rfl
  have HMK := hide (keys_any (W.alloc (.cells #[.int .i64 ki, .string nm, .int .i64 dl, .slice x1 x2 x3, .string ky, .int .i64 la, .int .i64 wo, .int .i64 tk, .slice y1 y2 y3, .int .i64 ru, .int .u64 lu, .int .i64 ti] 99)).drew)
  clear h hB hS hx hWW
  go_enter Tryz.func86, Tryz.ntmps86
  go_upto_region 1 with fail
  generalize hW0 : W.alloc (.cells #[.int .i64 ki, .string nm, .int .i64 dl, .slice x1 x2 x3, .string ky, .int .i64 la, .int .i64 wo, .int .i64 tk, .slice y1 y2 y3, .int .i64 ru, .int .u64 lu, .int .i64 ti] 99) = W0 at *
  go_region_held3 (fun wx => wx.cell? ⟨W.heap.size, 4, none⟩ = some (.string ky)) (first | (exact d0) | (exact HS2.out) | (exact HS3.out) | go_keep) (first
    | (go_at_call 58; refine PT.out.mono ?_; rintro e w3 ⟨rfl, h3, hx3⟩; have H3 := hide h3; have HS3 : Hid (w3.cell? ⟨W.heap.size, 4, none⟩ = some (.string ky)) := cell_blk hx3 4 rfl; clear h3 hx3 PT)
    | (go_at_call 138; refine HMK.out.mono ?_; rintro e w2 ⟨m, rfl, hm, hlm, hb⟩; have HX2 := hide (blkB HXd.out hb); have PT := hide (HPT.out _ w2 rfl hb HX2.out m hm hlm); have HS2 : Hid (w2.cell? ⟨W.heap.size, 4, none⟩ = some (.string ky)) := cell_blk HX2.out 4 rfl; clear hm hlm hb HMK))
  all_goals go_wp2
  all_goals first | go_end0 | refine bodyPost_ret (results_none rfl _ _ _) rfl ?_
  all_goals exact ⟨rfl, H3.out⟩
set_option maxRecDepth 10000 in
set_option maxHeartbeats 2000000 in
theorem putLane_any (ki : Int) (nm : ByteArray) (dl : Int) (x1 : Option Addr) (x2 x3 : Nat) (ky : ByteArray) (la : Int) (wo : Int) (tk : Int) (y1 : Option Addr) (y2 y3 : Nat) (ru : Int) (lu : Int) (ti : Int) (S : Nat → Prop) (w0 W : World) (p B0 : Nat) (s : K.WS) (h : WAt S w0 p s W) (hB : B0 ≤ w0.heap.size) (hS : ∀ k, k < B0 → ¬ S k) (hx : la ≤ 9223372036854775807) :
    Calls Tryz.prog 88 #[.agg #[.int .i64 ki, .string nm, .int .i64 dl, .slice x1 x2 x3, .string ky, .int .i64 la, .int .i64 wo, .int .i64 tk, .slice y1 y2 y3, .int .i64 ru, .int .u64 lu, .int .i64 ti], .pointer (some ⟨p, 0, none⟩)] W fun en w' => en = .returned (.tuple #[]) ∧ WAt S w0 p (putW (numW 0 15 la) s) w' := by
  have hWW : Below W.heap.size W (W.alloc (.cells #[.int .i64 ki, .string nm, .int .i64 dl, .slice x1 x2 x3, .string ky, .int .i64 la, .int .i64 wo, .int .i64 tk, .slice y1 y2 y3, .int .i64 ru, .int .u64 lu, .int .i64 ti] 99)).drew := ((Below.refl _ _).alloc (Nat.le_refl _) _).drew
  have HX0 := hide (heap_alloc_new W (.cells #[.int .i64 ki, .string nm, .int .i64 dl, .slice x1 x2 x3, .string ky, .int .i64 la, .int .i64 wo, .int .i64 tk, .slice y1 y2 y3, .int .i64 ru, .int .u64 lu, .int .i64 ti] 99))
  have HXd : Hid ((W.alloc (.cells #[.int .i64 ki, .string nm, .int .i64 dl, .slice x1 x2 x3, .string ky, .int .i64 la, .int .i64 wo, .int .i64 tk, .slice y1 y2 y3, .int .i64 ru, .int .u64 lu, .int .i64 ti] 99)).drew.heap[W.heap.size]? = some (.cells #[.int .i64 ki, .string nm, .int .i64 dl, .slice x1 x2 x3, .string ky, .int .i64 la, .int .i64 wo, .int .i64 tk, .slice y1 y2 y3, .int .i64 ru, .int .u64 lu, .int .i64 ti] 99 (0, 0))) := HX0.out
  have HPT : Hid (∀ WW w2 : World, WW = (W.alloc (.cells #[.int .i64 ki, .string nm, .int .i64 dl, .slice x1 x2 x3, .string ky, .int .i64 la, .int .i64 wo, .int .i64 tk, .slice y1 y2 y3, .int .i64 ru, .int .u64 lu, .int .i64 ti] 99)).drew → Below WW.heap.size WW w2 → w2.heap[W.heap.size]? = some (.cells #[.int .i64 ki, .string nm, .int .i64 dl, .slice x1 x2 x3, .string ky, .int .i64 la, .int .i64 wo, .int .i64 tk, .slice y1 y2 y3, .int .i64 ru, .int .u64 lu, .int .i64 ti] 99 (0, 0)) → ∀ l m, w2.cell? ⟨l, 0, none⟩ = some (.int .i64 0) → w2.cell? ⟨m, 0, none⟩ = some (.int .i64 15) → WW.heap.size ≤ l → WW.heap.size ≤ m → Calls Tryz.prog 46 #[.agg #[.func (.func 78) #[] (#[.pointer (some ⟨l, 0, none⟩), .pointer (some ⟨m, 0, none⟩)]), .func (.func 81) #[] (#[.pointer (some ⟨l, 0, none⟩), .pointer (some ⟨m, 0, none⟩)])], .pointer (some ⟨p, 0, none⟩), .int .i64 la] w2 fun en w' => en = .returned (.tuple #[]) ∧ WAt S w0 p (putW (numW 0 15 la) s) w' ∧ w'.heap[W.heap.size]? = some (.cells #[.int .i64 ki, .string nm, .int .i64 dl, .slice x1 x2 x3, .string ky, .int .i64 la, .int .i64 wo, .int .i64 tk, .slice y1 y2 y3, .int .i64 ru, .int .u64 lu, .int .i64 ti] 99 (0, 0))) := by
    intro WW w2 e hb2 hxx l m hl hm hll hlm
    have hWW : Below W.heap.size W WW := e ▸ hWW
    exact fnewI (B0 := B0) (h.below hWW) hb2 hB hS (putsNum _ _ l m 0 15 la hx hl hm (clM hl hll) (clM hm hlm)) ent_putNum hxx (by decide) (by decide)
  have d0 := cell_blk HX0.out 5 (v := .int .i64 la) rfl
  have HMK := hide (lanes_any (W.alloc (.cells #[.int .i64 ki, .string nm, .int .i64 dl, .slice x1 x2 x3, .string ky, .int .i64 la, .int .i64 wo, .int .i64 tk, .slice y1 y2 y3, .int .i64 ru, .int .u64 lu, .int .i64 ti] 99)).drew)
  clear h hB hS hx hWW
  go_enter Tryz.func88, Tryz.ntmps88
  go_upto_region 1 with fail
  generalize hW0 : W.alloc (.cells #[.int .i64 ki, .string nm, .int .i64 dl, .slice x1 x2 x3, .string ky, .int .i64 la, .int .i64 wo, .int .i64 tk, .slice y1 y2 y3, .int .i64 ru, .int .u64 lu, .int .i64 ti] 99) = W0 at *
  go_region_held3 (fun wx => wx.cell? ⟨W.heap.size, 5, none⟩ = some (.int .i64 la)) (first | (exact d0) | (exact HS2.out) | (exact HS3.out) | go_keep) (first
    | (go_at_call 46; refine PT.out.mono ?_; rintro e w3 ⟨rfl, h3, hx3⟩; have H3 := hide h3; have HS3 : Hid (w3.cell? ⟨W.heap.size, 5, none⟩ = some (.int .i64 la)) := cell_blk hx3 5 rfl; clear h3 hx3 PT)
    | (go_at_call 121; refine HMK.out.mono ?_; rintro e w2 ⟨l, m, rfl, hl, hm, hll, hlm, hb⟩; have HX2 := hide (blkB HXd.out hb); have PT := hide (HPT.out _ w2 rfl hb HX2.out l m hl hm hll hlm); have HS2 : Hid (w2.cell? ⟨W.heap.size, 5, none⟩ = some (.int .i64 la)) := cell_blk HX2.out 5 rfl; clear hl hm hll hlm hb HMK))
  all_goals go_wp2
  all_goals first | go_end0 | refine bodyPost_ret (results_none rfl _ _ _) rfl ?_
  all_goals exact ⟨rfl, H3.out⟩
set_option maxRecDepth 10000 in
set_option maxHeartbeats 2000000 in
theorem putWorker_any (ki : Int) (nm : ByteArray) (dl : Int) (x1 : Option Addr) (x2 x3 : Nat) (ky : ByteArray) (la : Int) (wo : Int) (tk : Int) (y1 : Option Addr) (y2 y3 : Nat) (ru : Int) (lu : Int) (ti : Int) (S : Nat → Prop) (w0 W : World) (p B0 : Nat) (s : K.WS) (h : WAt S w0 p s W) (hB : B0 ≤ w0.heap.size) (hS : ∀ k, k < B0 → ¬ S k) (hx : wo ≤ 9223372036854775807) :
    Calls Tryz.prog 90 #[.agg #[.int .i64 ki, .string nm, .int .i64 dl, .slice x1 x2 x3, .string ky, .int .i64 la, .int .i64 wo, .int .i64 tk, .slice y1 y2 y3, .int .i64 ru, .int .u64 lu, .int .i64 ti], .pointer (some ⟨p, 0, none⟩)] W fun en w' => en = .returned (.tuple #[]) ∧ WAt S w0 p (putW (numW 0 1099511627776 wo) s) w' := by
  have hWW : Below W.heap.size W (W.alloc (.cells #[.int .i64 ki, .string nm, .int .i64 dl, .slice x1 x2 x3, .string ky, .int .i64 la, .int .i64 wo, .int .i64 tk, .slice y1 y2 y3, .int .i64 ru, .int .u64 lu, .int .i64 ti] 99)).drew := ((Below.refl _ _).alloc (Nat.le_refl _) _).drew
  have HX0 := hide (heap_alloc_new W (.cells #[.int .i64 ki, .string nm, .int .i64 dl, .slice x1 x2 x3, .string ky, .int .i64 la, .int .i64 wo, .int .i64 tk, .slice y1 y2 y3, .int .i64 ru, .int .u64 lu, .int .i64 ti] 99))
  have HXd : Hid ((W.alloc (.cells #[.int .i64 ki, .string nm, .int .i64 dl, .slice x1 x2 x3, .string ky, .int .i64 la, .int .i64 wo, .int .i64 tk, .slice y1 y2 y3, .int .i64 ru, .int .u64 lu, .int .i64 ti] 99)).drew.heap[W.heap.size]? = some (.cells #[.int .i64 ki, .string nm, .int .i64 dl, .slice x1 x2 x3, .string ky, .int .i64 la, .int .i64 wo, .int .i64 tk, .slice y1 y2 y3, .int .i64 ru, .int .u64 lu, .int .i64 ti] 99 (0, 0))) := HX0.out
  have HPT : Hid (∀ WW w2 : World, WW = (W.alloc (.cells #[.int .i64 ki, .string nm, .int .i64 dl, .slice x1 x2 x3, .string ky, .int .i64 la, .int .i64 wo, .int .i64 tk, .slice y1 y2 y3, .int .i64 ru, .int .u64 lu, .int .i64 ti] 99)).drew → Below WW.heap.size WW w2 → w2.heap[W.heap.size]? = some (.cells #[.int .i64 ki, .string nm, .int .i64 dl, .slice x1 x2 x3, .string ky, .int .i64 la, .int .i64 wo, .int .i64 tk, .slice y1 y2 y3, .int .i64 ru, .int .u64 lu, .int .i64 ti] 99 (0, 0)) → ∀ l m, w2.cell? ⟨l, 0, none⟩ = some (.int .i64 0) → w2.cell? ⟨m, 0, none⟩ = some (.int .i64 1099511627776) → WW.heap.size ≤ l → WW.heap.size ≤ m → Calls Tryz.prog 46 #[.agg #[.func (.func 78) #[] (#[.pointer (some ⟨l, 0, none⟩), .pointer (some ⟨m, 0, none⟩)]), .func (.func 81) #[] (#[.pointer (some ⟨l, 0, none⟩), .pointer (some ⟨m, 0, none⟩)])], .pointer (some ⟨p, 0, none⟩), .int .i64 wo] w2 fun en w' => en = .returned (.tuple #[]) ∧ WAt S w0 p (putW (numW 0 1099511627776 wo) s) w' ∧ w'.heap[W.heap.size]? = some (.cells #[.int .i64 ki, .string nm, .int .i64 dl, .slice x1 x2 x3, .string ky, .int .i64 la, .int .i64 wo, .int .i64 tk, .slice y1 y2 y3, .int .i64 ru, .int .u64 lu, .int .i64 ti] 99 (0, 0))) := by
    intro WW w2 e hb2 hxx l m hl hm hll hlm
    have hWW : Below W.heap.size W WW := e ▸ hWW
    exact fnewI (B0 := B0) (h.below hWW) hb2 hB hS (putsNum _ _ l m 0 1099511627776 wo hx hl hm (clM hl hll) (clM hm hlm)) ent_putNum hxx (by decide) (by decide)
  have d0 := cell_blk HX0.out 6 (v := .int .i64 wo) rfl
  have HMK := hide (workers_any (W.alloc (.cells #[.int .i64 ki, .string nm, .int .i64 dl, .slice x1 x2 x3, .string ky, .int .i64 la, .int .i64 wo, .int .i64 tk, .slice y1 y2 y3, .int .i64 ru, .int .u64 lu, .int .i64 ti] 99)).drew)
  clear h hB hS hx hWW
  go_enter Tryz.func90, Tryz.ntmps90
  go_upto_region 1 with fail
  generalize hW0 : W.alloc (.cells #[.int .i64 ki, .string nm, .int .i64 dl, .slice x1 x2 x3, .string ky, .int .i64 la, .int .i64 wo, .int .i64 tk, .slice y1 y2 y3, .int .i64 ru, .int .u64 lu, .int .i64 ti] 99) = W0 at *
  go_region_held3 (fun wx => wx.cell? ⟨W.heap.size, 6, none⟩ = some (.int .i64 wo)) (first | (exact d0) | (exact HS2.out) | (exact HS3.out) | go_keep) (first
    | (go_at_call 46; refine PT.out.mono ?_; rintro e w3 ⟨rfl, h3, hx3⟩; have H3 := hide h3; have HS3 : Hid (w3.cell? ⟨W.heap.size, 6, none⟩ = some (.int .i64 wo)) := cell_blk hx3 6 rfl; clear h3 hx3 PT)
    | (go_at_call 139; refine HMK.out.mono ?_; rintro e w2 ⟨l, m, rfl, hl, hm, hll, hlm, hb⟩; have HX2 := hide (blkB HXd.out hb); have PT := hide (HPT.out _ w2 rfl hb HX2.out l m hl hm hll hlm); have HS2 : Hid (w2.cell? ⟨W.heap.size, 6, none⟩ = some (.int .i64 wo)) := cell_blk HX2.out 6 rfl; clear hl hm hll hlm hb HMK))
  all_goals go_wp2
  all_goals first | go_end0 | refine bodyPost_ret (results_none rfl _ _ _) rfl ?_
  all_goals exact ⟨rfl, H3.out⟩
set_option maxRecDepth 10000 in
set_option maxHeartbeats 2000000 in
theorem putToken_any (ki : Int) (nm : ByteArray) (dl : Int) (x1 : Option Addr) (x2 x3 : Nat) (ky : ByteArray) (la : Int) (wo : Int) (tk : Int) (y1 : Option Addr) (y2 y3 : Nat) (ru : Int) (lu : Int) (ti : Int) (S : Nat → Prop) (w0 W : World) (p B0 : Nat) (s : K.WS) (h : WAt S w0 p s W) (hB : B0 ≤ w0.heap.size) (hS : ∀ k, k < B0 → ¬ S k) (hx : tk ≤ 9223372036854775807) :
    Calls Tryz.prog 92 #[.agg #[.int .i64 ki, .string nm, .int .i64 dl, .slice x1 x2 x3, .string ky, .int .i64 la, .int .i64 wo, .int .i64 tk, .slice y1 y2 y3, .int .i64 ru, .int .u64 lu, .int .i64 ti], .pointer (some ⟨p, 0, none⟩)] W fun en w' => en = .returned (.tuple #[]) ∧ WAt S w0 p (putW (numW 1 1099511627776 tk) s) w' := by
  have hWW : Below W.heap.size W (W.alloc (.cells #[.int .i64 ki, .string nm, .int .i64 dl, .slice x1 x2 x3, .string ky, .int .i64 la, .int .i64 wo, .int .i64 tk, .slice y1 y2 y3, .int .i64 ru, .int .u64 lu, .int .i64 ti] 99)).drew := ((Below.refl _ _).alloc (Nat.le_refl _) _).drew
  have HX0 := hide (heap_alloc_new W (.cells #[.int .i64 ki, .string nm, .int .i64 dl, .slice x1 x2 x3, .string ky, .int .i64 la, .int .i64 wo, .int .i64 tk, .slice y1 y2 y3, .int .i64 ru, .int .u64 lu, .int .i64 ti] 99))
  have HXd : Hid ((W.alloc (.cells #[.int .i64 ki, .string nm, .int .i64 dl, .slice x1 x2 x3, .string ky, .int .i64 la, .int .i64 wo, .int .i64 tk, .slice y1 y2 y3, .int .i64 ru, .int .u64 lu, .int .i64 ti] 99)).drew.heap[W.heap.size]? = some (.cells #[.int .i64 ki, .string nm, .int .i64 dl, .slice x1 x2 x3, .string ky, .int .i64 la, .int .i64 wo, .int .i64 tk, .slice y1 y2 y3, .int .i64 ru, .int .u64 lu, .int .i64 ti] 99 (0, 0))) := HX0.out
  have HPT : Hid (∀ WW w2 : World, WW = (W.alloc (.cells #[.int .i64 ki, .string nm, .int .i64 dl, .slice x1 x2 x3, .string ky, .int .i64 la, .int .i64 wo, .int .i64 tk, .slice y1 y2 y3, .int .i64 ru, .int .u64 lu, .int .i64 ti] 99)).drew → Below WW.heap.size WW w2 → w2.heap[W.heap.size]? = some (.cells #[.int .i64 ki, .string nm, .int .i64 dl, .slice x1 x2 x3, .string ky, .int .i64 la, .int .i64 wo, .int .i64 tk, .slice y1 y2 y3, .int .i64 ru, .int .u64 lu, .int .i64 ti] 99 (0, 0)) → ∀ l m, w2.cell? ⟨l, 0, none⟩ = some (.int .i64 1) → w2.cell? ⟨m, 0, none⟩ = some (.int .i64 1099511627776) → WW.heap.size ≤ l → WW.heap.size ≤ m → Calls Tryz.prog 46 #[.agg #[.func (.func 78) #[] (#[.pointer (some ⟨l, 0, none⟩), .pointer (some ⟨m, 0, none⟩)]), .func (.func 81) #[] (#[.pointer (some ⟨l, 0, none⟩), .pointer (some ⟨m, 0, none⟩)])], .pointer (some ⟨p, 0, none⟩), .int .i64 tk] w2 fun en w' => en = .returned (.tuple #[]) ∧ WAt S w0 p (putW (numW 1 1099511627776 tk) s) w' ∧ w'.heap[W.heap.size]? = some (.cells #[.int .i64 ki, .string nm, .int .i64 dl, .slice x1 x2 x3, .string ky, .int .i64 la, .int .i64 wo, .int .i64 tk, .slice y1 y2 y3, .int .i64 ru, .int .u64 lu, .int .i64 ti] 99 (0, 0))) := by
    intro WW w2 e hb2 hxx l m hl hm hll hlm
    have hWW : Below W.heap.size W WW := e ▸ hWW
    exact fnewI (B0 := B0) (h.below hWW) hb2 hB hS (putsNum _ _ l m 1 1099511627776 tk hx hl hm (clM hl hll) (clM hm hlm)) ent_putNum hxx (by decide) (by decide)
  have d0 := cell_blk HX0.out 7 (v := .int .i64 tk) rfl
  have HMK := hide (counts_any (W.alloc (.cells #[.int .i64 ki, .string nm, .int .i64 dl, .slice x1 x2 x3, .string ky, .int .i64 la, .int .i64 wo, .int .i64 tk, .slice y1 y2 y3, .int .i64 ru, .int .u64 lu, .int .i64 ti] 99)).drew)
  clear h hB hS hx hWW
  go_enter Tryz.func92, Tryz.ntmps92
  go_upto_region 1 with fail
  generalize hW0 : W.alloc (.cells #[.int .i64 ki, .string nm, .int .i64 dl, .slice x1 x2 x3, .string ky, .int .i64 la, .int .i64 wo, .int .i64 tk, .slice y1 y2 y3, .int .i64 ru, .int .u64 lu, .int .i64 ti] 99) = W0 at *
  go_region_held3 (fun wx => wx.cell? ⟨W.heap.size, 7, none⟩ = some (.int .i64 tk)) (first | (exact d0) | (exact HS2.out) | (exact HS3.out) | go_keep) (first
    | (go_at_call 46; refine PT.out.mono ?_; rintro e w3 ⟨rfl, h3, hx3⟩; have H3 := hide h3; have HS3 : Hid (w3.cell? ⟨W.heap.size, 7, none⟩ = some (.int .i64 tk)) := cell_blk hx3 7 rfl; clear h3 hx3 PT)
    | (go_at_call 140; refine HMK.out.mono ?_; rintro e w2 ⟨l, m, rfl, hl, hm, hll, hlm, hb⟩; have HX2 := hide (blkB HXd.out hb); have PT := hide (HPT.out _ w2 rfl hb HX2.out l m hl hm hll hlm); have HS2 : Hid (w2.cell? ⟨W.heap.size, 7, none⟩ = some (.int .i64 tk)) := cell_blk HX2.out 7 rfl; clear hl hm hll hlm hb HMK))
  all_goals go_wp2
  all_goals first | go_end0 | refine bodyPost_ret (results_none rfl _ _ _) rfl ?_
  all_goals exact ⟨rfl, H3.out⟩
set_option maxRecDepth 10000 in
set_option maxHeartbeats 2000000 in
theorem putResult_any (ki : Int) (nm : ByteArray) (dl : Int) (x1 : Option Addr) (x2 x3 : Nat) (ky : ByteArray) (la : Int) (wo : Int) (tk : Int) (y1 : Option Addr) (y2 y3 : Nat) (ru : Int) (lu : Int) (ti : Int) (S : Nat → Prop) (w0 W : World) (p B0 : Nat) (s : K.WS) (h : WAt S w0 p s W) (hB : B0 ≤ w0.heap.size) (hS : ∀ k, k < B0 → ¬ S k) (ly : List Nat) (hr : Rd W y1 y2 ly) (hyn : y2 ≤ 140737488351232) (h0 : y1 = none → y3 = 0) (hyD : y2 ≠ 0 → ∀ b off, y1 = some ⟨b, off, none⟩ → b < B0) (hBw : B0 ≤ W.heap.size) :
    Calls Tryz.prog 94 #[.agg #[.int .i64 ki, .string nm, .int .i64 dl, .slice x1 x2 x3, .string ky, .int .i64 la, .int .i64 wo, .int .i64 tk, .slice y1 y2 y3, .int .i64 ru, .int .u64 lu, .int .i64 ti], .pointer (some ⟨p, 0, none⟩)] W fun en w' => en = .returned (.tuple #[]) ∧ WAt S w0 p (putW (textW 64 ly) s) w' := by
  have hWW : Below W.heap.size W (W.alloc (.cells #[.int .i64 ki, .string nm, .int .i64 dl, .slice x1 x2 x3, .string ky, .int .i64 la, .int .i64 wo, .int .i64 tk, .slice y1 y2 y3, .int .i64 ru, .int .u64 lu, .int .i64 ti] 99)).drew := ((Below.refl _ _).alloc (Nat.le_refl _) _).drew
  have HX0 := hide (heap_alloc_new W (.cells #[.int .i64 ki, .string nm, .int .i64 dl, .slice x1 x2 x3, .string ky, .int .i64 la, .int .i64 wo, .int .i64 tk, .slice y1 y2 y3, .int .i64 ru, .int .u64 lu, .int .i64 ti] 99))
  have HXd : Hid ((W.alloc (.cells #[.int .i64 ki, .string nm, .int .i64 dl, .slice x1 x2 x3, .string ky, .int .i64 la, .int .i64 wo, .int .i64 tk, .slice y1 y2 y3, .int .i64 ru, .int .u64 lu, .int .i64 ti] 99)).drew.heap[W.heap.size]? = some (.cells #[.int .i64 ki, .string nm, .int .i64 dl, .slice x1 x2 x3, .string ky, .int .i64 la, .int .i64 wo, .int .i64 tk, .slice y1 y2 y3, .int .i64 ru, .int .u64 lu, .int .i64 ti] 99 (0, 0))) := HX0.out
  have HPT : Hid (∀ WW w2 : World, WW = (W.alloc (.cells #[.int .i64 ki, .string nm, .int .i64 dl, .slice x1 x2 x3, .string ky, .int .i64 la, .int .i64 wo, .int .i64 tk, .slice y1 y2 y3, .int .i64 ru, .int .u64 lu, .int .i64 ti] 99)).drew → Below WW.heap.size WW w2 → w2.heap[W.heap.size]? = some (.cells #[.int .i64 ki, .string nm, .int .i64 dl, .slice x1 x2 x3, .string ky, .int .i64 la, .int .i64 wo, .int .i64 tk, .slice y1 y2 y3, .int .i64 ru, .int .u64 lu, .int .i64 ti] 99 (0, 0)) → ∀ m, w2.cell? ⟨m, 0, none⟩ = some (.int .i64 64) → WW.heap.size ≤ m → Calls Tryz.prog 142 #[.agg #[.func (.func 186) #[] (#[.pointer (some ⟨m, 0, none⟩)]), .func (.func 188) #[] (#[.pointer (some ⟨m, 0, none⟩)])], .pointer (some ⟨p, 0, none⟩), .slice y1 y2 y3] w2 fun en w' => en = .returned (.tuple #[]) ∧ WAt S w0 p (putW (textW 64 ly) s) w' ∧ w'.heap[W.heap.size]? = some (.cells #[.int .i64 ki, .string nm, .int .i64 dl, .slice x1 x2 x3, .string ky, .int .i64 la, .int .i64 wo, .int .i64 tk, .slice y1 y2 y3, .int .i64 ru, .int .u64 lu, .int .i64 ti] 99 (0, 0))) := by
    intro WW w2 e hb2 hxx m hm hlm
    have hWW : Below W.heap.size W WW := e ▸ hWW
    exact fnewB (B0 := B0) (h.below hWW) hb2 hB hS (putsBlob _ _ m 64 y1 y2 y3 ly (hr.keep (hWW.trans (hb2.mono hWW.size))) hyn h0 (fun hn b off e => ⟨Nat.lt_of_lt_of_le (hyD hn b off e) (Nat.le_trans hBw (Nat.le_trans hWW.size hb2.size)), .inl (hyD hn b off e)⟩) hm (clM hm hlm)) ent_putBlob hxx (by decide) (by decide)
  have d0 := cell_blk HX0.out 8 (v := .slice y1 y2 y3) rfl
  have HMK := hide (results_any (W.alloc (.cells #[.int .i64 ki, .string nm, .int .i64 dl, .slice x1 x2 x3, .string ky, .int .i64 la, .int .i64 wo, .int .i64 tk, .slice y1 y2 y3, .int .i64 ru, .int .u64 lu, .int .i64 ti] 99)).drew)
  clear h hB hS hr hyn h0 hyD hBw hWW
  go_enter Tryz.func94, Tryz.ntmps94
  go_upto_region 1 with fail
  generalize hW0 : W.alloc (.cells #[.int .i64 ki, .string nm, .int .i64 dl, .slice x1 x2 x3, .string ky, .int .i64 la, .int .i64 wo, .int .i64 tk, .slice y1 y2 y3, .int .i64 ru, .int .u64 lu, .int .i64 ti] 99) = W0 at *
  go_region_held3 (fun wx => wx.cell? ⟨W.heap.size, 8, none⟩ = some (.slice y1 y2 y3)) (first | (exact d0) | (exact HS2.out) | (exact HS3.out) | go_keep) (first
    | (go_at_call 142; refine PT.out.mono ?_; rintro e w3 ⟨rfl, h3, hx3⟩; have H3 := hide h3; have HS3 : Hid (w3.cell? ⟨W.heap.size, 8, none⟩ = some (.slice y1 y2 y3)) := cell_blk hx3 8 rfl; clear h3 hx3 PT)
    | (go_at_call 141; refine HMK.out.mono ?_; rintro e w2 ⟨m, rfl, hm, hlm, hb⟩; have HX2 := hide (blkB HXd.out hb); have PT := hide (HPT.out _ w2 rfl hb HX2.out m hm hlm); have HS2 : Hid (w2.cell? ⟨W.heap.size, 8, none⟩ = some (.slice y1 y2 y3)) := cell_blk HX2.out 8 rfl; clear hm hlm hb HMK))
  all_goals go_wp2
  all_goals first | go_end0 | refine bodyPost_ret (results_none rfl _ _ _) rfl ?_
  all_goals exact ⟨rfl, H3.out⟩
set_option maxRecDepth 10000 in
set_option maxHeartbeats 2000000 in
theorem putRun_any (ki : Int) (nm : ByteArray) (dl : Int) (x1 : Option Addr) (x2 x3 : Nat) (ky : ByteArray) (la : Int) (wo : Int) (tk : Int) (y1 : Option Addr) (y2 y3 : Nat) (ru : Int) (lu : Int) (ti : Int) (S : Nat → Prop) (w0 W : World) (p B0 : Nat) (s : K.WS) (h : WAt S w0 p s W) (hB : B0 ≤ w0.heap.size) (hS : ∀ k, k < B0 → ¬ S k) (hx : ru ≤ 9223372036854775807) :
    Calls Tryz.prog 96 #[.agg #[.int .i64 ki, .string nm, .int .i64 dl, .slice x1 x2 x3, .string ky, .int .i64 la, .int .i64 wo, .int .i64 tk, .slice y1 y2 y3, .int .i64 ru, .int .u64 lu, .int .i64 ti], .pointer (some ⟨p, 0, none⟩)] W fun en w' => en = .returned (.tuple #[]) ∧ WAt S w0 p (putW (numW 1 1099511627776 ru) s) w' := by
  have hWW : Below W.heap.size W (W.alloc (.cells #[.int .i64 ki, .string nm, .int .i64 dl, .slice x1 x2 x3, .string ky, .int .i64 la, .int .i64 wo, .int .i64 tk, .slice y1 y2 y3, .int .i64 ru, .int .u64 lu, .int .i64 ti] 99)).drew := ((Below.refl _ _).alloc (Nat.le_refl _) _).drew
  have HX0 := hide (heap_alloc_new W (.cells #[.int .i64 ki, .string nm, .int .i64 dl, .slice x1 x2 x3, .string ky, .int .i64 la, .int .i64 wo, .int .i64 tk, .slice y1 y2 y3, .int .i64 ru, .int .u64 lu, .int .i64 ti] 99))
  have HXd : Hid ((W.alloc (.cells #[.int .i64 ki, .string nm, .int .i64 dl, .slice x1 x2 x3, .string ky, .int .i64 la, .int .i64 wo, .int .i64 tk, .slice y1 y2 y3, .int .i64 ru, .int .u64 lu, .int .i64 ti] 99)).drew.heap[W.heap.size]? = some (.cells #[.int .i64 ki, .string nm, .int .i64 dl, .slice x1 x2 x3, .string ky, .int .i64 la, .int .i64 wo, .int .i64 tk, .slice y1 y2 y3, .int .i64 ru, .int .u64 lu, .int .i64 ti] 99 (0, 0))) := HX0.out
  have HPT : Hid (∀ WW w2 : World, WW = (W.alloc (.cells #[.int .i64 ki, .string nm, .int .i64 dl, .slice x1 x2 x3, .string ky, .int .i64 la, .int .i64 wo, .int .i64 tk, .slice y1 y2 y3, .int .i64 ru, .int .u64 lu, .int .i64 ti] 99)).drew → Below WW.heap.size WW w2 → w2.heap[W.heap.size]? = some (.cells #[.int .i64 ki, .string nm, .int .i64 dl, .slice x1 x2 x3, .string ky, .int .i64 la, .int .i64 wo, .int .i64 tk, .slice y1 y2 y3, .int .i64 ru, .int .u64 lu, .int .i64 ti] 99 (0, 0)) → ∀ l m, w2.cell? ⟨l, 0, none⟩ = some (.int .i64 1) → w2.cell? ⟨m, 0, none⟩ = some (.int .i64 1099511627776) → WW.heap.size ≤ l → WW.heap.size ≤ m → Calls Tryz.prog 46 #[.agg #[.func (.func 78) #[] (#[.pointer (some ⟨l, 0, none⟩), .pointer (some ⟨m, 0, none⟩)]), .func (.func 81) #[] (#[.pointer (some ⟨l, 0, none⟩), .pointer (some ⟨m, 0, none⟩)])], .pointer (some ⟨p, 0, none⟩), .int .i64 ru] w2 fun en w' => en = .returned (.tuple #[]) ∧ WAt S w0 p (putW (numW 1 1099511627776 ru) s) w' ∧ w'.heap[W.heap.size]? = some (.cells #[.int .i64 ki, .string nm, .int .i64 dl, .slice x1 x2 x3, .string ky, .int .i64 la, .int .i64 wo, .int .i64 tk, .slice y1 y2 y3, .int .i64 ru, .int .u64 lu, .int .i64 ti] 99 (0, 0))) := by
    intro WW w2 e hb2 hxx l m hl hm hll hlm
    have hWW : Below W.heap.size W WW := e ▸ hWW
    exact fnewI (B0 := B0) (h.below hWW) hb2 hB hS (putsNum _ _ l m 1 1099511627776 ru hx hl hm (clM hl hll) (clM hm hlm)) ent_putNum hxx (by decide) (by decide)
  have d0 := cell_blk HX0.out 9 (v := .int .i64 ru) rfl
  have HMK := hide (counts_any (W.alloc (.cells #[.int .i64 ki, .string nm, .int .i64 dl, .slice x1 x2 x3, .string ky, .int .i64 la, .int .i64 wo, .int .i64 tk, .slice y1 y2 y3, .int .i64 ru, .int .u64 lu, .int .i64 ti] 99)).drew)
  clear h hB hS hx hWW
  go_enter Tryz.func96, Tryz.ntmps96
  go_upto_region 1 with fail
  generalize hW0 : W.alloc (.cells #[.int .i64 ki, .string nm, .int .i64 dl, .slice x1 x2 x3, .string ky, .int .i64 la, .int .i64 wo, .int .i64 tk, .slice y1 y2 y3, .int .i64 ru, .int .u64 lu, .int .i64 ti] 99) = W0 at *
  go_region_held3 (fun wx => wx.cell? ⟨W.heap.size, 9, none⟩ = some (.int .i64 ru)) (first | (exact d0) | (exact HS2.out) | (exact HS3.out) | go_keep) (first
    | (go_at_call 46; refine PT.out.mono ?_; rintro e w3 ⟨rfl, h3, hx3⟩; have H3 := hide h3; have HS3 : Hid (w3.cell? ⟨W.heap.size, 9, none⟩ = some (.int .i64 ru)) := cell_blk hx3 9 rfl; clear h3 hx3 PT)
    | (go_at_call 140; refine HMK.out.mono ?_; rintro e w2 ⟨l, m, rfl, hl, hm, hll, hlm, hb⟩; have HX2 := hide (blkB HXd.out hb); have PT := hide (HPT.out _ w2 rfl hb HX2.out l m hl hm hll hlm); have HS2 : Hid (w2.cell? ⟨W.heap.size, 9, none⟩ = some (.int .i64 ru)) := cell_blk HX2.out 9 rfl; clear hl hm hll hlm hb HMK))
  all_goals go_wp2
  all_goals first | go_end0 | refine bodyPost_ret (results_none rfl _ _ _) rfl ?_
  all_goals exact ⟨rfl, H3.out⟩
set_option maxRecDepth 10000 in
set_option maxHeartbeats 2000000 in
theorem putLuck_any (ki : Int) (nm : ByteArray) (dl : Int) (x1 : Option Addr) (x2 x3 : Nat) (ky : ByteArray) (la : Int) (wo : Int) (tk : Int) (y1 : Option Addr) (y2 y3 : Nat) (ru : Int) (lu : Int) (ti : Int) (S : Nat → Prop) (w0 W : World) (p B0 : Nat) (s : K.WS) (h : WAt S w0 p s W) (hB : B0 ≤ w0.heap.size) (hS : ∀ k, k < B0 → ¬ S k) (X : Nat) (hX : X < 18446744073709551616) (hlu : lu = (X : Int)) :
    Calls Tryz.prog 98 #[.agg #[.int .i64 ki, .string nm, .int .i64 dl, .slice x1 x2 x3, .string ky, .int .i64 la, .int .i64 wo, .int .i64 tk, .slice y1 y2 y3, .int .i64 ru, .int .u64 lu, .int .i64 ti], .pointer (some ⟨p, 0, none⟩)] W fun en w' => en = .returned (.tuple #[]) ∧ WAt S w0 p (putW (wordW X) s) w' := by
  subst hlu
  have hWW : Below W.heap.size W (W.alloc (.cells #[.int .i64 ki, .string nm, .int .i64 dl, .slice x1 x2 x3, .string ky, .int .i64 la, .int .i64 wo, .int .i64 tk, .slice y1 y2 y3, .int .i64 ru, .int .u64 (X : Nat), .int .i64 ti] 99)).drew := ((Below.refl _ _).alloc (Nat.le_refl _) _).drew
  have HX0 := hide (heap_alloc_new W (.cells #[.int .i64 ki, .string nm, .int .i64 dl, .slice x1 x2 x3, .string ky, .int .i64 la, .int .i64 wo, .int .i64 tk, .slice y1 y2 y3, .int .i64 ru, .int .u64 (X : Nat), .int .i64 ti] 99))
  have HXd : Hid ((W.alloc (.cells #[.int .i64 ki, .string nm, .int .i64 dl, .slice x1 x2 x3, .string ky, .int .i64 la, .int .i64 wo, .int .i64 tk, .slice y1 y2 y3, .int .i64 ru, .int .u64 (X : Nat), .int .i64 ti] 99)).drew.heap[W.heap.size]? = some (.cells #[.int .i64 ki, .string nm, .int .i64 dl, .slice x1 x2 x3, .string ky, .int .i64 la, .int .i64 wo, .int .i64 tk, .slice y1 y2 y3, .int .i64 ru, .int .u64 (X : Nat), .int .i64 ti] 99 (0, 0))) := HX0.out
  have HPT : Hid (∀ WW w2 : World, WW = (W.alloc (.cells #[.int .i64 ki, .string nm, .int .i64 dl, .slice x1 x2 x3, .string ky, .int .i64 la, .int .i64 wo, .int .i64 tk, .slice y1 y2 y3, .int .i64 ru, .int .u64 (X : Nat), .int .i64 ti] 99)).drew → Below WW.heap.size WW w2 → w2.heap[W.heap.size]? = some (.cells #[.int .i64 ki, .string nm, .int .i64 dl, .slice x1 x2 x3, .string ky, .int .i64 la, .int .i64 wo, .int .i64 tk, .slice y1 y2 y3, .int .i64 ru, .int .u64 (X : Nat), .int .i64 ti] 99 (0, 0)) →   Calls Tryz.prog 145 #[.agg #[.func (.func 176) #[] (#[]), .func (.func 177) #[] (#[])], .pointer (some ⟨p, 0, none⟩), .int .u64 (X : Nat)] w2 fun en w' => en = .returned (.tuple #[]) ∧ WAt S w0 p (putW (wordW X) s) w' ∧ w'.heap[W.heap.size]? = some (.cells #[.int .i64 ki, .string nm, .int .i64 dl, .slice x1 x2 x3, .string ky, .int .i64 la, .int .i64 wo, .int .i64 tk, .slice y1 y2 y3, .int .i64 ru, .int .u64 (X : Nat), .int .i64 ti] 99 (0, 0))) := by
    intro WW w2 e hb2 hxx  
    have hWW : Below W.heap.size W WW := e ▸ hWW
    exact fnewW (B0 := B0) (h.below hWW) hb2 hB hS (putsWord _ _ X hX) ent_putWord hxx (by decide) (by decide)
  have d0 := cell_blk HX0.out 10 (v := .int .u64 (X : Nat)) rfl
  have HMK := hide (Words_any (W.alloc (.cells #[.int .i64 ki, .string nm, .int .i64 dl, .slice x1 x2 x3, .string ky, .int .i64 la, .int .i64 wo, .int .i64 tk, .slice y1 y2 y3, .int .i64 ru, .int .u64 (X : Nat), .int .i64 ti] 99)).drew)
  clear h hB hS hX hWW
  go_enter Tryz.func98, Tryz.ntmps98
  go_upto_region 1 with fail
  generalize hW0 : W.alloc (.cells #[.int .i64 ki, .string nm, .int .i64 dl, .slice x1 x2 x3, .string ky, .int .i64 la, .int .i64 wo, .int .i64 tk, .slice y1 y2 y3, .int .i64 ru, .int .u64 (X : Nat), .int .i64 ti] 99) = W0 at *
  go_region_held3 (fun wx => wx.cell? ⟨W.heap.size, 10, none⟩ = some (.int .u64 (X : Nat))) (first | (exact d0) | (exact HS2.out) | (exact HS3.out) | go_keep) (first
    | (go_at_call 145; refine PT.out.mono ?_; rintro e w3 ⟨rfl, h3, hx3⟩; have H3 := hide h3; have HS3 : Hid (w3.cell? ⟨W.heap.size, 10, none⟩ = some (.int .u64 (X : Nat))) := cell_blk hx3 10 rfl; clear h3 hx3 PT)
    | (go_at_call 144; refine HMK.out.mono ?_; rintro e w2 ⟨rfl, hb⟩; have HX2 := hide (blkB HXd.out hb); have PT := hide (HPT.out _ w2 rfl hb HX2.out  ); have HS2 : Hid (w2.cell? ⟨W.heap.size, 10, none⟩ = some (.int .u64 (X : Nat))) := cell_blk HX2.out 10 rfl; clear  hb HMK))
  all_goals go_wp2
  all_goals first | go_end0 | refine bodyPost_ret (results_none rfl _ _ _) rfl ?_
  all_goals exact ⟨rfl, H3.out⟩
set_option maxRecDepth 10000 in
set_option maxHeartbeats 2000000 in
theorem putTicks_any (ki : Int) (nm : ByteArray) (dl : Int) (x1 : Option Addr) (x2 x3 : Nat) (ky : ByteArray) (la : Int) (wo : Int) (tk : Int) (y1 : Option Addr) (y2 y3 : Nat) (ru : Int) (lu : Int) (ti : Int) (S : Nat → Prop) (w0 W : World) (p B0 : Nat) (s : K.WS) (h : WAt S w0 p s W) (hB : B0 ≤ w0.heap.size) (hS : ∀ k, k < B0 → ¬ S k) (hx : ti ≤ 9223372036854775807) :
    Calls Tryz.prog 100 #[.agg #[.int .i64 ki, .string nm, .int .i64 dl, .slice x1 x2 x3, .string ky, .int .i64 la, .int .i64 wo, .int .i64 tk, .slice y1 y2 y3, .int .i64 ru, .int .u64 lu, .int .i64 ti], .pointer (some ⟨p, 0, none⟩)] W fun en w' => en = .returned (.tuple #[]) ∧ WAt S w0 p (putW (numW 0 4611686018427387904 ti) s) w' := by
  have hWW : Below W.heap.size W (W.alloc (.cells #[.int .i64 ki, .string nm, .int .i64 dl, .slice x1 x2 x3, .string ky, .int .i64 la, .int .i64 wo, .int .i64 tk, .slice y1 y2 y3, .int .i64 ru, .int .u64 lu, .int .i64 ti] 99)).drew := ((Below.refl _ _).alloc (Nat.le_refl _) _).drew
  have HX0 := hide (heap_alloc_new W (.cells #[.int .i64 ki, .string nm, .int .i64 dl, .slice x1 x2 x3, .string ky, .int .i64 la, .int .i64 wo, .int .i64 tk, .slice y1 y2 y3, .int .i64 ru, .int .u64 lu, .int .i64 ti] 99))
  have HXd : Hid ((W.alloc (.cells #[.int .i64 ki, .string nm, .int .i64 dl, .slice x1 x2 x3, .string ky, .int .i64 la, .int .i64 wo, .int .i64 tk, .slice y1 y2 y3, .int .i64 ru, .int .u64 lu, .int .i64 ti] 99)).drew.heap[W.heap.size]? = some (.cells #[.int .i64 ki, .string nm, .int .i64 dl, .slice x1 x2 x3, .string ky, .int .i64 la, .int .i64 wo, .int .i64 tk, .slice y1 y2 y3, .int .i64 ru, .int .u64 lu, .int .i64 ti] 99 (0, 0))) := HX0.out
  have HPT : Hid (∀ WW w2 : World, WW = (W.alloc (.cells #[.int .i64 ki, .string nm, .int .i64 dl, .slice x1 x2 x3, .string ky, .int .i64 la, .int .i64 wo, .int .i64 tk, .slice y1 y2 y3, .int .i64 ru, .int .u64 lu, .int .i64 ti] 99)).drew → Below WW.heap.size WW w2 → w2.heap[W.heap.size]? = some (.cells #[.int .i64 ki, .string nm, .int .i64 dl, .slice x1 x2 x3, .string ky, .int .i64 la, .int .i64 wo, .int .i64 tk, .slice y1 y2 y3, .int .i64 ru, .int .u64 lu, .int .i64 ti] 99 (0, 0)) → ∀ l m, w2.cell? ⟨l, 0, none⟩ = some (.int .i64 0) → w2.cell? ⟨m, 0, none⟩ = some (.int .i64 4611686018427387904) → WW.heap.size ≤ l → WW.heap.size ≤ m → Calls Tryz.prog 46 #[.agg #[.func (.func 78) #[] (#[.pointer (some ⟨l, 0, none⟩), .pointer (some ⟨m, 0, none⟩)]), .func (.func 81) #[] (#[.pointer (some ⟨l, 0, none⟩), .pointer (some ⟨m, 0, none⟩)])], .pointer (some ⟨p, 0, none⟩), .int .i64 ti] w2 fun en w' => en = .returned (.tuple #[]) ∧ WAt S w0 p (putW (numW 0 4611686018427387904 ti) s) w' ∧ w'.heap[W.heap.size]? = some (.cells #[.int .i64 ki, .string nm, .int .i64 dl, .slice x1 x2 x3, .string ky, .int .i64 la, .int .i64 wo, .int .i64 tk, .slice y1 y2 y3, .int .i64 ru, .int .u64 lu, .int .i64 ti] 99 (0, 0))) := by
    intro WW w2 e hb2 hxx l m hl hm hll hlm
    have hWW : Below W.heap.size W WW := e ▸ hWW
    exact fnewI (B0 := B0) (h.below hWW) hb2 hB hS (putsNum _ _ l m 0 4611686018427387904 ti hx hl hm (clM hl hll) (clM hm hlm)) ent_putNum hxx (by decide) (by decide)
  have d0 := cell_blk HX0.out 11 (v := .int .i64 ti) rfl
  have HMK := hide (times_any (W.alloc (.cells #[.int .i64 ki, .string nm, .int .i64 dl, .slice x1 x2 x3, .string ky, .int .i64 la, .int .i64 wo, .int .i64 tk, .slice y1 y2 y3, .int .i64 ru, .int .u64 lu, .int .i64 ti] 99)).drew)
  clear h hB hS hx hWW
  go_enter Tryz.func100, Tryz.ntmps100
  go_upto_region 1 with fail
  generalize hW0 : W.alloc (.cells #[.int .i64 ki, .string nm, .int .i64 dl, .slice x1 x2 x3, .string ky, .int .i64 la, .int .i64 wo, .int .i64 tk, .slice y1 y2 y3, .int .i64 ru, .int .u64 lu, .int .i64 ti] 99) = W0 at *
  go_region_held3 (fun wx => wx.cell? ⟨W.heap.size, 11, none⟩ = some (.int .i64 ti)) (first | (exact d0) | (exact HS2.out) | (exact HS3.out) | go_keep) (first
    | (go_at_call 46; refine PT.out.mono ?_; rintro e w3 ⟨rfl, h3, hx3⟩; have H3 := hide h3; have HS3 : Hid (w3.cell? ⟨W.heap.size, 11, none⟩ = some (.int .i64 ti)) := cell_blk hx3 11 rfl; clear h3 hx3 PT)
    | (go_at_call 147; refine HMK.out.mono ?_; rintro e w2 ⟨l, m, rfl, hl, hm, hll, hlm, hb⟩; have HX2 := hide (blkB HXd.out hb); have PT := hide (HPT.out _ w2 rfl hb HX2.out l m hl hm hll hlm); have HS2 : Hid (w2.cell? ⟨W.heap.size, 11, none⟩ = some (.int .i64 ti)) := cell_blk HX2.out 11 rfl; clear hl hm hll hlm hb HMK))
  all_goals go_wp2
  all_goals first | go_end0 | refine bodyPost_ret (results_none rfl _ _ _) rfl ?_
  all_goals exact ⟨rfl, H3.out⟩
end Cd
end Go.Proofs.YtbjcckfhfbjchaaGreat
