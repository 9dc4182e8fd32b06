import Derived.Test.YtbjcckfhfbjchaaGreatCEd
import Derived.Deep.RegionHeld3
import Derived.Deep.MidRow
/- Codec: the parts of an operation, put one by one (written by cee_gen.py). -/
namespace Go.Proofs.YtbjcckfhfbjchaaGreat
namespace Cd
open Go.RowKit Go.Deep

theorem wset_lt {w : World} {p : Nat} {v : Value} {s : K.WS} (h : Wr w p v s) {k : Nat} (hk : Wset p v k) : k < w.heap.size := by
  rcases hk with rfl | hk
  · exact (Array.getElem?_eq_some_iff.1 h.blk).1
  · exact (h.row.lt k hk).2
theorem put_new {S : Nat → Prop} {w0 W w1 : World} {p B0 : Nat} {s : K.WS} (h : WAt S w0 p s W) (hb : Below W.heap.size W w1) (hB : B0 ≤ w0.heap.size) (hS : ∀ k, k < B0 → ¬ S k) :
    ∃ v, Wr w1 p v s ∧ WAt (Wset p v) w1 p s w1 ∧ (∀ k, Lo (B0, W.heap.size) w1 k → ¬ Wset p v k) ∧ ∀ s' w', WAt (Wset p v) w1 p s' w' → WAt S w0 p s' w' := by
  obtain ⟨v, hv, _, hs⟩ := h.rebase
  have hv1 : Wr w1 p v s := hv.keep (Keep.ofBelow (S := fun _ => False) hb (Nat.le_refl _)) fun _ _ f => f
  refine ⟨v, hv1, ⟨Keep.refl _ _, v, hv1, fun _ hk => .inl hk⟩, fun k hk hw => ?_, fun s' w' h3 => (h.below hb).step hs h3⟩
  have h1 := wset_lt hv hw
  rcases hk.2 with h2 | h2
  · rcases hs k hw with h3 | h3
    · exact hS k h2 h3
    · have : k < B0 := h2
      omega
  · have : W.heap.size ≤ k := h2
    omega
/-- a field put by a form that is new -/
theorem fnewI {S : Nat → Prop} {w0 W w1 : World} {p B0 : Nat} {fn1 fn2 : FuncId} {cap1 cap2 : Array Value} {x : Value} {f : K.WS → K.WS} {s : K.WS} (h : WAt S w0 p s W) (hb : Below W.heap.size W w1) (hB : B0 ≤ w0.heap.size) (hS : ∀ k, k < B0 → ¬ S k) (hp : PutsG (Lo (B0, W.heap.size) w1) w1 fn1 cap1 x f)
    (he : ∀ args w, (callFunc fn1 args).run Tryz.prog w = .ok (.enter fn1 args) w) {bx : Nat} {cs : Array Value} {t : TypeId} (hx : w1.heap[bx]? = some (.cells cs t (0, 0))) (ht1 : t ≠ 128) (ht2 : t ≠ 5) :
    Calls Tryz.prog 46 #[.agg #[.func (.func fn1) #[] cap1, .func (.func fn2) #[] cap2], .pointer (some ⟨p, 0, none⟩), x] w1 fun en w' => en = .returned (.tuple #[]) ∧ WAt S w0 p (putW f s) w' ∧ w'.heap[bx]? = some (.cells cs t (0, 0)) := by
  obtain ⟨v, hv, h1, hD, hst⟩ := put_new h hb hB hS
  refine (PutI (Wset p v) w1 p fn1 fn2 cap1 cap2 x f s _ h1 (hp p _ w1 (Agree.refl fun k hk => hk.1) hD) he).mono ?_
  rintro e w' ⟨rfl, h3⟩
  exact ⟨rfl, hst _ _ h3, h3.keep.blk hx (hv.not hx ht1 ht2)⟩

/-- a field put by a form that is new -/
theorem fnewS {S : Nat → Prop} {w0 W w1 : World} {p B0 : Nat} {fn1 fn2 : FuncId} {cap1 cap2 : Array Value} {x : Value} {f : K.WS → K.WS} {s : K.WS} (h : WAt S w0 p s W) (hb : Below W.heap.size W w1) (hB : B0 ≤ w0.heap.size) (hS : ∀ k, k < B0 → ¬ S k) (hp : PutsG (Lo (B0, W.heap.size) w1) w1 fn1 cap1 x f)
    (he : ∀ args w, (callFunc fn1 args).run Tryz.prog w = .ok (.enter fn1 args) w) {bx : Nat} {cs : Array Value} {t : TypeId} (hx : w1.heap[bx]? = some (.cells cs t (0, 0))) (ht1 : t ≠ 128) (ht2 : t ≠ 5) :
    Calls Tryz.prog 58 #[.agg #[.func (.func fn1) #[] cap1, .func (.func fn2) #[] cap2], .pointer (some ⟨p, 0, none⟩), x] w1 fun en w' => en = .returned (.tuple #[]) ∧ WAt S w0 p (putW f s) w' ∧ w'.heap[bx]? = some (.cells cs t (0, 0)) := by
  obtain ⟨v, hv, h1, hD, hst⟩ := put_new h hb hB hS
  refine (PutS (Wset p v) w1 p fn1 fn2 cap1 cap2 x f s _ h1 (hp p _ w1 (Agree.refl fun k hk => hk.1) hD) he).mono ?_
  rintro e w' ⟨rfl, h3⟩
  exact ⟨rfl, hst _ _ h3, h3.keep.blk hx (hv.not hx ht1 ht2)⟩

/-- a field put by a form that is new -/
theorem fnewB {S : Nat → Prop} {w0 W w1 : World} {p B0 : Nat} {fn1 fn2 : FuncId} {cap1 cap2 : Array Value} {x : Value} {f : K.WS → K.WS} {s : K.WS} (h : WAt S w0 p s W) (hb : Below W.heap.size W w1) (hB : B0 ≤ w0.heap.size) (hS : ∀ k, k < B0 → ¬ S k) (hp : PutsG (Lo (B0, W.heap.size) w1) w1 fn1 cap1 x f)
    (he : ∀ args w, (callFunc fn1 args).run Tryz.prog w = .ok (.enter fn1 args) w) {bx : Nat} {cs : Array Value} {t : TypeId} (hx : w1.heap[bx]? = some (.cells cs t (0, 0))) (ht1 : t ≠ 128) (ht2 : t ≠ 5) :
    Calls Tryz.prog 142 #[.agg #[.func (.func fn1) #[] cap1, .func (.func fn2) #[] cap2], .pointer (some ⟨p, 0, none⟩), x] w1 fun en w' => en = .returned (.tuple #[]) ∧ WAt S w0 p (putW f s) w' ∧ w'.heap[bx]? = some (.cells cs t (0, 0)) := by
  obtain ⟨v, hv, h1, hD, hst⟩ := put_new h hb hB hS
  refine (PutB (Wset p v) w1 p fn1 fn2 cap1 cap2 x f s _ h1 (hp p _ w1 (Agree.refl fun k hk => hk.1) hD) he).mono ?_
  rintro e w' ⟨rfl, h3⟩
  exact ⟨rfl, hst _ _ h3, h3.keep.blk hx (hv.not hx ht1 ht2)⟩

/-- a field put by a form that is new -/
theorem fnewW {S : Nat → Prop} {w0 W w1 : World} {p B0 : Nat} {fn1 fn2 : FuncId} {cap1 cap2 : Array Value} {x : Value} {f : K.WS → K.WS} {s : K.WS} (h : WAt S w0 p s W) (hb : Below W.heap.size W w1) (hB : B0 ≤ w0.heap.size) (hS : ∀ k, k < B0 → ¬ S k) (hp : PutsG (Lo (B0, W.heap.size) w1) w1 fn1 cap1 x f)
    (he : ∀ args w, (callFunc fn1 args).run Tryz.prog w = .ok (.enter fn1 args) w) {bx : Nat} {cs : Array Value} {t : TypeId} (hx : w1.heap[bx]? = some (.cells cs t (0, 0))) (ht1 : t ≠ 128) (ht2 : t ≠ 5) :
    Calls Tryz.prog 145 #[.agg #[.func (.func fn1) #[] cap1, .func (.func fn2) #[] cap2], .pointer (some ⟨p, 0, none⟩), x] w1 fun en w' => en = .returned (.tuple #[]) ∧ WAt S w0 p (putW f s) w' ∧ w'.heap[bx]? = some (.cells cs t (0, 0)) := by
  obtain ⟨v, hv, h1, hD, hst⟩ := put_new h hb hB hS
  refine (PutW (Wset p v) w1 p fn1 fn2 cap1 cap2 x f s _ h1 (hp p _ w1 (Agree.refl fun k hk => hk.1) hD) he).mono ?_
  rintro e w' ⟨rfl, h3⟩
  exact ⟨rfl, hst _ _ h3, h3.keep.blk hx (hv.not hx ht1 ht2)⟩

theorem fnewPn {S : Nat → Prop} {w0 W w1 : World} {p B0 : Nat} {fn1 fn2 : FuncId} {cap1 cap2 : Array Value} {nm : ByteArray} {dl : Int} {x1 : Option Addr} {x2 x3 : Nat} {f : K.WS → K.WS} {s : K.WS} (h : WAt S w0 p s W) (hb : Below W.heap.size W w1) (hB : B0 ≤ w0.heap.size) (hS : ∀ k, k < B0 → ¬ S k) (hp : PutsG (Lo (B0, W.heap.size) w1) w1 fn1 cap1 (.agg #[.string nm, .int .i64 dl, .slice x1 x2 x3]) f)
    (he : ∀ args w, (callFunc fn1 args).run Tryz.prog w = .ok (.enter fn1 args) w) {bx : Nat} {cs : Array Value} {t : TypeId} (hx : w1.heap[bx]? = some (.cells cs t (0, 0))) (ht1 : t ≠ 128) (ht2 : t ≠ 5) :
    Calls Tryz.prog 53 #[.agg #[.func (.func fn1) #[] cap1, .func (.func fn2) #[] cap2], .pointer (some ⟨p, 0, none⟩), .agg #[.string nm, .int .i64 dl, .slice x1 x2 x3]] w1 fun en w' => en = .returned (.tuple #[]) ∧ WAt S w0 p (putW f s) w' ∧ w'.heap[bx]? = some (.cells cs t (0, 0)) := by
  obtain ⟨v, hv, h1, hD, hst⟩ := put_new h hb hB hS
  refine (PutPn (Wset p v) w1 p fn1 fn2 cap1 cap2 nm dl x1 x2 x3 f s _ h1 (hp p _ w1 (Agree.refl fun k hk => hk.1) hD) he).mono ?_
  rintro e w' ⟨rfl, h3⟩
  exact ⟨rfl, hst _ _ h3, h3.keep.blk hx (hv.not hx ht1 ht2)⟩
set_option maxRecDepth 10000 in
set_option maxHeartbeats 2000000 in
theorem putPlan_any (ki : Int) (nm : ByteArray) (dl : Int) (x1 : Option Addr) (x2 x3 : Nat) (ky : ByteArray) (la : Int) (wo : Int) (tk : Int) (y1 : Option Addr) (y2 y3 : Nat) (ru : Int) (lu : Int) (ti : Int) (S : Nat → Prop) (w0 W : World) (p B0 : Nat) (s : K.WS) (h : WAt S w0 p s W) (hB : B0 ≤ w0.heap.size) (hS : ∀ k, k < B0 → ¬ S k) (xs : List Gr.No) (h1 : Gr.RdP B0 W (x1, x2, x3) xs) (hBw : B0 ≤ W.heap.size) (hok : POk nm dl xs) :
    Calls Tryz.prog 84 #[.agg #[.int .i64 ki, .string nm, .int .i64 dl, .slice x1 x2 x3, .string ky, .int .i64 la, .int .i64 wo, .int .i64 tk, .slice y1 y2 y3, .int .i64 ru, .int .u64 lu, .int .i64 ti], .pointer (some ⟨p, 0, none⟩)] W fun en w' => en = .returned (.tuple #[]) ∧ WAt S w0 p (putW (planW (pv nm dl xs)) s) w' := by
  have hWW : Below W.heap.size W (W.alloc (.cells #[.int .i64 ki, .string nm, .int .i64 dl, .slice x1 x2 x3, .string ky, .int .i64 la, .int .i64 wo, .int .i64 tk, .slice y1 y2 y3, .int .i64 ru, .int .u64 lu, .int .i64 ti] 99)).drew := ((Below.refl _ _).alloc (Nat.le_refl _) _).drew
  have HX0 := hide (heap_alloc_new W (.cells #[.int .i64 ki, .string nm, .int .i64 dl, .slice x1 x2 x3, .string ky, .int .i64 la, .int .i64 wo, .int .i64 tk, .slice y1 y2 y3, .int .i64 ru, .int .u64 lu, .int .i64 ti] 99))
  have HXd : Hid ((W.alloc (.cells #[.int .i64 ki, .string nm, .int .i64 dl, .slice x1 x2 x3, .string ky, .int .i64 la, .int .i64 wo, .int .i64 tk, .slice y1 y2 y3, .int .i64 ru, .int .u64 lu, .int .i64 ti] 99)).drew.heap[W.heap.size]? = some (.cells #[.int .i64 ki, .string nm, .int .i64 dl, .slice x1 x2 x3, .string ky, .int .i64 la, .int .i64 wo, .int .i64 tk, .slice y1 y2 y3, .int .i64 ru, .int .u64 lu, .int .i64 ti] 99 (0, 0))) := HX0.out
  have HPT : Hid (∀ WW w2 : World, WW = (W.alloc (.cells #[.int .i64 ki, .string nm, .int .i64 dl, .slice x1 x2 x3, .string ky, .int .i64 la, .int .i64 wo, .int .i64 tk, .slice y1 y2 y3, .int .i64 ru, .int .u64 lu, .int .i64 ti] 99)).drew → Below WW.heap.size WW w2 → w2.heap[W.heap.size]? = some (.cells #[.int .i64 ki, .string nm, .int .i64 dl, .slice x1 x2 x3, .string ky, .int .i64 la, .int .i64 wo, .int .i64 tk, .slice y1 y2 y3, .int .i64 ru, .int .u64 lu, .int .i64 ti] 99 (0, 0)) → ∀ b1 b2 b3, PF WW.heap.size w2 b1 b2 b3 → Calls Tryz.prog 53 #[.agg #[.func (.func 57) #[] (capP b1 b2 b3), .func (.func 60) #[] (capP b1 b2 b3)], .pointer (some ⟨p, 0, none⟩), .agg #[.string nm, .int .i64 dl, .slice x1 x2 x3]] w2 fun en w' => en = .returned (.tuple #[]) ∧ WAt S w0 p (putW (planW (pv nm dl xs)) s) w' ∧ w'.heap[W.heap.size]? = some (.cells #[.int .i64 ki, .string nm, .int .i64 dl, .slice x1 x2 x3, .string ky, .int .i64 la, .int .i64 wo, .int .i64 tk, .slice y1 y2 y3, .int .i64 ru, .int .u64 lu, .int .i64 ti] 99 (0, 0))) := by
    intro WW w2 e hb2 hxx b1 b2 b3 hq
    have hWW : Below W.heap.size W WW := e ▸ hWW
    exact fnewPn (B0 := B0) (h.below hWW) hb2 hB hS (putsPlan (bf := (B0, WW.heap.size)) w2 b1 b2 b3 hq nm dl x1 x2 x3 xs (Nat.le_trans hBw (Nat.le_trans hWW.size hb2.size)) (h1.keep (below_keep (hWW.trans (hb2.mono hWW.size)) (Nat.le_refl _)) (fun _ f => f.elim)) hok) ent_putPlan hxx (by decide) (by decide)
  have d0 := cell_blk HX0.out 1 (v := .string nm) rfl
  have d1 := cell_blk HX0.out 2 (v := .int .i64 dl) rfl
  have d2 := cell_blk HX0.out 3 (v := .slice x1 x2 x3) rfl
  have HMK := hide (planFields_any (W.alloc (.cells #[.int .i64 ki, .string nm, .int .i64 dl, .slice x1 x2 x3, .string ky, .int .i64 la, .int .i64 wo, .int .i64 tk, .slice y1 y2 y3, .int .i64 ru, .int .u64 lu, .int .i64 ti] 99)).drew)
  clear h hB hS h1 hBw hok hWW
  go_enter Tryz.func84, Tryz.ntmps84
  go_upto_region 1 with fail
  generalize hW0 : W.alloc (.cells #[.int .i64 ki, .string nm, .int .i64 dl, .slice x1 x2 x3, .string ky, .int .i64 la, .int .i64 wo, .int .i64 tk, .slice y1 y2 y3, .int .i64 ru, .int .u64 lu, .int .i64 ti] 99) = W0 at *
  go_region_held3 (fun wx => wx.cell? ⟨W.heap.size, 1, none⟩ = some (.string nm) ∧ wx.cell? ⟨W.heap.size, 2, none⟩ = some (.int .i64 dl) ∧ wx.cell? ⟨W.heap.size, 3, none⟩ = some (.slice x1 x2 x3)) (first | (exact ⟨d0, d1, d2⟩) | (exact HS2.out) | (exact HS3.out) | go_keep) (first
    | (go_at_call 53; refine PT.out.mono ?_; rintro e w3 ⟨rfl, h3, hx3⟩; have H3 := hide h3; have HS3 : Hid (w3.cell? ⟨W.heap.size, 1, none⟩ = some (.string nm) ∧ w3.cell? ⟨W.heap.size, 2, none⟩ = some (.int .i64 dl) ∧ w3.cell? ⟨W.heap.size, 3, none⟩ = some (.slice x1 x2 x3)) := ⟨cell_blk hx3 1 rfl, cell_blk hx3 2 rfl, cell_blk hx3 3 rfl⟩; clear h3 hx3 PT)
    | (go_at_call 29; refine HMK.out.mono ?_; rintro e w2 ⟨b1, b2, b3, rfl, hq, hb⟩; have HX2 := hide (blkB HXd.out hb); have PT := hide (HPT.out _ w2 rfl hb HX2.out b1 b2 b3 hq); have HS2 : Hid (w2.cell? ⟨W.heap.size, 1, none⟩ = some (.string nm) ∧ w2.cell? ⟨W.heap.size, 2, none⟩ = some (.int .i64 dl) ∧ w2.cell? ⟨W.heap.size, 3, none⟩ = some (.slice x1 x2 x3)) := ⟨cell_blk HX2.out 1 rfl, cell_blk HX2.out 2 rfl, cell_blk HX2.out 3 rfl⟩; clear hq hb HMK))
  all_goals go_wp2
  all_goals first | go_end0 | refine bodyPost_ret (results_none rfl _ _ _) rfl ?_
  all_goals exact ⟨rfl, H3.out⟩
set_option maxRecDepth 10000 in
set_option maxHeartbeats 2000000 in
theorem putKey_any (ki : Int) (nm : ByteArray) (dl : Int) (x1 : Option Addr) (x2 x3 : Nat) (ky : ByteArray) (la : Int) (wo : Int) (tk : Int) (y1 : Option Addr) (y2 y3 : Nat) (ru : Int) (lu : Int) (ti : Int) (S : Nat → Prop) (w0 W : World) (p B0 : Nat) (s : K.WS) (h : WAt S w0 p s W) (hB : B0 ≤ w0.heap.size) (hS : ∀ k, k < B0 → ¬ S k) (hx : ky.size ≤ 140737488351232) :
    Calls Tryz.prog 86 #[.agg #[.int .i64 ki, .string nm, .int .i64 dl, .slice x1 x2 x3, .string ky, .int .i64 la, .int .i64 wo, .int .i64 tk, .slice y1 y2 y3, .int .i64 ru, .int .u64 lu, .int .i64 ti], .pointer (some ⟨p, 0, none⟩)] W fun en w' => en = .returned (.tuple #[]) ∧ WAt S w0 p (putW (textW 40 (sb ky)) s) w' := by
  have hWW : Below W.heap.size W (W.alloc (.cells #[.int .i64 ki, .string nm, .int .i64 dl, .slice x1 x2 x3, .string ky, .int .i64 la, .int .i64 wo, .int .i64 tk, .slice y1 y2 y3, .int .i64 ru, .int .u64 lu, .int .i64 ti] 99)).drew := ((Below.refl _ _).alloc (Nat.le_refl _) _).drew
  have HX0 := hide (heap_alloc_new W (.cells #[.int .i64 ki, .string nm, .int .i64 dl, .slice x1 x2 x3, .string ky, .int .i64 la, .int .i64 wo, .int .i64 tk, .slice y1 y2 y3, .int .i64 ru, .int .u64 lu, .int .i64 ti] 99))
  have HXd : Hid ((W.alloc (.cells #[.int .i64 ki, .string nm, .int .i64 dl, .slice x1 x2 x3, .string ky, .int .i64 la, .int .i64 wo, .int .i64 tk, .slice y1 y2 y3, .int .i64 ru, .int .u64 lu, .int .i64 ti] 99)).drew.heap[W.heap.size]? = some (.cells #[.int .i64 ki, .string nm, .int .i64 dl, .slice x1 x2 x3, .string ky, .int .i64 la, .int .i64 wo, .int .i64 tk, .slice y1 y2 y3, .int .i64 ru, .int .u64 lu, .int .i64 ti] 99 (0, 0))) := HX0.out
  have HPT : Hid (∀ WW w2 : World, WW = (W.alloc (.cells #[.int .i64 ki, .string nm, .int .i64 dl, .slice x1 x2 x3, .string ky, .int .i64 la, .int .i64 wo, .int .i64 tk, .slice y1 y2 y3, .int .i64 ru, .int .u64 lu, .int .i64 ti] 99)).drew → Below WW.heap.size WW w2 → w2.heap[W.heap.size]? = some (.cells #[.int .i64 ki, .string nm, .int .i64 dl, .slice x1 x2 x3, .string ky, .int .i64 la, .int .i64 wo, .int .i64 tk, .slice y1 y2 y3, .int .i64 ru, .int .u64 lu, .int .i64 ti] 99 (0, 0)) → ∀ m, w2.cell? ⟨m, 0, none⟩ = some (.int .i64 40) → WW.heap.size ≤ m → Calls Tryz.prog 58 #[.agg #[.func (.func 155) #[] (#[.pointer (some ⟨m, 0, none⟩)]), .func (.func 157) #[] (#[.pointer (some ⟨m, 0, none⟩)])], .pointer (some ⟨p, 0, none⟩), .string ky] w2 fun en w' => en = .returned (.tuple #[]) ∧ WAt S w0 p (putW (textW 40 (sb ky)) s) w' ∧ w'.heap[W.heap.size]? = some (.cells #[.int .i64 ki, .string nm, .int .i64 dl, .slice x1 x2 x3, .string ky, .int .i64 la, .int .i64 wo, .int .i64 tk, .slice y1 y2 y3, .int .i64 ru, .int .u64 lu, .int .i64 ti] 99 (0, 0))) := by
    intro WW w2 e hb2 hxx m hm hlm
    have hWW : Below W.heap.size W WW := e ▸ hWW
    exact fnewS (B0 := B0) (h.below hWW) hb2 hB hS (putsText _ _ m 40 ky hx hm (clM hm hlm)) ent_putText hxx (by decide) (by decide)
  have d0 := cell_blk HX0.out 4 (v := .string ky) rfl
  have HMK := hide (keys_any (W.alloc (.cells #[.int .i64 ki, .string nm, .int .i64 dl, .slice x1 x2 x3, .string ky, .int .i64 la, .int .i64 wo, .int .i64 tk, .slice y1 y2 y3, .int .i64 ru, .int .u64 lu, .int .i64 ti] 99)).drew)
  clear h hB hS hx hWW
  go_enter Tryz.func86, Tryz.ntmps86
  go_upto_region 1 with fail
  generalize hW0 : W.alloc (.cells #[.int .i64 ki, .string nm, .int .i64 dl, .slice x1 x2 x3, .string ky, .int .i64 la, .int .i64 wo, .int .i64 tk, .slice y1 y2 y3, .int .i64 ru, .int .u64 lu, .int .i64 ti] 99) = W0 at *
  go_region_held3 (fun wx => wx.cell? ⟨W.heap.size, 4, none⟩ = some (.string ky)) (first | (exact d0) | (exact HS2.out) | (exact HS3.out) | go_keep) (first
    | (go_at_call 58; refine PT.out.mono ?_; rintro e w3 ⟨rfl, h3, hx3⟩; have H3 := hide h3; have HS3 : Hid (w3.cell? ⟨W.heap.size, 4, none⟩ = some (.string ky)) := cell_blk hx3 4 rfl; clear h3 hx3 PT)
    | (go_at_call 138; refine HMK.out.mono ?_; rintro e w2 ⟨m, rfl, hm, hlm, hb⟩; have HX2 := hide (blkB HXd.out hb); have PT := hide (HPT.out _ w2 rfl hb HX2.out m hm hlm); have HS2 : Hid (w2.cell? ⟨W.heap.size, 4, none⟩ = some (.string ky)) := cell_blk HX2.out 4 rfl; clear hm hlm hb HMK))
  all_goals go_wp2
  all_goals first | go_end0 | refine bodyPost_ret (results_none rfl _ _ _) rfl ?_
  all_goals exact ⟨rfl, H3.out⟩
set_option maxRecDepth 10000 in
set_option maxHeartbeats 2000000 in
theorem putLane_any (ki : Int) (nm : ByteArray) (dl : Int) (x1 : Option Addr) (x2 x3 : Nat) (ky : ByteArray) (la : Int) (wo : Int) (tk : Int) (y1 : Option Addr) (y2 y3 : Nat) (ru : Int) (lu : Int) (ti : Int) (S : Nat → Prop) (w0 W : World) (p B0 : Nat) (s : K.WS) (h : WAt S w0 p s W) (hB : B0 ≤ w0.heap.size) (hS : ∀ k, k < B0 → ¬ S k) (hx : la ≤ 9223372036854775807) :
    Calls Tryz.prog 88 #[.agg #[.int .i64 ki, .string nm, .int .i64 dl, .slice x1 x2 x3, .string ky, .int .i64 la, .int .i64 wo, .int .i64 tk, .slice y1 y2 y3, .int .i64 ru, .int .u64 lu, .int .i64 ti], .pointer (some ⟨p, 0, none⟩)] W fun en w' => en = .returned (.tuple #[]) ∧ WAt S w0 p (putW (numW 0 15 la) s) w' := by
  have hWW : Below W.heap.size W (W.alloc (.cells #[.int .i64 ki, .string nm, .int .i64 dl, .slice x1 x2 x3, .string ky, .int .i64 la, .int .i64 wo, .int .i64 tk, .slice y1 y2 y3, .int .i64 ru, .int .u64 lu, .int .i64 ti] 99)).drew := ((Below.refl _ _).alloc (Nat.le_refl _) _).drew
  have HX0 := hide (heap_alloc_new W (.cells #[.int .i64 ki, .string nm, .int .i64 dl, .slice x1 x2 x3, .string ky, .int .i64 la, .int .i64 wo, .int .i64 tk, .slice y1 y2 y3, .int .i64 ru, .int .u64 lu, .int .i64 ti] 99))
  have HXd : Hid ((W.alloc (.cells #[.int .i64 ki, .string nm, .int .i64 dl, .slice x1 x2 x3, .string ky, .int .i64 la, .int .i64 wo, .int .i64 tk, .slice y1 y2 y3, .int .i64 ru, .int .u64 lu, .int .i64 ti] 99)).drew.heap[W.heap.size]? = some (.cells #[.int .i64 ki, .string nm, .int .i64 dl, .slice x1 x2 x3, .string ky, .int .i64 la, .int .i64 wo, .int .i64 tk, .slice y1 y2 y3, .int .i64 ru, .int .u64 lu, .int .i64 ti] 99 (0, 0))) := HX0.out
  have HPT : Hid (∀ WW w2 : World, WW = (W.alloc (.cells #[.int .i64 ki, .string nm, .int .i64 dl, .slice x1 x2 x3, .string ky, .int .i64 la, .int .i64 wo, .int .i64 tk, .slice y1 y2 y3, .int .i64 ru, .int .u64 lu, .int .i64 ti] 99)).drew → Below WW.heap.size WW w2 → w2.heap[W.heap.size]? = some (.cells #[.int .i64 ki, .string nm, .int .i64 dl, .slice x1 x2 x3, .string ky, .int .i64 la, .int .i64 wo, .int .i64 tk, .slice y1 y2 y3, .int .i64 ru, .int .u64 lu, .int .i64 ti] 99 (0, 0)) → ∀ l m, w2.cell? ⟨l, 0, none⟩ = some (.int .i64 0) → w2.cell? ⟨m, 0, none⟩ = some (.int .i64 15) → WW.heap.size ≤ l → WW.heap.size ≤ m → Calls Tryz.prog 46 #[.agg #[.func (.func 78) #[] (#[.pointer (some ⟨l, 0, none⟩), .pointer (some ⟨m, 0, none⟩)]), .func (.func 81) #[] (#[.pointer (some ⟨l, 0, none⟩), .pointer (some ⟨m, 0, none⟩)])], .pointer (some ⟨p, 0, none⟩), .int .i64 la] w2 fun en w' => en = .returned (.tuple #[]) ∧ WAt S w0 p (putW (numW 0 15 la) s) w' ∧ w'.heap[W.heap.size]? = some (.cells #[.int .i64 ki, .string nm, .int .i64 dl, .slice x1 x2 x3, .string ky, .int .i64 la, .int .i64 wo, .int .i64 tk, .slice y1 y2 y3, .int .i64 ru, .int .u64 lu, .int .i64 ti] 99 (0, 0))) := by
    intro WW w2 e hb2 hxx l m hl hm hll hlm
    have hWW : Below W.heap.size W WW := e ▸ hWW
    exact fnewI (B0 := B0) (h.below hWW) hb2 hB hS (putsNum _ _ l m 0 15 la hx hl hm (clM hl hll) (clM hm hlm)) ent_putNum hxx (by decide) (by decide)
  have d0 := cell_blk HX0.out 5 (v := .int .i64 la) rfl
  have HMK := hide (lanes_any (W.alloc (.cells #[.int .i64 ki, .string nm, .int .i64 dl, .slice x1 x2 x3, .string ky, .int .i64 la, .int .i64 wo, .int .i64 tk, .slice y1 y2 y3, .int .i64 ru, .int .u64 lu, .int .i64 ti] 99)).drew)
  clear h hB hS hx hWW
  go_enter Tryz.func88, Tryz.ntmps88
  go_upto_region 1 with fail
  generalize hW0 : W.alloc (.cells #[.int .i64 ki, .string nm, .int .i64 dl, .slice x1 x2 x3, .string ky, .int .i64 la, .int .i64 wo, .int .i64 tk, .slice y1 y2 y3, .int .i64 ru, .int .u64 lu, .int .i64 ti] 99) = W0 at *
  go_region_held3 (fun wx => wx.cell? ⟨W.heap.size, 5, none⟩ = some (.int .i64 la)) (first | (exact d0) | (exact HS2.out) | (exact HS3.out) | go_keep) (first
    | (go_at_call 46; refine PT.out.mono ?_; rintro e w3 ⟨rfl, h3, hx3⟩; have H3 := hide h3; have HS3 : Hid (w3.cell? ⟨W.heap.size, 5, none⟩ = some (.int .i64 la)) := cell_blk hx3 5 rfl; clear h3 hx3 PT)
    | (go_at_call 121; refine HMK.out.mono ?_; rintro e w2 ⟨l, m, rfl, hl, hm, hll, hlm, hb⟩; have HX2 := hide (blkB HXd.out hb); have PT := hide (HPT.out _ w2 rfl hb HX2.out l m hl hm hll hlm); have HS2 : Hid (w2.cell? ⟨W.heap.size, 5, none⟩ = some (.int .i64 la)) := cell_blk HX2.out 5 rfl; clear hl hm hll hlm hb HMK))
  all_goals go_wp2
  all_goals first | go_end0 | refine bodyPost_ret (results_none rfl _ _ _) rfl ?_
  all_goals exact ⟨rfl, H3.out⟩
set_option maxRecDepth 10000 in
set_option maxHeartbeats 2000000 in
theorem putWorker_any (ki : Int) (nm : ByteArray) (dl : Int) (x1 : Option Addr) (x2 x3 : Nat) (ky : ByteArray) (la : Int) (wo : Int) (tk : Int) (y1 : Option Addr) (y2 y3 : Nat) (ru : Int) (lu : Int) (ti : Int) (S : Nat → Prop) (w0 W : World) (p B0 : Nat) (s : K.WS) (h : WAt S w0 p s W) (hB : B0 ≤ w0.heap.size) (hS : ∀ k, k < B0 → ¬ S k) (hx : wo ≤ 9223372036854775807) :
    Calls Tryz.prog 90 #[.agg #[.int .i64 ki, .string nm, .int .i64 dl, .slice x1 x2 x3, .string ky, .int .i64 la, .int .i64 wo, .int .i64 tk, .slice y1 y2 y3, .int .i64 ru, .int .u64 lu, .int .i64 ti], .pointer (some ⟨p, 0, none⟩)] W fun en w' => en = .returned (.tuple #[]) ∧ WAt S w0 p (putW (numW 0 1099511627776 wo) s) w' := by
  have hWW : Below W.heap.size W (W.alloc (.cells #[.int .i64 ki, .string nm, .int .i64 dl, .slice x1 x2 x3, .string ky, .int .i64 la, .int .i64 wo, .int .i64 tk, .slice y1 y2 y3, .int .i64 ru, .int .u64 lu, .int .i64 ti] 99)).drew := ((Below.refl _ _).alloc (Nat.le_refl _) _).drew
  have HX0 := hide (heap_alloc_new W (.cells #[.int .i64 ki, .string nm, .int .i64 dl, .slice x1 x2 x3, .string ky, .int .i64 la, .int .i64 wo, .int .i64 tk, .slice y1 y2 y3, .int .i64 ru, .int .u64 lu, .int .i64 ti] 99))
  have HXd : Hid ((W.alloc (.cells #[.int .i64 ki, .string nm, .int .i64 dl, .slice x1 x2 x3, .string ky, .int .i64 la, .int .i64 wo, .int .i64 tk, .slice y1 y2 y3, .int .i64 ru, .int .u64 lu, .int .i64 ti] 99)).drew.heap[W.heap.size]? = some (.cells #[.int .i64 ki, .string nm, .int .i64 dl, .slice x1 x2 x3, .string ky, .int .i64 la, .int .i64 wo, .int .i64 tk, .slice y1 y2 y3, .int .i64 ru, .int .u64 lu, .int .i64 ti] 99 (0, 0))) := HX0.out
  have HPT : Hid (∀ WW w2 : World, WW = (W.alloc (.cells #[.int .i64 ki, .string nm, .int .i64 dl, .slice x1 x2 x3, .string ky, .int .i64 la, .int .i64 wo, .int .i64 tk, .slice y1 y2 y3, .int .i64 ru, .int .u64 lu, .int .i64 ti] 99)).drew → Below WW.heap.size WW w2 → w2.heap[W.heap.size]? = some (.cells #[.int .i64 ki, .string nm, .int .i64 dl, .slice x1 x2 x3, .string ky, .int .i64 la, .int .i64 wo, .int .i64 tk, .slice y1 y2 y3, .int .i64 ru, .int .u64 lu, .int .i64 ti] 99 (0, 0)) → ∀ l m, w2.cell? ⟨l, 0, none⟩ = some (.int .i64 0) → w2.cell? ⟨m, 0, none⟩ = some (.int .i64 1099511627776) → WW.heap.size ≤ l → WW.heap.size ≤ m → Calls Tryz.prog 46 #[.agg #[.func (.func 78) #[] (#[.pointer (some ⟨l, 0, none⟩), .pointer (some ⟨m, 0, none⟩)]), .func (.func 81) #[] (#[.pointer (some ⟨l, 0, none⟩), .pointer (some ⟨m, 0, none⟩)])], .pointer (some ⟨p, 0, none⟩), .int .i64 wo] w2 fun en w' => en = .returned (.tuple #[]) ∧ WAt S w0 p (putW (numW 0 1099511627776 wo) s) w' ∧ w'.heap[W.heap.size]? = some (.cells #[.int .i64 ki, .string nm, .int .i64 dl, .slice x1 x2 x3, .string ky, .int .i64 la, .int .i64 wo, .int .i64 tk, .slice y1 y2 y3, .int .i64 ru, .int .u64 lu, .int .i64 ti] 99 (0, 0))) := by
    intro WW w2 e hb2 hxx l m hl hm hll hlm
    have hWW : Below W.heap.size W WW := e ▸ hWW
    exact fnewI (B0 := B0) (h.below hWW) hb2 hB hS (putsNum _ _ l m 0 1099511627776 wo hx hl hm (clM hl hll) (clM hm hlm)) ent_putNum hxx (by decide) (by decide)
  have d0 := cell_blk HX0.out 6 (v := .int .i64 wo) rfl
  have HMK := hide (workers_any (W.alloc (.cells #[.int .i64 ki, .string nm, .int .i64 dl, .slice x1 x2 x3, .string ky, .int .i64 la, .int .i64 wo, .int .i64 tk, .slice y1 y2 y3, .int .i64 ru, .int .u64 lu, .int .i64 ti] 99)).drew)
  clear h hB hS hx hWW
  go_enter Tryz.func90, Tryz.ntmps90
  go_upto_region 1 with fail
  generalize hW0 : W.alloc (.cells #[.int .i64 ki, .string nm, .int .i64 dl, .slice x1 x2 x3, .string ky, .int .i64 la, .int .i64 wo, .int .i64 tk, .slice y1 y2 y3, .int .i64 ru, .int .u64 lu, .int .i64 ti] 99) = W0 at *
  go_region_held3 (fun wx => wx.cell? ⟨W.heap.size, 6, none⟩ = some (.int .i64 wo)) (first | (exact d0) | (exact HS2.out) | (exact HS3.out) | go_keep) (first
    | (go_at_call 46; refine PT.out.mono ?_; rintro e w3 ⟨rfl, h3, hx3⟩; have H3 := hide h3; have HS3 : Hid (w3.cell? ⟨W.heap.size, 6, none⟩ = some (.int .i64 wo)) := cell_blk hx3 6 rfl; clear h3 hx3 PT)
    | (go_at_call 139; refine HMK.out.mono ?_; rintro e w2 ⟨l, m, rfl, hl, hm, hll, hlm, hb⟩; have HX2 := hide (blkB HXd.out hb); have PT := hide (HPT.out _ w2 rfl hb HX2.out l m hl hm hll hlm); have HS2 : Hid (w2.cell? ⟨W.heap.size, 6, none⟩ = some (.int .i64 wo)) := cell_blk HX2.out 6 rfl; clear hl hm hll hlm hb HMK))
  all_goals go_wp2
  all_goals first | go_end0 | refine bodyPost_ret (results_none rfl _ _ _) rfl ?_
  all_goals exact ⟨rfl, H3.out⟩
set_option maxRecDepth 10000 in
set_option maxHeartbeats 2000000 in
theorem putToken_any (ki : Int) (nm : ByteArray) (dl : Int) (x1 : Option Addr) (x2 x3 : Nat) (ky : ByteArray) (la : Int) (wo : Int) (tk : Int) (y1 : Option Addr) (y2 y3 : Nat) (ru : Int) (lu : Int) (ti : Int) (S : Nat → Prop) (w0 W : World) (p B0 : Nat) (s : K.WS) (h : WAt S w0 p s W) (hB : B0 ≤ w0.heap.size) (hS : ∀ k, k < B0 → ¬ S k) (hx : tk ≤ 9223372036854775807) :
    Calls Tryz.prog 92 #[.agg #[.int .i64 ki, .string nm, .int .i64 dl, .slice x1 x2 x3, .string ky, .int .i64 la, .int .i64 wo, .int .i64 tk, .slice y1 y2 y3, .int .i64 ru, .int .u64 lu, .int .i64 ti], .pointer (some ⟨p, 0, none⟩)] W fun en w' => en = .returned (.tuple #[]) ∧ WAt S w0 p (putW (numW 1 1099511627776 tk) s) w' := by
  have hWW : Below W.heap.size W (W.alloc (.cells #[.int .i64 ki, .string nm, .int .i64 dl, .slice x1 x2 x3, .string ky, .int .i64 la, .int .i64 wo, .int .i64 tk, .slice y1 y2 y3, .int .i64 ru, .int .u64 lu, .int .i64 ti] 99)).drew := ((Below.refl _ _).alloc (Nat.le_refl _) _).drew
  have HX0 := hide (heap_alloc_new W (.cells #[.int .i64 ki, .string nm, .int .i64 dl, .slice x1 x2 x3, .string ky, .int .i64 la, .int .i64 wo, .int .i64 tk, .slice y1 y2 y3, .int .i64 ru, .int .u64 lu, .int .i64 ti] 99))
  have HXd : Hid ((W.alloc (.cells #[.int .i64 ki, .string nm, .int .i64 dl, .slice x1 x2 x3, .string ky, .int .i64 la, .int .i64 wo, .int .i64 tk, .slice y1 y2 y3, .int .i64 ru, .int .u64 lu, .int .i64 ti] 99)).drew.heap[W.heap.size]? = some (.cells #[.int .i64 ki, .string nm, .int .i64 dl, .slice x1 x2 x3, .string ky, .int .i64 la, .int .i64 wo, .int .i64 tk, .slice y1 y2 y3, .int .i64 ru, .int .u64 lu, .int .i64 ti] 99 (0, 0))) := HX0.out
  have HPT : Hid (∀ WW w2 : World, WW = (W.alloc (.cells #[.int .i64 ki, .string nm, .int .i64 dl, .slice x1 x2 x3, .string ky, .int .i64 la, .int .i64 wo, .int .i64 tk, .slice y1 y2 y3, .int .i64 ru, .int .u64 lu, .int .i64 ti] 99)).drew → Below WW.heap.size WW w2 → w2.heap[W.heap.size]? = some (.cells #[.int .i64 ki, .string nm, .int .i64 dl, .slice x1 x2 x3, .string ky, .int .i64 la, .int .i64 wo, .int .i64 tk, .slice y1 y2 y3, .int .i64 ru, .int .u64 lu, .int .i64 ti] 99 (0, 0)) → ∀ l m, w2.cell? ⟨l, 0, none⟩ = some (.int .i64 1) → w2.cell? ⟨m, 0, none⟩ = some (.int .i64 1099511627776) → WW.heap.size ≤ l → WW.heap.size ≤ m → Calls Tryz.prog 46 #[.agg #[.func (.func 78) #[] (#[.pointer (some ⟨l, 0, none⟩), .pointer (some ⟨m, 0, none⟩)]), .func (.func 81) #[] (#[.pointer (some ⟨l, 0, none⟩), .pointer (some ⟨m, 0, none⟩)])], .pointer (some ⟨p, 0, none⟩), .int .i64 tk] w2 fun en w' => en = .returned (.tuple #[]) ∧ WAt S w0 p (putW (numW 1 1099511627776 tk) s) w' ∧ w'.heap[W.heap.size]? = some (.cells #[.int .i64 ki, .string nm, .int .i64 dl, .slice x1 x2 x3, .string ky, .int .i64 la, .int .i64 wo, .int .i64 tk, .slice y1 y2 y3, .int .i64 ru, .int .u64 lu, .int .i64 ti] 99 (0, 0))) := by
    intro WW w2 e hb2 hxx l m hl hm hll hlm
    have hWW : Below W.heap.size W WW := e ▸ hWW
    exact fnewI (B0 := B0) (h.below hWW) hb2 hB hS (putsNum _ _ l m 1 1099511627776 tk hx hl hm (clM hl hll) (clM hm hlm)) ent_putNum hxx (by decide) (by decide)
  have d0 := cell_blk HX0.out 7 (v := .int .i64 tk) rfl
  have HMK := hide (counts_any (W.alloc (.cells #[.int .i64 ki, .string nm, .int .i64 dl, .slice x1 x2 x3, .string ky, .int .i64 la, .int .i64 wo, .int .i64 tk, .slice y1 y2 y3, .int .i64 ru, .int .u64 lu, .int .i64 ti] 99)).drew)
  clear h hB hS hx hWW
  go_enter Tryz.func92, Tryz.ntmps92
  go_upto_region 1 with fail
  generalize hW0 : W.alloc (.cells #[.int .i64 ki, .string nm, .int .i64 dl, .slice x1 x2 x3, .string ky, .int .i64 la, .int .i64 wo, .int .i64 tk, .slice y1 y2 y3, .int .i64 ru, .int .u64 lu, .int .i64 ti] 99) = W0 at *
  go_region_held3 (fun wx => wx.cell? ⟨W.heap.size, 7, none⟩ = some (.int .i64 tk)) (first | (exact d0) | (exact HS2.out) | (exact HS3.out) | go_keep) (first
    | (go_at_call 46; refine PT.out.mono ?_; rintro e w3 ⟨rfl, h3, hx3⟩; have H3 := hide h3; have HS3 : Hid (w3.cell? ⟨W.heap.size, 7, none⟩ = some (.int .i64 tk)) := cell_blk hx3 7 rfl; clear h3 hx3 PT)
    | (go_at_call 140; refine HMK.out.mono ?_; rintro e w2 ⟨l, m, rfl, hl, hm, hll, hlm, hb⟩; have HX2 := hide (blkB HXd.out hb); have PT := hide (HPT.out _ w2 rfl hb HX2.out l m hl hm hll hlm); have HS2 : Hid (w2.cell? ⟨W.heap.size, 7, none⟩ = some (.int .i64 tk)) := cell_blk HX2.out 7 rfl; clear hl hm hll hlm hb HMK))
  all_goals go_wp2
  all_goals first | go_end0 | refine bodyPost_ret (results_none rfl _ _ _) rfl ?_
  all_goals exact ⟨rfl, H3.out⟩
set_option maxRecDepth 10000 in
set_option maxHeartbeats 2000000 in
theorem putResult_any (ki : Int) (nm : ByteArray) (dl : Int) (x1 : Option Addr) (x2 x3 : Nat) (ky : ByteArray) (la : Int) (wo : Int) (tk : Int) (y1 : Option Addr) (y2 y3 : Nat) (ru : Int) (lu : Int) (ti : Int) (S : Nat → Prop) (w0 W : World) (p B0 : Nat) (s : K.WS) (h : WAt S w0 p s W) (hB : B0 ≤ w0.heap.size) (hS : ∀ k, k < B0 → ¬ S k) (ly : List Nat) (hr : Rd W y1 y2 ly) (hyn : y2 ≤ 140737488351232) (h0 : y1 = none → y3 = 0) (hyD : y2 ≠ 0 → ∀ b off, y1 = some ⟨b, off, none⟩ → b < B0) (hBw : B0 ≤ W.heap.size) :
    Calls Tryz.prog 94 #[.agg #[.int .i64 ki, .string nm, .int .i64 dl, .slice x1 x2 x3, .string ky, .int .i64 la, .int .i64 wo, .int .i64 tk, .slice y1 y2 y3, .int .i64 ru, .int .u64 lu, .int .i64 ti], .pointer (some ⟨p, 0, none⟩)] W fun en w' => en = .returned (.tuple #[]) ∧ WAt S w0 p (putW (textW 64 ly) s) w' := by
  have hWW : Below W.heap.size W (W.alloc (.cells #[.int .i64 ki, .string nm, .int .i64 dl, .slice x1 x2 x3, .string ky, .int .i64 la, .int .i64 wo, .int .i64 tk, .slice y1 y2 y3, .int .i64 ru, .int .u64 lu, .int .i64 ti] 99)).drew := ((Below.refl _ _).alloc (Nat.le_refl _) _).drew
  have HX0 := hide (heap_alloc_new W (.cells #[.int .i64 ki, .string nm, .int .i64 dl, .slice x1 x2 x3, .string ky, .int .i64 la, .int .i64 wo, .int .i64 tk, .slice y1 y2 y3, .int .i64 ru, .int .u64 lu, .int .i64 ti] 99))
  have HXd : Hid ((W.alloc (.cells #[.int .i64 ki, .string nm, .int .i64 dl, .slice x1 x2 x3, .string ky, .int .i64 la, .int .i64 wo, .int .i64 tk, .slice y1 y2 y3, .int .i64 ru, .int .u64 lu, .int .i64 ti] 99)).drew.heap[W.heap.size]? = some (.cells #[.int .i64 ki, .string nm, .int .i64 dl, .slice x1 x2 x3, .string ky, .int .i64 la, .int .i64 wo, .int .i64 tk, .slice y1 y2 y3, .int .i64 ru, .int .u64 lu, .int .i64 ti] 99 (0, 0))) := HX0.out
  have HPT : Hid (∀ WW w2 : World, WW = (W.alloc (.cells #[.int .i64 ki, .string nm, .int .i64 dl, .slice x1 x2 x3, .string ky, .int .i64 la, .int .i64 wo, .int .i64 tk, .slice y1 y2 y3, .int .i64 ru, .int .u64 lu, .int .i64 ti] 99)).drew → Below WW.heap.size WW w2 → w2.heap[W.heap.size]? = some (.cells #[.int .i64 ki, .string nm, .int .i64 dl, .slice x1 x2 x3, .string ky, .int .i64 la, .int .i64 wo, .int .i64 tk, .slice y1 y2 y3, .int .i64 ru, .int .u64 lu, .int .i64 ti] 99 (0, 0)) → ∀ m, w2.cell? ⟨m, 0, none⟩ = some (.int .i64 64) → WW.heap.size ≤ m → Calls Tryz.prog 142 #[.agg #[.func (.func 186) #[] (#[.pointer (some ⟨m, 0, none⟩)]), .func (.func 188) #[] (#[.pointer (some ⟨m, 0, none⟩)])], .pointer (some ⟨p, 0, none⟩), .slice y1 y2 y3] w2 fun en w' => en = .returned (.tuple #[]) ∧ WAt S w0 p (putW (textW 64 ly) s) w' ∧ w'.heap[W.heap.size]? = some (.cells #[.int .i64 ki, .string nm, .int .i64 dl, .slice x1 x2 x3, .string ky, .int .i64 la, .int .i64 wo, .int .i64 tk, .slice y1 y2 y3, .int .i64 ru, .int .u64 lu, .int .i64 ti] 99 (0, 0))) := by
    intro WW w2 e hb2 hxx m hm hlm
    have hWW : Below W.heap.size W WW := e ▸ hWW
    exact fnewB (B0 := B0) (h.below hWW) hb2 hB hS (putsBlob _ _ m 64 y1 y2 y3 ly (hr.keep (hWW.trans (hb2.mono hWW.size))) hyn h0 (fun hn b off e => ⟨Nat.lt_of_lt_of_le (hyD hn b off e) (Nat.le_trans hBw (Nat.le_trans hWW.size hb2.size)), .inl (hyD hn b off e)⟩) hm (clM hm hlm)) ent_putBlob hxx (by decide) (by decide)
  have d0 := cell_blk HX0.out 8 (v := .slice y1 y2 y3) rfl
  have HMK := hide (results_any (W.alloc (.cells #[.int .i64 ki, .string nm, .int .i64 dl, .slice x1 x2 x3, .string ky, .int .i64 la, .int .i64 wo, .int .i64 tk, .slice y1 y2 y3, .int .i64 ru, .int .u64 lu, .int .i64 ti] 99)).drew)
  clear h hB hS hr hyn h0 hyD hBw hWW
  go_enter Tryz.func94, Tryz.ntmps94
  go_upto_region 1 with fail
  generalize hW0 : W.alloc (.cells #[.int .i64 ki, .string nm, .int .i64 dl, .slice x1 x2 x3, .string ky, .int .i64 la, .int .i64 wo, .int .i64 tk, .slice y1 y2 y3, .int .i64 ru, .int .u64 lu, .int .i64 ti] 99) = W0 at *
  go_region_held3 (fun wx => wx.cell? ⟨W.heap.size, 8, none⟩ = some (.slice y1 y2 y3)) (first | (exact d0) | (exact HS2.out) | (exact HS3.out) | go_keep) (first
    | (go_at_call 142; refine PT.out.mono ?_; rintro e w3 ⟨rfl, h3, hx3⟩; have H3 := hide h3; have HS3 : Hid (w3.cell? ⟨W.heap.size, 8, none⟩ = some (.slice y1 y2 y3)) := cell_blk hx3 8 rfl; clear h3 hx3 PT)
    | (go_at_call 141; refine HMK.out.mono ?_; rintro e w2 ⟨m, rfl, hm, hlm, hb⟩; have HX2 := hide (blkB HXd.out hb); have PT := hide (HPT.out _ w2 rfl hb HX2.out m hm hlm); have HS2 : Hid (w2.cell? ⟨W.heap.size, 8, none⟩ = some (.slice y1 y2 y3)) := cell_blk HX2.out 8 rfl; clear hm hlm hb HMK))
  all_goals go_wp2
  all_goals first | go_end0 | refine bodyPost_ret (results_none rfl _ _ _) rfl ?_
  all_goals exact ⟨rfl, H3.out⟩
set_option maxRecDepth 10000 in
set_option maxHeartbeats 2000000 in
theorem putRun_any (ki : Int) (nm : ByteArray) (dl : Int) (x1 : Option Addr) (x2 x3 : Nat) (ky : ByteArray) (la : Int) (wo : Int) (tk : Int) (y1 : Option Addr) (y2 y3 : Nat) (ru : Int) (lu : Int) (ti : Int) (S : Nat → Prop) (w0 W : World) (p B0 : Nat) (s : K.WS) (h : WAt S w0 p s W) (hB : B0 ≤ w0.heap.size) (hS : ∀ k, k < B0 → ¬ S k) (hx : ru ≤ 9223372036854775807) :
    Calls Tryz.prog 96 #[.agg #[.int .i64 ki, .string nm, .int .i64 dl, .slice x1 x2 x3, .string ky, .int .i64 la, .int .i64 wo, .int .i64 tk, .slice y1 y2 y3, .int .i64 ru, .int .u64 lu, .int .i64 ti], .pointer (some ⟨p, 0, none⟩)] W fun en w' => en = .returned (.tuple #[]) ∧ WAt S w0 p (putW (numW 1 1099511627776 ru) s) w' := by
  have hWW : Below W.heap.size W (W.alloc (.cells #[.int .i64 ki, .string nm, .int .i64 dl, .slice x1 x2 x3, .string ky, .int .i64 la, .int .i64 wo, .int .i64 tk, .slice y1 y2 y3, .int .i64 ru, .int .u64 lu, .int .i64 ti] 99)).drew := ((Below.refl _ _).alloc (Nat.le_refl _) _).drew
  have HX0 := hide (heap_alloc_new W (.cells #[.int .i64 ki, .string nm, .int .i64 dl, .slice x1 x2 x3, .string ky, .int .i64 la, .int .i64 wo, .int .i64 tk, .slice y1 y2 y3, .int .i64 ru, .int .u64 lu, .int .i64 ti] 99))
  have HXd : Hid ((W.alloc (.cells #[.int .i64 ki, .string nm, .int .i64 dl, .slice x1 x2 x3, .string ky, .int .i64 la, .int .i64 wo, .int .i64 tk, .slice y1 y2 y3, .int .i64 ru, .int .u64 lu, .int .i64 ti] 99)).drew.heap[W.heap.size]? = some (.cells #[.int .i64 ki, .string nm, .int .i64 dl, .slice x1 x2 x3, .string ky, .int .i64 la, .int .i64 wo, .int .i64 tk, .slice y1 y2 y3, .int .i64 ru, .int .u64 lu, .int .i64 ti] 99 (0, 0))) := HX0.out
  have HPT : Hid (∀ WW w2 : World, WW = (W.alloc (.cells #[.int .i64 ki, .string nm, .int .i64 dl, .slice x1 x2 x3, .string ky, .int .i64 la, .int .i64 wo, .int .i64 tk, .slice y1 y2 y3, .int .i64 ru, .int .u64 lu, .int .i64 ti] 99)).drew → Below WW.heap.size WW w2 → w2.heap[W.heap.size]? = some (.cells #[.int .i64 ki, .string nm, .int .i64 dl, .slice x1 x2 x3, .string ky, .int .i64 la, .int .i64 wo, .int .i64 tk, .slice y1 y2 y3, .int .i64 ru, .int .u64 lu, .int .i64 ti] 99 (0, 0)) → ∀ l m, w2.cell? ⟨l, 0, none⟩ = some (.int .i64 1) → w2.cell? ⟨m, 0, none⟩ = some (.int .i64 1099511627776) → WW.heap.size ≤ l → WW.heap.size ≤ m → Calls Tryz.prog 46 #[.agg #[.func (.func 78) #[] (#[.pointer (some ⟨l, 0, none⟩), .pointer (some ⟨m, 0, none⟩)]), .func (.func 81) #[] (#[.pointer (some ⟨l, 0, none⟩), .pointer (some ⟨m, 0, none⟩)])], .pointer (some ⟨p, 0, none⟩), .int .i64 ru] w2 fun en w' => en = .returned (.tuple #[]) ∧ WAt S w0 p (putW (numW 1 1099511627776 ru) s) w' ∧ w'.heap[W.heap.size]? = some (.cells #[.int .i64 ki, .string nm, .int .i64 dl, .slice x1 x2 x3, .string ky, .int .i64 la, .int .i64 wo, .int .i64 tk, .slice y1 y2 y3, .int .i64 ru, .int .u64 lu, .int .i64 ti] 99 (0, 0))) := by
    intro WW w2 e hb2 hxx l m hl hm hll hlm
    have hWW : Below W.heap.size W WW := e ▸ hWW
    exact fnewI (B0 := B0) (h.below hWW) hb2 hB hS (putsNum _ _ l m 1 1099511627776 ru hx hl hm (clM hl hll) (clM hm hlm)) ent_putNum hxx (by decide) (by decide)
  have d0 := cell_blk HX0.out 9 (v := .int .i64 ru) rfl
  have HMK := hide (counts_any (W.alloc (.cells #[.int .i64 ki, .string nm, .int .i64 dl, .slice x1 x2 x3, .string ky, .int .i64 la, .int .i64 wo, .int .i64 tk, .slice y1 y2 y3, .int .i64 ru, .int .u64 lu, .int .i64 ti] 99)).drew)
  clear h hB hS hx hWW
  go_enter Tryz.func96, Tryz.ntmps96
  go_upto_region 1 with fail
  generalize hW0 : W.alloc (.cells #[.int .i64 ki, .string nm, .int .i64 dl, .slice x1 x2 x3, .string ky, .int .i64 la, .int .i64 wo, .int .i64 tk, .slice y1 y2 y3, .int .i64 ru, .int .u64 lu, .int .i64 ti] 99) = W0 at *
  go_region_held3 (fun wx => wx.cell? ⟨W.heap.size, 9, none⟩ = some (.int .i64 ru)) (first | (exact d0) | (exact HS2.out) | (exact HS3.out) | go_keep) (first
    | (go_at_call 46; refine PT.out.mono ?_; rintro e w3 ⟨rfl, h3, hx3⟩; have H3 := hide h3; have HS3 : Hid (w3.cell? ⟨W.heap.size, 9, none⟩ = some (.int .i64 ru)) := cell_blk hx3 9 rfl; clear h3 hx3 PT)
    | (go_at_call 140; refine HMK.out.mono ?_; rintro e w2 ⟨l, m, rfl, hl, hm, hll, hlm, hb⟩; have HX2 := hide (blkB HXd.out hb); have PT := hide (HPT.out _ w2 rfl hb HX2.out l m hl hm hll hlm); have HS2 : Hid (w2.cell? ⟨W.heap.size, 9, none⟩ = some (.int .i64 ru)) := cell_blk HX2.out 9 rfl; clear hl hm hll hlm hb HMK))
  all_goals go_wp2
  all_goals first | go_end0 | refine bodyPost_ret (results_none rfl _ _ _) rfl ?_
  all_goals exact ⟨rfl, H3.out⟩
set_option maxRecDepth 10000 in
set_option maxHeartbeats 2000000 in
theorem putLuck_any (ki : Int) (nm : ByteArray) (dl : Int) (x1 : Option Addr) (x2 x3 : Nat) (ky : ByteArray) (la : Int) (wo : Int) (tk : Int) (y1 : Option Addr) (y2 y3 : Nat) (ru : Int) (lu : Int) (ti : Int) (S : Nat → Prop) (w0 W : World) (p B0 : Nat) (s : K.WS) (h : WAt S w0 p s W) (hB : B0 ≤ w0.heap.size) (hS : ∀ k, k < B0 → ¬ S k) (X : Nat) (hX : X < 18446744073709551616) (hlu : lu = (X : Int)) :
    Calls Tryz.prog 98 #[.agg #[.int .i64 ki, .string nm, .int .i64 dl, .slice x1 x2 x3, .string ky, .int .i64 la, .int .i64 wo, .int .i64 tk, .slice y1 y2 y3, .int .i64 ru, .int .u64 lu, .int .i64 ti], .pointer (some ⟨p, 0, none⟩)] W fun en w' => en = .returned (.tuple #[]) ∧ WAt S w0 p (putW (wordW X) s) w' := by
  subst hlu
  have hWW : Below W.heap.size W (W.alloc (.cells #[.int .i64 ki, .string nm, .int .i64 dl, .slice x1 x2 x3, .string ky, .int .i64 la, .int .i64 wo, .int .i64 tk, .slice y1 y2 y3, .int .i64 ru, .int .u64 (X : Nat), .int .i64 ti] 99)).drew := ((Below.refl _ _).alloc (Nat.le_refl _) _).drew
  have HX0 := hide (heap_alloc_new W (.cells #[.int .i64 ki, .string nm, .int .i64 dl, .slice x1 x2 x3, .string ky, .int .i64 la, .int .i64 wo, .int .i64 tk, .slice y1 y2 y3, .int .i64 ru, .int .u64 (X : Nat), .int .i64 ti] 99))
  have HXd : Hid ((W.alloc (.cells #[.int .i64 ki, .string nm, .int .i64 dl, .slice x1 x2 x3, .string ky, .int .i64 la, .int .i64 wo, .int .i64 tk, .slice y1 y2 y3, .int .i64 ru, .int .u64 (X : Nat), .int .i64 ti] 99)).drew.heap[W.heap.size]? = some (.cells #[.int .i64 ki, .string nm, .int .i64 dl, .slice x1 x2 x3, .string ky, .int .i64 la, .int .i64 wo, .int .i64 tk, .slice y1 y2 y3, .int .i64 ru, .int .u64 (X : Nat), .int .i64 ti] 99 (0, 0))) := HX0.out
  have HPT : Hid (∀ WW w2 : World, WW = (W.alloc (.cells #[.int .i64 ki, .string nm, .int .i64 dl, .slice x1 x2 x3, .string ky, .int .i64 la, .int .i64 wo, .int .i64 tk, .slice y1 y2 y3, .int .i64 ru, .int .u64 (X : Nat), .int .i64 ti] 99)).drew → Below WW.heap.size WW w2 → w2.heap[W.heap.size]? = some (.cells #[.int .i64 ki, .string nm, .int .i64 dl, .slice x1 x2 x3, .string ky, .int .i64 la, .int .i64 wo, .int .i64 tk, .slice y1 y2 y3, .int .i64 ru, .int .u64 (X : Nat), .int .i64 ti] 99 (0, 0)) →   Calls Tryz.prog 145 #[.agg #[.func (.func 176) #[] (#[]), .func (.func 177) #[] (#[])], .pointer (some ⟨p, 0, none⟩), .int .u64 (X : Nat)] w2 fun en w' => en = .returned (.tuple #[]) ∧ WAt S w0 p (putW (wordW X) s) w' ∧ w'.heap[W.heap.size]? = some (.cells #[.int .i64 ki, .string nm, .int .i64 dl, .slice x1 x2 x3, .string ky, .int .i64 la, .int .i64 wo, .int .i64 tk, .slice y1 y2 y3, .int .i64 ru, .int .u64 (X : Nat), .int .i64 ti] 99 (0, 0))) := by
    intro WW w2 e hb2 hxx  
    have hWW : Below W.heap.size W WW := e ▸ hWW
    exact fnewW (B0 := B0) (h.below hWW) hb2 hB hS (putsWord _ _ X hX) ent_putWord hxx (by decide) (by decide)
  have d0 := cell_blk HX0.out 10 (v := .int .u64 (X : Nat)) rfl
  have HMK := hide (Words_any (W.alloc (.cells #[.int .i64 ki, .string nm, .int .i64 dl, .slice x1 x2 x3, .string ky, .int .i64 la, .int .i64 wo, .int .i64 tk, .slice y1 y2 y3, .int .i64 ru, .int .u64 (X : Nat), .int .i64 ti] 99)).drew)
  clear h hB hS hX hWW
  go_enter Tryz.func98, Tryz.ntmps98
  go_upto_region 1 with fail
  generalize hW0 : W.alloc (.cells #[.int .i64 ki, .string nm, .int .i64 dl, .slice x1 x2 x3, .string ky, .int .i64 la, .int .i64 wo, .int .i64 tk, .slice y1 y2 y3, .int .i64 ru, .int .u64 (X : Nat), .int .i64 ti] 99) = W0 at *
  go_region_held3 (fun wx => wx.cell? ⟨W.heap.size, 10, none⟩ = some (.int .u64 (X : Nat))) (first | (exact d0) | (exact HS2.out) | (exact HS3.out) | go_keep) (first
    | (go_at_call 145; refine PT.out.mono ?_; rintro e w3 ⟨rfl, h3, hx3⟩; have H3 := hide h3; have HS3 : Hid (w3.cell? ⟨W.heap.size, 10, none⟩ = some (.int .u64 (X : Nat))) := cell_blk hx3 10 rfl; clear h3 hx3 PT)
    | (go_at_call 144; refine HMK.out.mono ?_; rintro e w2 ⟨rfl, hb⟩; have HX2 := hide (blkB HXd.out hb); have PT := hide (HPT.out _ w2 rfl hb HX2.out  ); have HS2 : Hid (w2.cell? ⟨W.heap.size, 10, none⟩ = some (.int .u64 (X : Nat))) := cell_blk HX2.out 10 rfl; clear  hb HMK))
  all_goals go_wp2
  all_goals first | go_end0 | refine bodyPost_ret (results_none rfl _ _ _) rfl ?_
  all_goals exact ⟨rfl, H3.out⟩
set_option maxRecDepth 10000 in
set_option maxHeartbeats 2000000 in
theorem putTicks_any (ki : Int) (nm : ByteArray) (dl : Int) (x1 : Option Addr) (x2 x3 : Nat) (ky : ByteArray) (la : Int) (wo : Int) (tk : Int) (y1 : Option Addr) (y2 y3 : Nat) (ru : Int) (lu : Int) (ti : Int) (S : Nat → Prop) (w0 W : World) (p B0 : Nat) (s : K.WS) (h : WAt S w0 p s W) (hB : B0 ≤ w0.heap.size) (hS : ∀ k, k < B0 → ¬ S k) (hx : ti ≤ 9223372036854775807) :
    Calls Tryz.prog 100 #[.agg #[.int .i64 ki, .string nm, .int .i64 dl, .slice x1 x2 x3, .string ky, .int .i64 la, .int .i64 wo, .int .i64 tk, .slice y1 y2 y3, .int .i64 ru, .int .u64 lu, .int .i64 ti], .pointer (some ⟨p, 0, none⟩)] W fun en w' => en = .returned (.tuple #[]) ∧ WAt S w0 p (putW (numW 0 4611686018427387904 ti) s) w' := by
  have hWW : Below W.heap.size W (W.alloc (.cells #[.int .i64 ki, .string nm, .int .i64 dl, .slice x1 x2 x3, .string ky, .int .i64 la, .int .i64 wo, .int .i64 tk, .slice y1 y2 y3, .int .i64 ru, .int .u64 lu, .int .i64 ti] 99)).drew := ((Below.refl _ _).alloc (Nat.le_refl _) _).drew
  have HX0 := hide (heap_alloc_new W (.cells #[.int .i64 ki, .string nm, .int .i64 dl, .slice x1 x2 x3, .string ky, .int .i64 la, .int .i64 wo, .int .i64 tk, .slice y1 y2 y3, .int .i64 ru, .int .u64 lu, .int .i64 ti] 99))
  have HXd : Hid ((W.alloc (.cells #[.int .i64 ki, .string nm, .int .i64 dl, .slice x1 x2 x3, .string ky, .int .i64 la, .int .i64 wo, .int .i64 tk, .slice y1 y2 y3, .int .i64 ru, .int .u64 lu, .int .i64 ti] 99)).drew.heap[W.heap.size]? = some (.cells #[.int .i64 ki, .string nm, .int .i64 dl, .slice x1 x2 x3, .string ky, .int .i64 la, .int .i64 wo, .int .i64 tk, .slice y1 y2 y3, .int .i64 ru, .int .u64 lu, .int .i64 ti] 99 (0, 0))) := HX0.out
  have HPT : Hid (∀ WW w2 : World, WW = (W.alloc (.cells #[.int .i64 ki, .string nm, .int .i64 dl, .slice x1 x2 x3, .string ky, .int .i64 la, .int .i64 wo, .int .i64 tk, .slice y1 y2 y3, .int .i64 ru, .int .u64 lu, .int .i64 ti] 99)).drew → Below WW.heap.size WW w2 → w2.heap[W.heap.size]? = some (.cells #[.int .i64 ki, .string nm, .int .i64 dl, .slice x1 x2 x3, .string ky, .int .i64 la, .int .i64 wo, .int .i64 tk, .slice y1 y2 y3, .int .i64 ru, .int .u64 lu, .int .i64 ti] 99 (0, 0)) → ∀ l m, w2.cell? ⟨l, 0, none⟩ = some (.int .i64 0) → w2.cell? ⟨m, 0, none⟩ = some (.int .i64 4611686018427387904) → WW.heap.size ≤ l → WW.heap.size ≤ m → Calls Tryz.prog 46 #[.agg #[.func (.func 78) #[] (#[.pointer (some ⟨l, 0, none⟩), .pointer (some ⟨m, 0, none⟩)]), .func (.func 81) #[] (#[.pointer (some ⟨l, 0, none⟩), .pointer (some ⟨m, 0, none⟩)])], .pointer (some ⟨p, 0, none⟩), .int .i64 ti] w2 fun en w' => en = .returned (.tuple #[]) ∧ WAt S w0 p (putW (numW 0 4611686018427387904 ti) s) w' ∧ w'.heap[W.heap.size]? = some (.cells #[.int .i64 ki, .string nm, .int .i64 dl, .slice x1 x2 x3, .string ky, .int .i64 la, .int .i64 wo, .int .i64 tk, .slice y1 y2 y3, .int .i64 ru, .int .u64 lu, .int .i64 ti] 99 (0, 0))) := by
    intro WW w2 e hb2 hxx l m hl hm hll hlm
    have hWW : Below W.heap.size W WW := e ▸ hWW
    exact fnewI (B0 := B0) (h.below hWW) hb2 hB hS (putsNum _ _ l m 0 4611686018427387904 ti hx hl hm (clM hl hll) (clM hm hlm)) ent_putNum hxx (by decide) (by decide)
  have d0 := cell_blk HX0.out 11 (v := .int .i64 ti) rfl
  have HMK := hide (times_any (W.alloc (.cells #[.int .i64 ki, .string nm, .int .i64 dl, .slice x1 x2 x3, .string ky, .int .i64 la, .int .i64 wo, .int .i64 tk, .slice y1 y2 y3, .int .i64 ru, .int .u64 lu, .int .i64 ti] 99)).drew)
  clear h hB hS hx hWW
  go_enter Tryz.func100, Tryz.ntmps100
  go_upto_region 1 with fail
  generalize hW0 : W.alloc (.cells #[.int .i64 ki, .string nm, .int .i64 dl, .slice x1 x2 x3, .string ky, .int .i64 la, .int .i64 wo, .int .i64 tk, .slice y1 y2 y3, .int .i64 ru, .int .u64 lu, .int .i64 ti] 99) = W0 at *
  go_region_held3 (fun wx => wx.cell? ⟨W.heap.size, 11, none⟩ = some (.int .i64 ti)) (first | (exact d0) | (exact HS2.out) | (exact HS3.out) | go_keep) (first
    | (go_at_call 46; refine PT.out.mono ?_; rintro e w3 ⟨rfl, h3, hx3⟩; have H3 := hide h3; have HS3 : Hid (w3.cell? ⟨W.heap.size, 11, none⟩ = some (.int .i64 ti)) := cell_blk hx3 11 rfl; clear h3 hx3 PT)
    | (go_at_call 147; refine HMK.out.mono ?_; rintro e w2 ⟨l, m, rfl, hl, hm, hll, hlm, hb⟩; have HX2 := hide (blkB HXd.out hb); have PT := hide (HPT.out _ w2 rfl hb HX2.out l m hl hm hll hlm); have HS2 : Hid (w2.cell? ⟨W.heap.size, 11, none⟩ = some (.int .i64 ti)) := cell_blk HX2.out 11 rfl; clear hl hm hll hlm hb HMK))
  all_goals go_wp2
  all_goals first | go_end0 | refine bodyPost_ret (results_none rfl _ _ _) rfl ?_
  all_goals exact ⟨rfl, H3.out⟩
end Cd
end Go.Proofs.YtbjcckfhfbjchaaGreat

/- Codec: the parts of an operation, taken one by one (written by cef_gen.py). -/
namespace Go.Proofs.YtbjcckfhfbjchaaGreat
namespace Cd
open Go.RowKit Go.Deep

/-- an operation by value -/
structure Ov where
  ki : Int
  pl : Pv
  ky : List Nat
  la : Int
  wo : Int
  tk : Int
  ry : List Nat
  ru : Int
  lu : Nat
  ti : Int
/-- an operation's cells hold this value -/
def OvC (d : Ov) (w : World) (ki : Int) (nm : ByteArray) (dl : Int) (x1 : Option Addr) (x2 x3 : Nat) (ky : ByteArray) (la : Int) (wo : Int) (tk : Int) (y1 : Option Addr) (y2 y3 : Nat) (ru : Int) (lu : Int) (ti : Int) : Prop :=
  (ki = d.ki ∧ nm = str d.pl.1.1 ∧ dl = d.pl.1.2 ∧ ky = str d.ky ∧ la = d.la ∧ wo = d.wo ∧ tk = d.tk ∧ ru = d.ru ∧ lu = (d.lu : Int) ∧ ti = d.ti) ∧ NsV d.pl.2 w (.slice x1 x2 x3) ∧ w.ownsRow 0 5 1 (.slice y1 y2 y3) d.ry.length (B8 d.ry)
theorem OvC.keep {d : Ov} {w w' : World} {T : TypeId} (hT1 : 3 ≠ T) (hT2 : 57 ≠ T) (hT3 : 5 ≠ T) {ki : Int} {nm : ByteArray} {dl : Int} {x1 : Option Addr} {x2 x3 : Nat} {ky : ByteArray} {la wo tk : Int} {y1 : Option Addr} {y2 y3 : Nat} {ru lu ti : Int} (h : OvC d w ki nm dl x1 x2 x3 ky la wo tk y1 y2 y3 ru lu ti) {S : Nat → Prop} (hk : Keep S w w') (hS : ∀ k, S k → ∃ cs t, w.heap[k]? = some (.cells cs t (0, 0)) ∧ (t = 136 ∨ t = T)) : OvC d w' ki nm dl x1 x2 x3 ky la wo tk y1 y2 y3 ru lu ti :=
  ⟨h.1, stable_Ns hT1 hT2 _ _ _ _ _ h.2.1 hk hS, own_keepT h.2.2 hk hS (by decide) hT3⟩
theorem stable_Bl {T : TypeId} (hT : 5 ≠ T) (m : Int) (s : K.RS) : StableT T (fun w v => w.ownsRow 0 5 1 v (rowV m s).length (B8 (rowV m s))) :=
  fun _ _ _ _ h hk hS => own_keepT h hk hS (by decide) hT
theorem sh_B {s' : K.RS} {w : World} {v : Value} {m : Int} {s : K.RS} (h : s'.fault = 0 → w.ownsRow 0 5 1 v (rowV m s).length (B8 (rowV m s))) (hn : s'.fault ≠ 0 → v = .slice none 0 0) : ∃ a n c, v = .slice a n c ∧ (s'.fault = 0 → w.ownsRow 0 5 1 (.slice a n c) (rowV m s).length (B8 (rowV m s))) := by
  by_cases hz : s'.fault = 0
  · have h1 := h hz
    rcases h1.2 with ⟨e, _⟩ | ⟨g, cap, cur, e, _⟩
    · subst e
      exact ⟨_, _, _, rfl, fun _ => h1⟩
    · subst e
      exact ⟨_, _, _, rfl, fun _ => h1⟩
  · exact ⟨_, _, _, hn hz, fun e => absurd e hz⟩
theorem sh_W {s' : K.RS} {v : Value} {s : K.RS} (h : s'.fault = 0 → v = .int .u64 ((wordV s : Nat) : Int)) (hn : s'.fault ≠ 0 → v = .int .u64 0) : ∃ x : Int, v = .int .u64 x ∧ (s'.fault = 0 → x = (wordV s : Nat)) := by
  by_cases hz : s'.fault = 0
  · exact ⟨_, h hz, fun _ => rfl⟩
  · exact ⟨_, hn hz, fun e => absurd e hz⟩
theorem lo_none {F : Nat} {w : World} {q : Nat} (h : q < F) : ¬ Lo (0, F) w q := fun hk => by
  rcases hk.2 with h2 | h2
  · have : q < 0 := h2
    omega
  · have : F ≤ q := h2
    omega
theorem op_typ {w : World} {q ob : Nat} {s : K.RS} {cs : Array Value} (h : Rr w q s) (hx : w.heap[ob]? = some (.cells cs 99 (0, 0))) : ∀ k, (k = q ∨ k = ob) → ∃ cs t, w.heap[k]? = some (.cells cs t (0, 0)) ∧ (t = 136 ∨ t = 99) := fun k e => by
  rcases e with rfl | rfl
  · obtain ⟨a, c, h1, _⟩ := h.ex
    exact ⟨_, _, h1, .inl rfl⟩
  · exact ⟨_, _, hx, .inr rfl⟩
theorem ne_rdO {w : World} {q : Nat} {s : K.RS} (h : Rr w q s) {b : Nat} {cs : Array Value} (hb : w.heap[b]? = some (.cells cs 99 (0, 0))) : ¬ b = q := box_ne h hb (by decide)
/-- a plan taken by a form -/
theorem ftakePn {bf : Nat × Nat} {wf W : World} {q : Nat} {fn1 fn2 : FuncId} {cap1 cap2 : Array Value} {g : K.RS → K.RS} {V : K.RS → World → Value → Prop} {s : K.RS} (ha : Agree (Lo bf wf) wf W) (hq : ¬ Lo bf wf q) (hr : Rr W q s) (ht : TakesFG (Lo bf wf) wf fn2 cap2 g V ShPn) (hV : StableT 30 (V s))
    (he : ∀ args w, (callFunc fn2 args).run Tryz.prog w = .ok (.enter fn2 args) w) :
    Calls Tryz.prog 70 #[.agg #[.func (.func fn1) #[] cap1, .func (.func fn2) #[] cap2], .pointer (some ⟨q, 0, none⟩)] W fun en w' => Keep (fun k => k = q) W w' ∧ ∃ v, en = .returned v ∧ ShPn v ∧ Rr w' q (takeR g s) ∧ ((takeR g s).fault = 0 → V s w' v) ∧ ((takeR g s).fault ≠ 0 → v = .agg #[.string ⟨#[]⟩, .int .i64 0, .slice none 0 0]) := by
  refine TakePn q fn1 fn2 cap1 cap2 s (takeR g s) (V s) hV W hr (fun hz w1 hb => ?_) (fun hz => ?_) he
  · have e : takeR g s = g s := by unfold takeR; rw [if_pos hz]
    rw [e]
    exact ht q s w1 (ha.keep (Keep.ofBelow (S := fun _ => False) hb (Nat.le_refl _)) (fun _ _ h => h)) hq (hr.below hb) hz
  · unfold takeR
    rw [if_neg hz]
set_option maxRecDepth 10000 in
set_option maxHeartbeats 2000000 in
theorem takePlan_any (ki : Int) (nm : ByteArray) (dl : Int) (x1 : Option Addr) (x2 x3 : Nat) (ky : ByteArray) (la : Int) (wo : Int) (tk : Int) (y1 : Option Addr) (y2 y3 : Nat) (ru : Int) (lu : Int) (ti : Int) (W : World) (ob q : Nat) (s : K.RS) (hR : Rr W q s) (hqo : q < ob) (hx : W.heap[ob]? = some (.cells #[.int .i64 ki, .string nm, .int .i64 dl, .slice x1 x2 x3, .string ky, .int .i64 la, .int .i64 wo, .int .i64 tk, .slice y1 y2 y3, .int .i64 ru, .int .u64 lu, .int .i64 ti] 99 (0, 0))) :
    Calls Tryz.prog 85 #[.pointer (some ⟨ob, 0, none⟩), .pointer (some ⟨q, 0, none⟩)] W fun en w' => en = .returned (.tuple #[]) ∧ Rr w' q (takeR (chkR may planR planVal) s) ∧ Keep (fun k => k = q ∨ k = ob) W w' ∧
      ∃ (nv : ByteArray) (dv : Int) (xa : Option Addr) (xn xc : Nat), w'.heap[ob]? = some (.cells #[.int .i64 ki, .string nv, .int .i64 dv, .slice xa xn xc, .string ky, .int .i64 la, .int .i64 wo, .int .i64 tk, .slice y1 y2 y3, .int .i64 ru, .int .u64 lu, .int .i64 ti] 99 (0, 0)) ∧ ∀ d, OvC d W ki nm dl x1 x2 x3 ky la wo tk y1 y2 y3 ru lu ti → (takeR (chkR may planR planVal) s).fault = 0 → OvC { d with pl := planVal s } w' ki nv dv xa xn xc ky la wo tk y1 y2 y3 ru lu ti := by
  have HTK : Hid (∀ (w2 : World) (b : Nat), Below W.heap.size W w2 → QF W.heap.size w2 b → Calls Tryz.prog 70 #[.agg (qF b), .pointer (some ⟨q, 0, none⟩)] w2 fun en w' => Keep (fun k => k = q) w2 w' ∧ ∃ v, en = .returned v ∧ ShPn v ∧ Rr w' q (takeR (chkR may planR planVal) s) ∧ ((takeR (chkR may planR planVal) s).fault = 0 → planV s w' v) ∧ ((takeR (chkR may planR planVal) s).fault ≠ 0 → v = .agg #[.string ⟨#[]⟩, .int .i64 0, .slice none 0 0])) := by
    intro w2 b hb2 hq
    exact ftakePn (bf := (0, W.heap.size)) (Agree.refl fun k hk => hk.1) (lo_none hR.lt) (hR.below hb2) (takesPlans w2 b hq) (stable_plan s) ent_takePlans
  have HNE := hide (ne_rdO hR hx)
  have HTY := hide (op_typ hR hx)
  have HX0 := hide hx
  have HMK := hide (Plans_any W)
  have HQO := hide hqo
  clear hR hx hqo
  go_enter Tryz.func85, Tryz.ntmps85
  go_wp2_with (first
    | (with_reducible refine wpList_store_mid rfl 30 _ _ rfl _ _ _ rfl rfl ?_ ?_ ?_ ?_)
    | (go_at_call 70; refine TK.out.mono ?_; rintro e w3 ⟨hk, v, rfl, ⟨nv, dv, xa, xn, xc, rfl⟩, hr, hv, hn⟩; have HX3 := hide (hk.blk HX2.out HNE.out); have HR3 := hide hr; have HK3 := hide ((Keep.ofBelow (S := fun k => k = q) HB2.out (Nat.le_refl _)).trans hk fun _ e => .inl e); have HV3 := hide hv; clear hr hk hn hv TK)
    | (go_at_call 36; refine HMK.out.mono ?_; rintro e w2 ⟨b, rfl, hq, hb⟩; have HX2 := hide (blkB HX0.out hb); have HB2 := hide hb; have TK := hide (HTK.out w2 b hb hq); clear hq hb HMK HTK))
  case refine_1 => exact fun j hj => ⟨by have : j < 3 := hj; rcases (by omega : j = 0 ∨ j = 1 ∨ j = 2) with rfl | rfl | rfl <;> (first | (rw [cell_blk HX3.out 1 rfl]; rfl) | (rw [cell_blk HX3.out 2 rfl]; rfl) | (rw [cell_blk HX3.out 3 rfl]; rfl)), frozen_blk HX3.out _⟩
  case refine_2 => exact sizePn
  case refine_3 => exact onesPn nv dv xa xn xc
  have kx : Keep (fun k => k = ob) w3 (w3.setCells ob 1 [.string nv, .int .i64 dv, .slice xa xn xc]) := ((keep_cell w3 ob 1 _).more (keep_cell _ ob 2 _)).more (keep_cell _ ob 3 _)
  have HXN : Hid ((w3.setCells ob 1 [.string nv, .int .i64 dv, .slice xa xn xc]).heap[ob]? = some (.cells #[.int .i64 ki, .string nv, .int .i64 dv, .slice xa xn xc, .string ky, .int .i64 la, .int .i64 wo, .int .i64 tk, .slice y1 y2 y3, .int .i64 ru, .int .u64 lu, .int .i64 ti] 99 (0, 0))) := (set_blk ((set_blk ((set_blk HX3.out 1 _).trans rfl) 2 _).trans rfl) 3 _).trans rfl
  have HRN := hide (HR3.out.stay kx fun j hj e => by have := HQO.out; have e : j = ob := e; omega)
  have hkk := (HK3.out.mono (T := fun k => k = q ∨ k = ob) fun _ e => .inl e).trans kx fun i e => .inl (.inr e)
  go_wp2
  first | go_end0 | refine bodyPost_ret (results_none rfl _ _ _) rfl ?_
  refine ⟨rfl, HRN.out, hkk, nv, dv, xa, xn, xc, HXN.out, fun d hd hz => ?_⟩
  obtain ⟨a, n, c, e, hn⟩ := HV3.out hz
  simp only [Value.agg.injEq, Array.mk.injEq, List.cons.injEq, Value.string.injEq, Value.int.injEq, Value.slice.injEq, true_and, and_true] at e
  obtain ⟨rfl, rfl, rfl, rfl, rfl⟩ := e
  exact ⟨⟨hd.1.1, rfl, rfl, hd.1.2.2.2.1, hd.1.2.2.2.2.1, hd.1.2.2.2.2.2.1, hd.1.2.2.2.2.2.2.1, hd.1.2.2.2.2.2.2.2.1, hd.1.2.2.2.2.2.2.2.2.1, hd.1.2.2.2.2.2.2.2.2.2⟩, (stable_Ns (T := 99) (by decide) (by decide) _ _ _ _ _ hn kx (fun k e => ⟨_, _, (e ▸ HX3.out : w3.heap[k]? = _), .inr rfl⟩)), own_keepT (T := 99) hd.2.2 hkk HTY.out (by decide) (by decide)⟩
set_option maxRecDepth 10000 in
set_option maxHeartbeats 2000000 in
theorem takeKey_any (ki : Int) (nm : ByteArray) (dl : Int) (x1 : Option Addr) (x2 x3 : Nat) (ky : ByteArray) (la : Int) (wo : Int) (tk : Int) (y1 : Option Addr) (y2 y3 : Nat) (ru : Int) (lu : Int) (ti : Int) (W : World) (ob q : Nat) (s : K.RS) (hR : Rr W q s) (hqo : q < ob) (hx : W.heap[ob]? = some (.cells #[.int .i64 ki, .string nm, .int .i64 dl, .slice x1 x2 x3, .string ky, .int .i64 la, .int .i64 wo, .int .i64 tk, .slice y1 y2 y3, .int .i64 ru, .int .u64 lu, .int .i64 ti] 99 (0, 0))) :
    Calls Tryz.prog 87 #[.pointer (some ⟨ob, 0, none⟩), .pointer (some ⟨q, 0, none⟩)] W fun en w' => en = .returned (.tuple #[]) ∧ Rr w' q (takeR (rowR 40) s) ∧ Keep (fun k => k = q ∨ k = ob) W w' ∧
      ∃ xv : ByteArray, w'.heap[ob]? = some (.cells #[.int .i64 ki, .string nm, .int .i64 dl, .slice x1 x2 x3, .string xv, .int .i64 la, .int .i64 wo, .int .i64 tk, .slice y1 y2 y3, .int .i64 ru, .int .u64 lu, .int .i64 ti] 99 (0, 0)) ∧ ∀ d, OvC d W ki nm dl x1 x2 x3 ky la wo tk y1 y2 y3 ru lu ti → (takeR (rowR 40) s).fault = 0 → OvC { d with ky := rowV 40 s } w' ki nm dl x1 x2 x3 xv la wo tk y1 y2 y3 ru lu ti := by
  have HTK : Hid (∀ w2 : World, Below W.heap.size W w2 → ∀ m, w2.cell? ⟨m, 0, none⟩ = some (.int .i64 40) → W.heap.size ≤ m → Calls Tryz.prog 61 #[.agg #[.func (.func 155) #[] (#[.pointer (some ⟨m, 0, none⟩)]), .func (.func 157) #[] (#[.pointer (some ⟨m, 0, none⟩)])], .pointer (some ⟨q, 0, none⟩)] w2 (Took q (takeR (rowR 40) s) (vS 40 s) (.string ⟨#[]⟩) w2)) := by
    intro w2 hb2 m hm hlm
    exact ftakeS (bf := (0, W.heap.size)) (Agree.refl fun k hk => hk.1) (lo_none hR.lt) (hR.below hb2) (takesText _ _ m 40 hm (clM hm hlm)) ((stable_S (T := 0) 40 s).stable) ent_takeText
  have HNE := hide (ne_rdO hR hx)
  have HTY := hide (op_typ hR hx)
  have HX0 := hide hx
  have HQ0 := hide hR.lt
  have HMK := hide (keys_any W)
  have HQO := hide hqo
  clear hR hx hqo
  go_enter Tryz.func87, Tryz.ntmps87
  go_wp2_with (first
    | (go_at_call 61; refine TK.out.mono ?_; rintro e w3 ⟨v, rfl, hr, hk, hv, hn⟩; obtain ⟨xv, rfl, hxv⟩ := sh_S hv hn; have HX3 := hide (hk.blk HX2.out HNE.out); have HR3 := hide hr; have HK3 := hide ((Keep.ofBelow (S := fun k => k = q) HB2.out (Nat.le_refl _)).trans hk fun _ e => .inl e); have HXV := hide hxv; have ct := cell_blk HX3.out 4 rfl; have cz := frozen_blk HX3.out 4; clear hr hk hn hv hxv TK)
    | (go_at_call 138; refine HMK.out.mono ?_; rintro e w2 ⟨m, rfl, hm, hlm, hb⟩; have HX2 := hide (blkB HX0.out hb); have HB2 := hide hb; have TK := hide (HTK.out w2 hb m hm hlm); clear hm hlm hb HMK HTK))
  have hxv := HXV.out
  have kx := keep_cell w3 ob 4 (.string xv)
  have HXN : Hid ((w3.setCell ⟨ob, 4, none⟩ (.string xv)).heap[ob]? = some (.cells #[.int .i64 ki, .string nm, .int .i64 dl, .slice x1 x2 x3, .string xv, .int .i64 la, .int .i64 wo, .int .i64 tk, .slice y1 y2 y3, .int .i64 ru, .int .u64 lu, .int .i64 ti] 99 (0, 0))) := (set_blk HX3.out 4 _).trans rfl
  have HRN := hide (HR3.out.stay kx fun j hj e => by have := HQO.out; have e : j = ob := e; omega)
  have hkk := (HK3.out.mono (T := fun k => k = q ∨ k = ob) fun _ e => .inl e).trans kx fun i e => .inl (.inr e)
  first | go_end0 | refine bodyPost_ret (results_none rfl _ _ _) rfl ?_
  exact ⟨rfl, HRN.out, hkk, xv, HXN.out, fun d hd hz => ⟨⟨hd.1.1, hd.1.2.1, hd.1.2.2.1, hxv hz, hd.1.2.2.2.2.1, hd.1.2.2.2.2.2.1, hd.1.2.2.2.2.2.2.1, hd.1.2.2.2.2.2.2.2.1, hd.1.2.2.2.2.2.2.2.2.1, hd.1.2.2.2.2.2.2.2.2.2⟩, (stable_Ns (T := 99) (by decide) (by decide) _ _ _ _ _ hd.2.1 hkk HTY.out), (own_keepT (T := 99) hd.2.2 hkk HTY.out (by decide) (by decide))⟩⟩
set_option maxRecDepth 10000 in
set_option maxHeartbeats 2000000 in
theorem takeLane_any (ki : Int) (nm : ByteArray) (dl : Int) (x1 : Option Addr) (x2 x3 : Nat) (ky : ByteArray) (la : Int) (wo : Int) (tk : Int) (y1 : Option Addr) (y2 y3 : Nat) (ru : Int) (lu : Int) (ti : Int) (W : World) (ob q : Nat) (s : K.RS) (hR : Rr W q s) (hqo : q < ob) (hx : W.heap[ob]? = some (.cells #[.int .i64 ki, .string nm, .int .i64 dl, .slice x1 x2 x3, .string ky, .int .i64 la, .int .i64 wo, .int .i64 tk, .slice y1 y2 y3, .int .i64 ru, .int .u64 lu, .int .i64 ti] 99 (0, 0))) :
    Calls Tryz.prog 89 #[.pointer (some ⟨ob, 0, none⟩), .pointer (some ⟨q, 0, none⟩)] W fun en w' => en = .returned (.tuple #[]) ∧ Rr w' q (takeR (numR 0 15) s) ∧ Keep (fun k => k = q ∨ k = ob) W w' ∧
      ∃ xv : Int, w'.heap[ob]? = some (.cells #[.int .i64 ki, .string nm, .int .i64 dl, .slice x1 x2 x3, .string ky, .int .i64 xv, .int .i64 wo, .int .i64 tk, .slice y1 y2 y3, .int .i64 ru, .int .u64 lu, .int .i64 ti] 99 (0, 0)) ∧ ∀ d, OvC d W ki nm dl x1 x2 x3 ky la wo tk y1 y2 y3 ru lu ti → (takeR (numR 0 15) s).fault = 0 → OvC { d with la := iV s } w' ki nm dl x1 x2 x3 ky xv wo tk y1 y2 y3 ru lu ti := by
  have HTK : Hid (∀ w2 : World, Below W.heap.size W w2 → ∀ l m, w2.cell? ⟨l, 0, none⟩ = some (.int .i64 0) → w2.cell? ⟨m, 0, none⟩ = some (.int .i64 15) → W.heap.size ≤ l → W.heap.size ≤ m → Calls Tryz.prog 48 #[.agg #[.func (.func 78) #[] (#[.pointer (some ⟨l, 0, none⟩), .pointer (some ⟨m, 0, none⟩)]), .func (.func 81) #[] (#[.pointer (some ⟨l, 0, none⟩), .pointer (some ⟨m, 0, none⟩)])], .pointer (some ⟨q, 0, none⟩)] w2 (Took q (takeR (numR 0 15) s) (vI s) (.int .i64 0) w2)) := by
    intro w2 hb2 l m hl hm hll hlm
    exact ftakeI (bf := (0, W.heap.size)) (Agree.refl fun k hk => hk.1) (lo_none hR.lt) (hR.below hb2) (takesNum _ _ l m 0 15 hl hm (clM hl hll) (clM hm hlm)) ((stable_I (T := 0) s).stable) ent_takeNum
  have HNE := hide (ne_rdO hR hx)
  have HTY := hide (op_typ hR hx)
  have HX0 := hide hx
  have HQ0 := hide hR.lt
  have HMK := hide (lanes_any W)
  have HQO := hide hqo
  clear hR hx hqo
  go_enter Tryz.func89, Tryz.ntmps89
  go_wp2_with (first
    | (go_at_call 48; refine TK.out.mono ?_; rintro e w3 ⟨v, rfl, hr, hk, hv, hn⟩; obtain ⟨xv, rfl, hxv⟩ := sh_I hv hn; have HX3 := hide (hk.blk HX2.out HNE.out); have HR3 := hide hr; have HK3 := hide ((Keep.ofBelow (S := fun k => k = q) HB2.out (Nat.le_refl _)).trans hk fun _ e => .inl e); have HXV := hide hxv; have ct := cell_blk HX3.out 5 rfl; have cz := frozen_blk HX3.out 5; clear hr hk hn hv hxv TK)
    | (go_at_call 121; refine HMK.out.mono ?_; rintro e w2 ⟨l, m, rfl, hl, hm, hll, hlm, hb⟩; have HX2 := hide (blkB HX0.out hb); have HB2 := hide hb; have TK := hide (HTK.out w2 hb l m hl hm hll hlm); clear hl hm hll hlm hb HMK HTK))
  have hxv := HXV.out
  have kx := keep_cell w3 ob 5 (.int .i64 xv)
  have HXN : Hid ((w3.setCell ⟨ob, 5, none⟩ (.int .i64 xv)).heap[ob]? = some (.cells #[.int .i64 ki, .string nm, .int .i64 dl, .slice x1 x2 x3, .string ky, .int .i64 xv, .int .i64 wo, .int .i64 tk, .slice y1 y2 y3, .int .i64 ru, .int .u64 lu, .int .i64 ti] 99 (0, 0))) := (set_blk HX3.out 5 _).trans rfl
  have HRN := hide (HR3.out.stay kx fun j hj e => by have := HQO.out; have e : j = ob := e; omega)
  have hkk := (HK3.out.mono (T := fun k => k = q ∨ k = ob) fun _ e => .inl e).trans kx fun i e => .inl (.inr e)
  first | go_end0 | refine bodyPost_ret (results_none rfl _ _ _) rfl ?_
  exact ⟨rfl, HRN.out, hkk, xv, HXN.out, fun d hd hz => ⟨⟨hd.1.1, hd.1.2.1, hd.1.2.2.1, hd.1.2.2.2.1, hxv hz, hd.1.2.2.2.2.2.1, hd.1.2.2.2.2.2.2.1, hd.1.2.2.2.2.2.2.2.1, hd.1.2.2.2.2.2.2.2.2.1, hd.1.2.2.2.2.2.2.2.2.2⟩, (stable_Ns (T := 99) (by decide) (by decide) _ _ _ _ _ hd.2.1 hkk HTY.out), (own_keepT (T := 99) hd.2.2 hkk HTY.out (by decide) (by decide))⟩⟩
set_option maxRecDepth 10000 in
set_option maxHeartbeats 2000000 in
theorem takeWorker_any (ki : Int) (nm : ByteArray) (dl : Int) (x1 : Option Addr) (x2 x3 : Nat) (ky : ByteArray) (la : Int) (wo : Int) (tk : Int) (y1 : Option Addr) (y2 y3 : Nat) (ru : Int) (lu : Int) (ti : Int) (W : World) (ob q : Nat) (s : K.RS) (hR : Rr W q s) (hqo : q < ob) (hx : W.heap[ob]? = some (.cells #[.int .i64 ki, .string nm, .int .i64 dl, .slice x1 x2 x3, .string ky, .int .i64 la, .int .i64 wo, .int .i64 tk, .slice y1 y2 y3, .int .i64 ru, .int .u64 lu, .int .i64 ti] 99 (0, 0))) :
    Calls Tryz.prog 91 #[.pointer (some ⟨ob, 0, none⟩), .pointer (some ⟨q, 0, none⟩)] W fun en w' => en = .returned (.tuple #[]) ∧ Rr w' q (takeR (numR 0 1099511627776) s) ∧ Keep (fun k => k = q ∨ k = ob) W w' ∧
      ∃ xv : Int, w'.heap[ob]? = some (.cells #[.int .i64 ki, .string nm, .int .i64 dl, .slice x1 x2 x3, .string ky, .int .i64 la, .int .i64 xv, .int .i64 tk, .slice y1 y2 y3, .int .i64 ru, .int .u64 lu, .int .i64 ti] 99 (0, 0)) ∧ ∀ d, OvC d W ki nm dl x1 x2 x3 ky la wo tk y1 y2 y3 ru lu ti → (takeR (numR 0 1099511627776) s).fault = 0 → OvC { d with wo := iV s } w' ki nm dl x1 x2 x3 ky la xv tk y1 y2 y3 ru lu ti := by
  have HTK : Hid (∀ w2 : World, Below W.heap.size W w2 → ∀ l m, w2.cell? ⟨l, 0, none⟩ = some (.int .i64 0) → w2.cell? ⟨m, 0, none⟩ = some (.int .i64 1099511627776) → W.heap.size ≤ l → W.heap.size ≤ m → Calls Tryz.prog 48 #[.agg #[.func (.func 78) #[] (#[.pointer (some ⟨l, 0, none⟩), .pointer (some ⟨m, 0, none⟩)]), .func (.func 81) #[] (#[.pointer (some ⟨l, 0, none⟩), .pointer (some ⟨m, 0, none⟩)])], .pointer (some ⟨q, 0, none⟩)] w2 (Took q (takeR (numR 0 1099511627776) s) (vI s) (.int .i64 0) w2)) := by
    intro w2 hb2 l m hl hm hll hlm
    exact ftakeI (bf := (0, W.heap.size)) (Agree.refl fun k hk => hk.1) (lo_none hR.lt) (hR.below hb2) (takesNum _ _ l m 0 1099511627776 hl hm (clM hl hll) (clM hm hlm)) ((stable_I (T := 0) s).stable) ent_takeNum
  have HNE := hide (ne_rdO hR hx)
  have HTY := hide (op_typ hR hx)
  have HX0 := hide hx
  have HQ0 := hide hR.lt
  have HMK := hide (workers_any W)
  have HQO := hide hqo
  clear hR hx hqo
  go_enter Tryz.func91, Tryz.ntmps91
  go_wp2_with (first
    | (go_at_call 48; refine TK.out.mono ?_; rintro e w3 ⟨v, rfl, hr, hk, hv, hn⟩; obtain ⟨xv, rfl, hxv⟩ := sh_I hv hn; have HX3 := hide (hk.blk HX2.out HNE.out); have HR3 := hide hr; have HK3 := hide ((Keep.ofBelow (S := fun k => k = q) HB2.out (Nat.le_refl _)).trans hk fun _ e => .inl e); have HXV := hide hxv; have ct := cell_blk HX3.out 6 rfl; have cz := frozen_blk HX3.out 6; clear hr hk hn hv hxv TK)
    | (go_at_call 139; refine HMK.out.mono ?_; rintro e w2 ⟨l, m, rfl, hl, hm, hll, hlm, hb⟩; have HX2 := hide (blkB HX0.out hb); have HB2 := hide hb; have TK := hide (HTK.out w2 hb l m hl hm hll hlm); clear hl hm hll hlm hb HMK HTK))
  have hxv := HXV.out
  have kx := keep_cell w3 ob 6 (.int .i64 xv)
  have HXN : Hid ((w3.setCell ⟨ob, 6, none⟩ (.int .i64 xv)).heap[ob]? = some (.cells #[.int .i64 ki, .string nm, .int .i64 dl, .slice x1 x2 x3, .string ky, .int .i64 la, .int .i64 xv, .int .i64 tk, .slice y1 y2 y3, .int .i64 ru, .int .u64 lu, .int .i64 ti] 99 (0, 0))) := (set_blk HX3.out 6 _).trans rfl
  have HRN := hide (HR3.out.stay kx fun j hj e => by have := HQO.out; have e : j = ob := e; omega)
  have hkk := (HK3.out.mono (T := fun k => k = q ∨ k = ob) fun _ e => .inl e).trans kx fun i e => .inl (.inr e)
  first | go_end0 | refine bodyPost_ret (results_none rfl _ _ _) rfl ?_
  exact ⟨rfl, HRN.out, hkk, xv, HXN.out, fun d hd hz => ⟨⟨hd.1.1, hd.1.2.1, hd.1.2.2.1, hd.1.2.2.2.1, hd.1.2.2.2.2.1, hxv hz, hd.1.2.2.2.2.2.2.1, hd.1.2.2.2.2.2.2.2.1, hd.1.2.2.2.2.2.2.2.2.1, hd.1.2.2.2.2.2.2.2.2.2⟩, (stable_Ns (T := 99) (by decide) (by decide) _ _ _ _ _ hd.2.1 hkk HTY.out), (own_keepT (T := 99) hd.2.2 hkk HTY.out (by decide) (by decide))⟩⟩
set_option maxRecDepth 10000 in
set_option maxHeartbeats 2000000 in
theorem takeToken_any (ki : Int) (nm : ByteArray) (dl : Int) (x1 : Option Addr) (x2 x3 : Nat) (ky : ByteArray) (la : Int) (wo : Int) (tk : Int) (y1 : Option Addr) (y2 y3 : Nat) (ru : Int) (lu : Int) (ti : Int) (W : World) (ob q : Nat) (s : K.RS) (hR : Rr W q s) (hqo : q < ob) (hx : W.heap[ob]? = some (.cells #[.int .i64 ki, .string nm, .int .i64 dl, .slice x1 x2 x3, .string ky, .int .i64 la, .int .i64 wo, .int .i64 tk, .slice y1 y2 y3, .int .i64 ru, .int .u64 lu, .int .i64 ti] 99 (0, 0))) :
    Calls Tryz.prog 93 #[.pointer (some ⟨ob, 0, none⟩), .pointer (some ⟨q, 0, none⟩)] W fun en w' => en = .returned (.tuple #[]) ∧ Rr w' q (takeR (numR 1 1099511627776) s) ∧ Keep (fun k => k = q ∨ k = ob) W w' ∧
      ∃ xv : Int, w'.heap[ob]? = some (.cells #[.int .i64 ki, .string nm, .int .i64 dl, .slice x1 x2 x3, .string ky, .int .i64 la, .int .i64 wo, .int .i64 xv, .slice y1 y2 y3, .int .i64 ru, .int .u64 lu, .int .i64 ti] 99 (0, 0)) ∧ ∀ d, OvC d W ki nm dl x1 x2 x3 ky la wo tk y1 y2 y3 ru lu ti → (takeR (numR 1 1099511627776) s).fault = 0 → OvC { d with tk := iV s } w' ki nm dl x1 x2 x3 ky la wo xv y1 y2 y3 ru lu ti := by
  have HTK : Hid (∀ w2 : World, Below W.heap.size W w2 → ∀ l m, w2.cell? ⟨l, 0, none⟩ = some (.int .i64 1) → w2.cell? ⟨m, 0, none⟩ = some (.int .i64 1099511627776) → W.heap.size ≤ l → W.heap.size ≤ m → Calls Tryz.prog 48 #[.agg #[.func (.func 78) #[] (#[.pointer (some ⟨l, 0, none⟩), .pointer (some ⟨m, 0, none⟩)]), .func (.func 81) #[] (#[.pointer (some ⟨l, 0, none⟩), .pointer (some ⟨m, 0, none⟩)])], .pointer (some ⟨q, 0, none⟩)] w2 (Took q (takeR (numR 1 1099511627776) s) (vI s) (.int .i64 0) w2)) := by
    intro w2 hb2 l m hl hm hll hlm
    exact ftakeI (bf := (0, W.heap.size)) (Agree.refl fun k hk => hk.1) (lo_none hR.lt) (hR.below hb2) (takesNum _ _ l m 1 1099511627776 hl hm (clM hl hll) (clM hm hlm)) ((stable_I (T := 0) s).stable) ent_takeNum
  have HNE := hide (ne_rdO hR hx)
  have HTY := hide (op_typ hR hx)
  have HX0 := hide hx
  have HQ0 := hide hR.lt
  have HMK := hide (counts_any W)
  have HQO := hide hqo
  clear hR hx hqo
  go_enter Tryz.func93, Tryz.ntmps93
  go_wp2_with (first
    | (go_at_call 48; refine TK.out.mono ?_; rintro e w3 ⟨v, rfl, hr, hk, hv, hn⟩; obtain ⟨xv, rfl, hxv⟩ := sh_I hv hn; have HX3 := hide (hk.blk HX2.out HNE.out); have HR3 := hide hr; have HK3 := hide ((Keep.ofBelow (S := fun k => k = q) HB2.out (Nat.le_refl _)).trans hk fun _ e => .inl e); have HXV := hide hxv; have ct := cell_blk HX3.out 7 rfl; have cz := frozen_blk HX3.out 7; clear hr hk hn hv hxv TK)
    | (go_at_call 140; refine HMK.out.mono ?_; rintro e w2 ⟨l, m, rfl, hl, hm, hll, hlm, hb⟩; have HX2 := hide (blkB HX0.out hb); have HB2 := hide hb; have TK := hide (HTK.out w2 hb l m hl hm hll hlm); clear hl hm hll hlm hb HMK HTK))
  have hxv := HXV.out
  have kx := keep_cell w3 ob 7 (.int .i64 xv)
  have HXN : Hid ((w3.setCell ⟨ob, 7, none⟩ (.int .i64 xv)).heap[ob]? = some (.cells #[.int .i64 ki, .string nm, .int .i64 dl, .slice x1 x2 x3, .string ky, .int .i64 la, .int .i64 wo, .int .i64 xv, .slice y1 y2 y3, .int .i64 ru, .int .u64 lu, .int .i64 ti] 99 (0, 0))) := (set_blk HX3.out 7 _).trans rfl
  have HRN := hide (HR3.out.stay kx fun j hj e => by have := HQO.out; have e : j = ob := e; omega)
  have hkk := (HK3.out.mono (T := fun k => k = q ∨ k = ob) fun _ e => .inl e).trans kx fun i e => .inl (.inr e)
  first | go_end0 | refine bodyPost_ret (results_none rfl _ _ _) rfl ?_
  exact ⟨rfl, HRN.out, hkk, xv, HXN.out, fun d hd hz => ⟨⟨hd.1.1, hd.1.2.1, hd.1.2.2.1, hd.1.2.2.2.1, hd.1.2.2.2.2.1, hd.1.2.2.2.2.2.1, hxv hz, hd.1.2.2.2.2.2.2.2.1, hd.1.2.2.2.2.2.2.2.2.1, hd.1.2.2.2.2.2.2.2.2.2⟩, (stable_Ns (T := 99) (by decide) (by decide) _ _ _ _ _ hd.2.1 hkk HTY.out), (own_keepT (T := 99) hd.2.2 hkk HTY.out (by decide) (by decide))⟩⟩
set_option maxRecDepth 10000 in
set_option maxHeartbeats 2000000 in
theorem takeResult_any (ki : Int) (nm : ByteArray) (dl : Int) (x1 : Option Addr) (x2 x3 : Nat) (ky : ByteArray) (la : Int) (wo : Int) (tk : Int) (y1 : Option Addr) (y2 y3 : Nat) (ru : Int) (lu : Int) (ti : Int) (W : World) (ob q : Nat) (s : K.RS) (hR : Rr W q s) (hqo : q < ob) (hx : W.heap[ob]? = some (.cells #[.int .i64 ki, .string nm, .int .i64 dl, .slice x1 x2 x3, .string ky, .int .i64 la, .int .i64 wo, .int .i64 tk, .slice y1 y2 y3, .int .i64 ru, .int .u64 lu, .int .i64 ti] 99 (0, 0))) :
    Calls Tryz.prog 95 #[.pointer (some ⟨ob, 0, none⟩), .pointer (some ⟨q, 0, none⟩)] W fun en w' => en = .returned (.tuple #[]) ∧ Rr w' q (takeR (rowR 64) s) ∧ Keep (fun k => k = q ∨ k = ob) W w' ∧
      ∃ (ya : Option Addr) (yn yc : Nat), w'.heap[ob]? = some (.cells #[.int .i64 ki, .string nm, .int .i64 dl, .slice x1 x2 x3, .string ky, .int .i64 la, .int .i64 wo, .int .i64 tk, .slice ya yn yc, .int .i64 ru, .int .u64 lu, .int .i64 ti] 99 (0, 0)) ∧ ∀ d, OvC d W ki nm dl x1 x2 x3 ky la wo tk y1 y2 y3 ru lu ti → (takeR (rowR 64) s).fault = 0 → OvC { d with ry := rowV 64 s } w' ki nm dl x1 x2 x3 ky la wo tk ya yn yc ru lu ti := by
  have HTK : Hid (∀ w2 : World, Below W.heap.size W w2 → ∀ m, w2.cell? ⟨m, 0, none⟩ = some (.int .i64 64) → W.heap.size ≤ m → Calls Tryz.prog 143 #[.agg #[.func (.func 186) #[] (#[.pointer (some ⟨m, 0, none⟩)]), .func (.func 188) #[] (#[.pointer (some ⟨m, 0, none⟩)])], .pointer (some ⟨q, 0, none⟩)] w2 (Took q (takeR (rowR 64) s) ((fun w v => w.ownsRow 0 5 1 v (rowV 64 s).length (B8 (rowV 64 s)))) (.slice none 0 0) w2)) := by
    intro w2 hb2 m hm hlm
    exact ftakeB (bf := (0, W.heap.size)) (Agree.refl fun k hk => hk.1) (lo_none hR.lt) (hR.below hb2) (takesBlob _ _ m 64 hm (clM hm hlm)) ((stable_Bl (T := 99) (by decide) 64 s).stable) ent_takeBlob
  have HNE := hide (ne_rdO hR hx)
  have HTY := hide (op_typ hR hx)
  have HX0 := hide hx
  have HQ0 := hide hR.lt
  have HMK := hide (results_any W)
  have HQO := hide hqo
  clear hR hx hqo
  go_enter Tryz.func95, Tryz.ntmps95
  go_wp2_with (first
    | (go_at_call 143; refine TK.out.mono ?_; rintro e w3 ⟨v, rfl, hr, hk, hv, hn⟩; obtain ⟨ya, yn, yc, rfl, hxv⟩ := sh_B hv hn; have HX3 := hide (hk.blk HX2.out HNE.out); have HR3 := hide hr; have HK3 := hide ((Keep.ofBelow (S := fun k => k = q) HB2.out (Nat.le_refl _)).trans hk fun _ e => .inl e); have HXV := hide hxv; have ct := cell_blk HX3.out 8 rfl; have cz := frozen_blk HX3.out 8; clear hr hk hn hv hxv TK)
    | (go_at_call 141; refine HMK.out.mono ?_; rintro e w2 ⟨m, rfl, hm, hlm, hb⟩; have HX2 := hide (blkB HX0.out hb); have HB2 := hide hb; have TK := hide (HTK.out w2 hb m hm hlm); clear hm hlm hb HMK HTK))
  have hxv := HXV.out
  have kx := keep_cell w3 ob 8 (.slice ya yn yc)
  have HXN : Hid ((w3.setCell ⟨ob, 8, none⟩ (.slice ya yn yc)).heap[ob]? = some (.cells #[.int .i64 ki, .string nm, .int .i64 dl, .slice x1 x2 x3, .string ky, .int .i64 la, .int .i64 wo, .int .i64 tk, .slice ya yn yc, .int .i64 ru, .int .u64 lu, .int .i64 ti] 99 (0, 0))) := (set_blk HX3.out 8 _).trans rfl
  have HRN := hide (HR3.out.stay kx fun j hj e => by have := HQO.out; have e : j = ob := e; omega)
  have hkk := (HK3.out.mono (T := fun k => k = q ∨ k = ob) fun _ e => .inl e).trans kx fun i e => .inl (.inr e)
  first | go_end0 | refine bodyPost_ret (results_none rfl _ _ _) rfl ?_
  exact ⟨rfl, HRN.out, hkk, ya, yn, yc, HXN.out, fun d hd hz => ⟨hd.1, (stable_Ns (T := 99) (by decide) (by decide) _ _ _ _ _ hd.2.1 hkk HTY.out), own_keepT (T := 99) (hxv hz) kx (fun k e => ⟨_, _, (e ▸ HX3.out : w3.heap[k]? = _), .inr rfl⟩) (by decide) (by decide)⟩⟩
set_option maxRecDepth 10000 in
set_option maxHeartbeats 2000000 in
theorem takeRun_any (ki : Int) (nm : ByteArray) (dl : Int) (x1 : Option Addr) (x2 x3 : Nat) (ky : ByteArray) (la : Int) (wo : Int) (tk : Int) (y1 : Option Addr) (y2 y3 : Nat) (ru : Int) (lu : Int) (ti : Int) (W : World) (ob q : Nat) (s : K.RS) (hR : Rr W q s) (hqo : q < ob) (hx : W.heap[ob]? = some (.cells #[.int .i64 ki, .string nm, .int .i64 dl, .slice x1 x2 x3, .string ky, .int .i64 la, .int .i64 wo, .int .i64 tk, .slice y1 y2 y3, .int .i64 ru, .int .u64 lu, .int .i64 ti] 99 (0, 0))) :
    Calls Tryz.prog 97 #[.pointer (some ⟨ob, 0, none⟩), .pointer (some ⟨q, 0, none⟩)] W fun en w' => en = .returned (.tuple #[]) ∧ Rr w' q (takeR (numR 1 1099511627776) s) ∧ Keep (fun k => k = q ∨ k = ob) W w' ∧
      ∃ xv : Int, w'.heap[ob]? = some (.cells #[.int .i64 ki, .string nm, .int .i64 dl, .slice x1 x2 x3, .string ky, .int .i64 la, .int .i64 wo, .int .i64 tk, .slice y1 y2 y3, .int .i64 xv, .int .u64 lu, .int .i64 ti] 99 (0, 0)) ∧ ∀ d, OvC d W ki nm dl x1 x2 x3 ky la wo tk y1 y2 y3 ru lu ti → (takeR (numR 1 1099511627776) s).fault = 0 → OvC { d with ru := iV s } w' ki nm dl x1 x2 x3 ky la wo tk y1 y2 y3 xv lu ti := by
  have HTK : Hid (∀ w2 : World, Below W.heap.size W w2 → ∀ l m, w2.cell? ⟨l, 0, none⟩ = some (.int .i64 1) → w2.cell? ⟨m, 0, none⟩ = some (.int .i64 1099511627776) → W.heap.size ≤ l → W.heap.size ≤ m → Calls Tryz.prog 48 #[.agg #[.func (.func 78) #[] (#[.pointer (some ⟨l, 0, none⟩), .pointer (some ⟨m, 0, none⟩)]), .func (.func 81) #[] (#[.pointer (some ⟨l, 0, none⟩), .pointer (some ⟨m, 0, none⟩)])], .pointer (some ⟨q, 0, none⟩)] w2 (Took q (takeR (numR 1 1099511627776) s) (vI s) (.int .i64 0) w2)) := by
    intro w2 hb2 l m hl hm hll hlm
    exact ftakeI (bf := (0, W.heap.size)) (Agree.refl fun k hk => hk.1) (lo_none hR.lt) (hR.below hb2) (takesNum _ _ l m 1 1099511627776 hl hm (clM hl hll) (clM hm hlm)) ((stable_I (T := 0) s).stable) ent_takeNum
  have HNE := hide (ne_rdO hR hx)
  have HTY := hide (op_typ hR hx)
  have HX0 := hide hx
  have HQ0 := hide hR.lt
  have HMK := hide (counts_any W)
  have HQO := hide hqo
  clear hR hx hqo
  go_enter Tryz.func97, Tryz.ntmps97
  go_wp2_with (first
    | (go_at_call 48; refine TK.out.mono ?_; rintro e w3 ⟨v, rfl, hr, hk, hv, hn⟩; obtain ⟨xv, rfl, hxv⟩ := sh_I hv hn; have HX3 := hide (hk.blk HX2.out HNE.out); have HR3 := hide hr; have HK3 := hide ((Keep.ofBelow (S := fun k => k = q) HB2.out (Nat.le_refl _)).trans hk fun _ e => .inl e); have HXV := hide hxv; have ct := cell_blk HX3.out 9 rfl; have cz := frozen_blk HX3.out 9; clear hr hk hn hv hxv TK)
    | (go_at_call 140; refine HMK.out.mono ?_; rintro e w2 ⟨l, m, rfl, hl, hm, hll, hlm, hb⟩; have HX2 := hide (blkB HX0.out hb); have HB2 := hide hb; have TK := hide (HTK.out w2 hb l m hl hm hll hlm); clear hl hm hll hlm hb HMK HTK))
  have hxv := HXV.out
  have kx := keep_cell w3 ob 9 (.int .i64 xv)
  have HXN : Hid ((w3.setCell ⟨ob, 9, none⟩ (.int .i64 xv)).heap[ob]? = some (.cells #[.int .i64 ki, .string nm, .int .i64 dl, .slice x1 x2 x3, .string ky, .int .i64 la, .int .i64 wo, .int .i64 tk, .slice y1 y2 y3, .int .i64 xv, .int .u64 lu, .int .i64 ti] 99 (0, 0))) := (set_blk HX3.out 9 _).trans rfl
  have HRN := hide (HR3.out.stay kx fun j hj e => by have := HQO.out; have e : j = ob := e; omega)
  have hkk := (HK3.out.mono (T := fun k => k = q ∨ k = ob) fun _ e => .inl e).trans kx fun i e => .inl (.inr e)
  first | go_end0 | refine bodyPost_ret (results_none rfl _ _ _) rfl ?_
  exact ⟨rfl, HRN.out, hkk, xv, HXN.out, fun d hd hz => ⟨⟨hd.1.1, hd.1.2.1, hd.1.2.2.1, hd.1.2.2.2.1, hd.1.2.2.2.2.1, hd.1.2.2.2.2.2.1, hd.1.2.2.2.2.2.2.1, hxv hz, hd.1.2.2.2.2.2.2.2.2.1, hd.1.2.2.2.2.2.2.2.2.2⟩, (stable_Ns (T := 99) (by decide) (by decide) _ _ _ _ _ hd.2.1 hkk HTY.out), (own_keepT (T := 99) hd.2.2 hkk HTY.out (by decide) (by decide))⟩⟩
set_option maxRecDepth 10000 in
set_option maxHeartbeats 2000000 in
theorem takeLuck_any (ki : Int) (nm : ByteArray) (dl : Int) (x1 : Option Addr) (x2 x3 : Nat) (ky : ByteArray) (la : Int) (wo : Int) (tk : Int) (y1 : Option Addr) (y2 y3 : Nat) (ru : Int) (lu : Int) (ti : Int) (W : World) (ob q : Nat) (s : K.RS) (hR : Rr W q s) (hqo : q < ob) (hx : W.heap[ob]? = some (.cells #[.int .i64 ki, .string nm, .int .i64 dl, .slice x1 x2 x3, .string ky, .int .i64 la, .int .i64 wo, .int .i64 tk, .slice y1 y2 y3, .int .i64 ru, .int .u64 lu, .int .i64 ti] 99 (0, 0))) :
    Calls Tryz.prog 99 #[.pointer (some ⟨ob, 0, none⟩), .pointer (some ⟨q, 0, none⟩)] W fun en w' => en = .returned (.tuple #[]) ∧ Rr w' q (takeR (wordR) s) ∧ Keep (fun k => k = q ∨ k = ob) W w' ∧
      ∃ xv : Int, w'.heap[ob]? = some (.cells #[.int .i64 ki, .string nm, .int .i64 dl, .slice x1 x2 x3, .string ky, .int .i64 la, .int .i64 wo, .int .i64 tk, .slice y1 y2 y3, .int .i64 ru, .int .u64 xv, .int .i64 ti] 99 (0, 0)) ∧ ∀ d, OvC d W ki nm dl x1 x2 x3 ky la wo tk y1 y2 y3 ru lu ti → (takeR (wordR) s).fault = 0 → OvC { d with lu := wordV s } w' ki nm dl x1 x2 x3 ky la wo tk y1 y2 y3 ru xv ti := by
  have HTK : Hid (∀ w2 : World, Below W.heap.size W w2 →   Calls Tryz.prog 146 #[.agg #[.func (.func 176) #[] (#[]), .func (.func 177) #[] (#[])], .pointer (some ⟨q, 0, none⟩)] w2 (Took q (takeR (wordR) s) ((fun _ v => v = .int .u64 ((wordV s : Nat) : Int))) (.int .u64 0) w2)) := by
    intro w2 hb2  
    exact ftakeW (bf := (0, W.heap.size)) (Agree.refl fun k hk => hk.1) (lo_none hR.lt) (hR.below hb2) (takesWord _ _) ((stableT_plain (T := 0) (P := fun v => v = .int .u64 ((wordV s : Nat) : Int))).stable) ent_takeWord
  have HNE := hide (ne_rdO hR hx)
  have HTY := hide (op_typ hR hx)
  have HX0 := hide hx
  have HQ0 := hide hR.lt
  have HMK := hide (Words_any W)
  have HQO := hide hqo
  clear hR hx hqo
  go_enter Tryz.func99, Tryz.ntmps99
  go_wp2_with (first
    | (go_at_call 146; refine TK.out.mono ?_; rintro e w3 ⟨v, rfl, hr, hk, hv, hn⟩; obtain ⟨xv, rfl, hxv⟩ := sh_W hv hn; have HX3 := hide (hk.blk HX2.out HNE.out); have HR3 := hide hr; have HK3 := hide ((Keep.ofBelow (S := fun k => k = q) HB2.out (Nat.le_refl _)).trans hk fun _ e => .inl e); have HXV := hide hxv; have ct := cell_blk HX3.out 10 rfl; have cz := frozen_blk HX3.out 10; clear hr hk hn hv hxv TK)
    | (go_at_call 144; refine HMK.out.mono ?_; rintro e w2 ⟨rfl, hb⟩; have HX2 := hide (blkB HX0.out hb); have HB2 := hide hb; have TK := hide (HTK.out w2 hb  ); clear  hb HMK HTK))
  have hxv := HXV.out
  have kx := keep_cell w3 ob 10 (.int .u64 xv)
  have HXN : Hid ((w3.setCell ⟨ob, 10, none⟩ (.int .u64 xv)).heap[ob]? = some (.cells #[.int .i64 ki, .string nm, .int .i64 dl, .slice x1 x2 x3, .string ky, .int .i64 la, .int .i64 wo, .int .i64 tk, .slice y1 y2 y3, .int .i64 ru, .int .u64 xv, .int .i64 ti] 99 (0, 0))) := (set_blk HX3.out 10 _).trans rfl
  have HRN := hide (HR3.out.stay kx fun j hj e => by have := HQO.out; have e : j = ob := e; omega)
  have hkk := (HK3.out.mono (T := fun k => k = q ∨ k = ob) fun _ e => .inl e).trans kx fun i e => .inl (.inr e)
  first | go_end0 | refine bodyPost_ret (results_none rfl _ _ _) rfl ?_
  exact ⟨rfl, HRN.out, hkk, xv, HXN.out, fun d hd hz => ⟨⟨hd.1.1, hd.1.2.1, hd.1.2.2.1, hd.1.2.2.2.1, hd.1.2.2.2.2.1, hd.1.2.2.2.2.2.1, hd.1.2.2.2.2.2.2.1, hd.1.2.2.2.2.2.2.2.1, hxv hz, hd.1.2.2.2.2.2.2.2.2.2⟩, (stable_Ns (T := 99) (by decide) (by decide) _ _ _ _ _ hd.2.1 hkk HTY.out), (own_keepT (T := 99) hd.2.2 hkk HTY.out (by decide) (by decide))⟩⟩
set_option maxRecDepth 10000 in
set_option maxHeartbeats 2000000 in
theorem takeTicks_any (ki : Int) (nm : ByteArray) (dl : Int) (x1 : Option Addr) (x2 x3 : Nat) (ky : ByteArray) (la : Int) (wo : Int) (tk : Int) (y1 : Option Addr) (y2 y3 : Nat) (ru : Int) (lu : Int) (ti : Int) (W : World) (ob q : Nat) (s : K.RS) (hR : Rr W q s) (hqo : q < ob) (hx : W.heap[ob]? = some (.cells #[.int .i64 ki, .string nm, .int .i64 dl, .slice x1 x2 x3, .string ky, .int .i64 la, .int .i64 wo, .int .i64 tk, .slice y1 y2 y3, .int .i64 ru, .int .u64 lu, .int .i64 ti] 99 (0, 0))) :
    Calls Tryz.prog 101 #[.pointer (some ⟨ob, 0, none⟩), .pointer (some ⟨q, 0, none⟩)] W fun en w' => en = .returned (.tuple #[]) ∧ Rr w' q (takeR (numR 0 4611686018427387904) s) ∧ Keep (fun k => k = q ∨ k = ob) W w' ∧
      ∃ xv : Int, w'.heap[ob]? = some (.cells #[.int .i64 ki, .string nm, .int .i64 dl, .slice x1 x2 x3, .string ky, .int .i64 la, .int .i64 wo, .int .i64 tk, .slice y1 y2 y3, .int .i64 ru, .int .u64 lu, .int .i64 xv] 99 (0, 0)) ∧ ∀ d, OvC d W ki nm dl x1 x2 x3 ky la wo tk y1 y2 y3 ru lu ti → (takeR (numR 0 4611686018427387904) s).fault = 0 → OvC { d with ti := iV s } w' ki nm dl x1 x2 x3 ky la wo tk y1 y2 y3 ru lu xv := by
  have HTK : Hid (∀ w2 : World, Below W.heap.size W w2 → ∀ l m, w2.cell? ⟨l, 0, none⟩ = some (.int .i64 0) → w2.cell? ⟨m, 0, none⟩ = some (.int .i64 4611686018427387904) → W.heap.size ≤ l → W.heap.size ≤ m → Calls Tryz.prog 48 #[.agg #[.func (.func 78) #[] (#[.pointer (some ⟨l, 0, none⟩), .pointer (some ⟨m, 0, none⟩)]), .func (.func 81) #[] (#[.pointer (some ⟨l, 0, none⟩), .pointer (some ⟨m, 0, none⟩)])], .pointer (some ⟨q, 0, none⟩)] w2 (Took q (takeR (numR 0 4611686018427387904) s) (vI s) (.int .i64 0) w2)) := by
    intro w2 hb2 l m hl hm hll hlm
    exact ftakeI (bf := (0, W.heap.size)) (Agree.refl fun k hk => hk.1) (lo_none hR.lt) (hR.below hb2) (takesNum _ _ l m 0 4611686018427387904 hl hm (clM hl hll) (clM hm hlm)) ((stable_I (T := 0) s).stable) ent_takeNum
  have HNE := hide (ne_rdO hR hx)
  have HTY := hide (op_typ hR hx)
  have HX0 := hide hx
  have HQ0 := hide hR.lt
  have HMK := hide (times_any W)
  have HQO := hide hqo
  clear hR hx hqo
  go_enter Tryz.func101, Tryz.ntmps101
  go_wp2_with (first
    | (go_at_call 48; refine TK.out.mono ?_; rintro e w3 ⟨v, rfl, hr, hk, hv, hn⟩; obtain ⟨xv, rfl, hxv⟩ := sh_I hv hn; have HX3 := hide (hk.blk HX2.out HNE.out); have HR3 := hide hr; have HK3 := hide ((Keep.ofBelow (S := fun k => k = q) HB2.out (Nat.le_refl _)).trans hk fun _ e => .inl e); have HXV := hide hxv; have ct := cell_blk HX3.out 11 rfl; have cz := frozen_blk HX3.out 11; clear hr hk hn hv hxv TK)
    | (go_at_call 147; refine HMK.out.mono ?_; rintro e w2 ⟨l, m, rfl, hl, hm, hll, hlm, hb⟩; have HX2 := hide (blkB HX0.out hb); have HB2 := hide hb; have TK := hide (HTK.out w2 hb l m hl hm hll hlm); clear hl hm hll hlm hb HMK HTK))
  have hxv := HXV.out
  have kx := keep_cell w3 ob 11 (.int .i64 xv)
  have HXN : Hid ((w3.setCell ⟨ob, 11, none⟩ (.int .i64 xv)).heap[ob]? = some (.cells #[.int .i64 ki, .string nm, .int .i64 dl, .slice x1 x2 x3, .string ky, .int .i64 la, .int .i64 wo, .int .i64 tk, .slice y1 y2 y3, .int .i64 ru, .int .u64 lu, .int .i64 xv] 99 (0, 0))) := (set_blk HX3.out 11 _).trans rfl
  have HRN := hide (HR3.out.stay kx fun j hj e => by have := HQO.out; have e : j = ob := e; omega)
  have hkk := (HK3.out.mono (T := fun k => k = q ∨ k = ob) fun _ e => .inl e).trans kx fun i e => .inl (.inr e)
  first | go_end0 | refine bodyPost_ret (results_none rfl _ _ _) rfl ?_
  exact ⟨rfl, HRN.out, hkk, xv, HXN.out, fun d hd hz => ⟨⟨hd.1.1, hd.1.2.1, hd.1.2.2.1, hd.1.2.2.2.1, hd.1.2.2.2.2.1, hd.1.2.2.2.2.2.1, hd.1.2.2.2.2.2.2.1, hd.1.2.2.2.2.2.2.2.1, hd.1.2.2.2.2.2.2.2.2.1, hxv hz⟩, (stable_Ns (T := 99) (by decide) (by decide) _ _ _ _ _ hd.2.1 hkk HTY.out), (own_keepT (T := 99) hd.2.2 hkk HTY.out (by decide) (by decide))⟩⟩
end Cd
end Go.Proofs.YtbjcckfhfbjchaaGreat
