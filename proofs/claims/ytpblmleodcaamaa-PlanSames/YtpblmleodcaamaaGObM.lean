/- What Order tells, and its document: one list; rows that came out. -/
import Derived.Test.YtpblmleodcaamaaGChM
import Derived.Test.YtpblmleodcaamaaGRfO
import Derived.Test.YtpblmleodcaamaaGOwn
namespace Go.Proofs.Ytpblmleodcaamaa
namespace Gr
open Go.RowKit

/-- a list that came out, with a number -/
def LsE (Q : List Nat → Prop) (k : Nat) (w : World) (e : Ending) (w' : World) : Prop := ∃ (l : List Nat) (a : Option Addr) (c : Nat), e = .returned (.tuple #[.slice a l.length c, .int .i64 (k : Int)]) ∧ w'.ownsRow w.heap.size 3 1 (.slice a l.length c) l.length (iv l) ∧ Q l ∧ Keep (fun _ => False) w w'
def IsO (nm : ByteArray) (dl : Int) (xs : List No) (l : List Nat) : Prop := ((chk nm dl xs).2 ≠ 0 → l = []) ∧ ((chk nm dl xs).2 = 0 → l.length = xs.length ∧ Ord (eg xs) xs.length l)
theorem IsO.uniq {nm : ByteArray} {dl : Int} {xs : List No} {l m : List Nat} (h : IsO nm dl xs l) (g : IsO nm dl xs m) : l = m := by
  by_cases e : (chk nm dl xs).2 = 0
  · obtain ⟨h1, h2⟩ := h.2 e
    obtain ⟨g1, g2⟩ := g.2 e
    exact h2.uniq g2 (h1.trans g1.symm)
  · rw [h.1 e, g.1 e]
theorem IsO.len {nm : ByteArray} {dl : Int} {xs : List No} {l : List Nat} (h : IsO nm dl xs l) : l.length ≤ 64 := by
  by_cases e : (chk nm dl xs).2 = 0
  · have := (chk_ok (nm := nm) (dl := dl) (xs := xs) e)
    obtain ⟨_, _, _, hv, _⟩ := this
    rw [(h.2 e).1]
    exact hv.1
  · rw [h.1 e]; exact Nat.zero_le _
theorem IsO.alks {nm : ByteArray} {dl : Int} {xs ys : List No} (h : Alks ys xs) {l : List Nat} : IsO nm dl ys l ↔ IsO nm dl xs l := by
  unfold IsO
  rw [chk_alk (nm := nm) (dl := dl) h, h.sims.eg, h.1]
theorem order_ls (nm : ByteArray) (dl : Int) (s : Option Addr × Nat × Nat) (xs : List No) (B : Nat) (w : World) (hP : RdP B w s xs) (hB : B ≤ w.heap.size) (hs : Sz nm xs) :
    Calls Try.prog 14 #[.agg #[.string nm, .int .i64 dl, .slice s.1 s.2.1 s.2.2]] w (LsE (IsO nm dl xs) (chk nm dl xs).2 w) :=
  (order_any nm dl s xs B w hP hB hs).mono fun e w' ⟨l, v, h1, h2, h3, h4, h5⟩ => by
    obtain ⟨a, c, rfl⟩ := ownsRow_shape h2
    exact ⟨l, a, c, h1, h2, ⟨h3, h4⟩, h5⟩
theorem refOrder_ls (nm : ByteArray) (dl : Int) (s : Option Addr × Nat × Nat) (xs : List No) (B : Nat) (w : World) (hP : RdP B w s xs) (hB : B ≤ w.heap.size) (hs : Sz nm xs) :
    Calls Try.prog 15 #[.agg #[.string nm, .int .i64 dl, .slice s.1 s.2.1 s.2.2]] w (LsE (IsO nm dl xs) (chk nm dl xs).2 w) :=
  (refOrder_any nm dl s xs B w hP hB hs).mono fun e w' ⟨l, v, h1, h2, h3, h4, h5⟩ => by
    obtain ⟨a, c, rfl⟩ := ownsRow_shape h2
    exact ⟨l, a, c, h1, h2, ⟨h3, h4⟩, h5⟩
/-- a row that came out, in blocks from lo to hi -/
structure Rw (W : World) (lo hi : Nat) (a : Option Addr) (c : Nat) (l : List Nat) : Prop where
  own : W.ownsRow lo 3 1 (.slice a l.length c) l.length (iv l)
  hi : ∀ g, (Value.slice a l.length c).ownBlock = some g → g < hi
section
variable {W W' : World} {lo hi : Nat} {a : Option Addr} {c : Nat} {l : List Nat}
theorem Rw.of (h : W.ownsRow lo 3 1 (.slice a l.length c) l.length (iv l)) : Rw W lo W.heap.size a c l := ⟨h, fun g hg => (h.lt g hg).2⟩
theorem Rw.new (h : Rw W lo hi a c l) (k : Keep (fun _ => False) W W') : Rw W' lo hi a c l := ⟨ownsRow_new h.own k, h.hi⟩
theorem Rw.far (h : Rw W lo hi a c l) {S : Nat → Prop} (k : Keep S W W') (hS : ∀ i, S i → i < lo ∨ hi ≤ i) : Rw W' lo hi a c l := ⟨ownsRow_keep h.own k fun i hi' e => by have h1 := hS i hi'; have h2 := ownsRow_from h.own e; have h3 := h.hi i e; omega, h.hi⟩
theorem Rw.rd (h : Rw W lo hi a c l) (hl : l.length ≤ 64) : RdZ W.heap.size W (a, l.length, c) (l.map fun x : Nat => (x : Int)) := by
  obtain ⟨a', c', e, h'⟩ := ownsRow_rd h.own (by omega)
  injection e with e1 e2 e3
  subst e1
  subst e3
  exact h'
end
/-- two of them are the same list -/
theorem same_ls {W : World} {lo hi lo' hi' : Nat} {a a' : Option Addr} {c c' : Nat} {l : List Nat} (h : Rw W lo hi a c l) (h' : Rw W lo' hi' a' c' l) (hl : l.length ≤ 64) :
    Calls Try.prog 16 #[.slice a l.length c, .slice a' l.length c'] W fun e w' => e = .returned (.bool true) ∧ Keep (fun _ => False) W w' := by
  have := same_any (a, l.length, c) (a', l.length, c') _ _ _ _ W (h.rd hl) (h'.rd hl)
  rw [decide_eq_true (rfl : (l.map fun x : Nat => (x : Int)) = l.map fun x : Nat => (x : Int))] at this
  exact this
/-- three that came out one behind another -/
theorem owned_ls {W : World} {l1 h1 l2 h2 l3 h3 : Nat} {a b d : Option Addr} {ca cb cd : Nat} {la lb ld : List Nat} (ra : Rw W l1 h1 a ca la) (rb : Rw W l2 h2 b cb lb) (rd : Rw W l3 h3 d cd ld) (e1 : h1 ≤ l2) (e2 : h2 ≤ l3) (e0 : l2 ≤ h2) (ha : la.length ≤ 64) (hb : lb.length ≤ 64) (hd : ld.length ≤ 64) :
    Calls Try.prog 17 #[.slice a la.length ca, .slice b lb.length cb, .slice d ld.length cd] W fun e w' => e = .returned (.bool true) ∧ Keep (fun i => (l1 ≤ i ∧ i < h1) ∨ (l2 ≤ i ∧ i < h2) ∨ (l3 ≤ i ∧ i < h3)) W w' := by
  let A : Nat → Option Addr := fun j => match j with | 0 => a | 1 => b | _ => d
  let n : Nat → Nat := fun j => match j with | 0 => la.length | 1 => lb.length | _ => ld.length
  let C : Nat → Nat := fun j => match j with | 0 => ca | 1 => cb | _ => cd
  let X : Nat → List Value := fun j => match j with | 0 => iv la | 1 => iv lb | _ => iv ld
  have c3 : ∀ j, j < 3 → j = 0 ∨ j = 1 ∨ j = 2 := fun j hj => by omega
  have in1 : ∀ g, (Value.slice a la.length ca).ownBlock = some g → l1 ≤ g ∧ g < h1 := fun g hg => ⟨ownsRow_from ra.own hg, ra.hi g hg⟩
  have in2 : ∀ g, (Value.slice b lb.length cb).ownBlock = some g → l2 ≤ g ∧ g < h2 := fun g hg => ⟨ownsRow_from rb.own hg, rb.hi g hg⟩
  have in3 : ∀ g, (Value.slice d ld.length cd).ownBlock = some g → l3 ≤ g ∧ g < h3 := fun g hg => ⟨ownsRow_from rd.own hg, rd.hi g hg⟩
  have h := owned_any A n C X W (fun j hj => by
      rcases c3 j hj with rfl | rfl | rfl
      · exact ownsRow_base (b' := 0) ra.own (Nat.zero_le _)
      · exact ownsRow_base (b' := 0) rb.own (Nat.zero_le _)
      · exact ownsRow_base (b' := 0) rd.own (Nat.zero_le _))
    (fun j k g hj hk hne hg hg' => by
      rcases c3 j hj with rfl | rfl | rfl <;> rcases c3 k hk with rfl | rfl | rfl
      · exact hne rfl
      · have := in1 g hg; have := in2 g hg'; omega
      · have := in1 g hg; have := in3 g hg'; omega
      · have := in2 g hg; have := in1 g hg'; omega
      · exact hne rfl
      · have := in2 g hg; have := in3 g hg'; omega
      · have := in3 g hg; have := in1 g hg'; omega
      · have := in3 g hg; have := in2 g hg'; omega
      · exact hne rfl)
    (fun j hj => by
      rcases c3 j hj with rfl | rfl | rfl
      · show la.length ≤ _; omega
      · show lb.length ≤ _; omega
      · show ld.length ≤ _; omega)
  refine h.mono fun e w' ⟨he, k⟩ => ⟨he, k.mono fun i hi => ?_⟩
  obtain ⟨j, hj, hg⟩ := hi
  rcases c3 j hj with rfl | rfl | rfl
  · exact .inl (in1 i hg)
  · exact .inr (.inl (in2 i hg))
  · exact .inr (.inr (in3 i hg))
/-- a lent plan, read -/
theorem Ln.rdp {b : Nat} {W : World} {n : Nat} {xs : List No} {G : Nat} {ys : List No} {v1 v2 : Value} (h : Ln b W n xs G ys v1 v2) (hl : xs.length = n) (hes : xs.length + edges xs ≤ 20000) : RdP W.heap.size W (some ⟨G, 0, none⟩, n, n + 3) ys := by
  refine ⟨h.len.symm, by show n ≤ _; omega, .inr ⟨G, 0, rfl, h.rows.lt, fun i x hx => ?_⟩, fun y hy => ?_⟩
  · rw [Nat.zero_add]
    refine h.rows.node i x.q ?_
    rw [List.getElem?_append_left (by rw [List.length_map]; exact (List.getElem?_eq_some_iff.1 hx).1), List.getElem?_map, hx]
    rfl
  · obtain ⟨k, hk⟩ := List.getElem?_of_mem hy
    have hkl : k < xs.length := by have := (List.getElem?_eq_some_iff.1 hk).1; rw [h.len] at this; omega
    have hx : xs[k]? = some (xs[k]'hkl) := List.getElem?_eq_getElem _
    have ht := h.lts k _ y hx hk
    have hbd := edges_at hes _ (List.mem_of_getElem? hx)
    obtain ⟨g1, e1, o1⟩ := ht.ne
    obtain ⟨g2, e2, o2⟩ := ht.af
    have r1 := o1.rd (n := xs[k].nl.length) (by rw [marked_len]; omega) (by rw [marked_len]; omega) (xs[k].nl.length + 20)
    have r2 := o2.rd (n := xs[k].al.length) (by rw [marked_len]; omega) (by rw [marked_len]; omega) (xs[k].al.length + 20)
    rw [marked_take] at r1 r2
    rw [e1, e2, ht.nl, ht.al]
    exact ⟨r1, r2⟩
theorem Alks.sz {nm : ByteArray} {xs ys : List No} (h : Alks ys xs) (hs : Sz nm xs) : Sz nm ys := ⟨hs.1, fun y hy => by
  obtain ⟨k, hk⟩ := List.getElem?_of_mem hy
  have hkl : k < xs.length := by have := (List.getElem?_eq_some_iff.1 hk).1; rw [← h.1]; exact this
  rw [(h.2 k y _ hk (List.getElem?_eq_getElem hkl)).2.2.1]
  exact hs.2 _ (List.getElem_mem _)⟩
end Gr
end Go.Proofs.Ytpblmleodcaamaa
