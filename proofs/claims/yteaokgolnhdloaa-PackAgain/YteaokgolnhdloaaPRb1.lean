/- Lists of blobs that are taken: each in a block of its own. -/
import Derived.Test.YteaokgolnhdloaaPBlobR
import Derived.Test.YteaokgolnhdloaaPOkR
namespace Go.Proofs.Yteaokgolnhdloaa
namespace Wm
open Go.RowKit Go.Deep

set_option maxRecDepth 10000 in
theorem takeBlobX (B q m : Nat) (most : Int) (s : K.RS) (w : World) (hB : B ≤ w.heap.size) (h : Rr w q s) (hz : s.fault = 0) (hm : w.cell? ⟨m, 0, none⟩ = some (.int .i64 most)) :
    Takes w q 49 #[.pointer (some ⟨m, 0, none⟩)] (rowR most s) (fun w v => w.ownsRow B 5 1 v (rowV most s).length (B8 (rowV most s))) := by
  have HH := hide h
  have HZ := hide hz
  have HBB := hide hB
  unfold Takes
  show Calls Try.prog 49 #[.pointer (some ⟨q, 0, none⟩), .pointer (some ⟨m, 0, none⟩)] w _
  generalize hs' : rowR most s = s'
  generalize hx : rowV most s = x
  have HS := hide hs'
  have HX := hide hx
  clear hs' hx h hz hB
  cases hc : cnt most (rest s) with
  | error e =>
    have HC := hide hc
    have HS' : Hid (s.fail e = s') := by show _ = _; rw [← HS.out]; unfold rowR; rw [hc]
    clear hc
    go_enter Try.func49, Try.ntmps49
    go_wp2_with fail
    refine (takeRow_err q most s _ HH.out e HC.out).mono ?_
    rintro en w1 ⟨rfl, hb⟩
    exact ⟨rfl, Keep.ofBelow hb (Nat.le_refl _), .inr ⟨by rw [← HS'.out]; exact fail_ne HZ.out (cnt_err HC.out), e, s, rfl, HH.out.below hb, HS'.out⟩⟩
  | ok r =>
    obtain ⟨n, z⟩ := r
    have HC := hide hc
    have HS' : Hid (s.go (z + n) = s') := by show _ = _; rw [← HS.out]; unfold rowR; rw [hc]
    have HX' : Hid (((rest s).take (z + n)).drop z = x) := by show _ = _; rw [← HX.out]; unfold rowV; rw [hc]
    clear hc
    go_enter Try.func49, Try.ntmps49
    go_wp2_with fail
    refine (takeRow_ok q most s _ HH.out n z HC.out).mono ?_
    rintro en w1 ⟨a, c, rfl, hr, h0, hcc, hrr, hk⟩
    have HN : Hid (n ≤ 16777216) := by show _ ≤ _; have h1 := (cnt_ok HC.out).2.2; rw [rest_len] at h1; have := HH.out.top; omega
    rw [HX'.out] at hr
    rw [HS'.out] at hrr
    have HRD := hide hr
    have H0 := hide h0
    have HRR := hide hrr
    have HK := hide hk
    clear hr h0 hrr hk
    go_wp2_with fail
    refine (clone_any a n c x _ HRD.out H0.out (by have := HRD.out.2.1; have := HN.out; omega)).mono ?_
    rintro en w2 ⟨v, rfl, ho, hb⟩
    have HO := hide (ownsRow_base ho (Nat.le_trans HBB.out HK.out.size))
    have HB := hide hb
    clear ho hb
    obtain ⟨a2, c2, hv2⟩ := ownsRow_shape HO.out
    subst hv2
    go_wp2
    go_ret
    exact ⟨HK.out.more (Keep.ofBelow HB.out (Nat.le_refl _)), .inl ⟨by rw [← HS'.out]; exact HZ.out, _, rfl, HRR.out.below HB.out, HO.out⟩⟩
/-- one blob: new memory -/
theorem take_blobX (q m : Nat) (mo : Int) (s : K.RS) (hz : s.fault = 0) (w : World) (h : Rr w q s) (hm : w.cell? ⟨m, 0, none⟩ = some (.int .i64 mo)) (fn1 : FuncId) (cap1 : Array Value) :
    Calls Try.prog 87 #[.agg #[.func (.func fn1) #[] cap1, .func (.func 49) #[] #[.pointer (some ⟨m, 0, none⟩)]], .pointer (some ⟨q, 0, none⟩)] w fun en w' => ∃ v, en = .returned v ∧ Rr w' q (rowR mo s) ∧ Keep (fun k => k = q) w w' ∧ ((rowR mo s).fault = 0 → w'.ownsRow w.heap.size 5 1 v (rowV mo s).length (B8 (rowV mo s))) ∧ ((rowR mo s).fault ≠ 0 → v = .slice none 0 0) := by
  refine (TakeB q fn1 _ cap1 _ s (rowR mo s) (fun w' v => w'.ownsRow w.heap.size 5 1 v (rowV mo s).length (B8 (rowV mo s))) (fun w1 w2 v h hb => ownsRow_keepB h hb) w h (fun _ w1 hb => takeBlobX w.heap.size q m mo s w1 hb.size (h.below hb) hz (by rw [hb.cell (p := ⟨m, 0, none⟩) (block_lt_of_cell hm)]; exact hm)) (fun hn => absurd hz hn) ent_takeBlob).mono ?_
  rintro en w' ⟨v, rfl, h1, h2, h3, h4⟩
  exact ⟨v, rfl, h1, h2, h3, h4⟩
theorem blkBX {w w' : World} {b : Nat} {o : Obj} (h : w.heap[b]? = some o) (hb : Below w.heap.size w w') : w'.heap[b]? = some o :=
  (Keep.ofBelow (S := fun _ => False) hb (Nat.le_refl _)).blk h fun h => h
/-- lists of bytes, each in a block of its own, from B on -/
structure Bl (B : Nat) (w : World) (vs : List Value) (Ls : List (List Nat)) : Prop where
  len : vs.length = Ls.length
  own : ∀ (i : Nat) v l, vs[i]? = some v → Ls[i]? = some l → w.ownsRow B 5 1 v l.length (B8 l)
  ap : ∀ (i j : Nat) v u b, vs[i]? = some v → vs[j]? = some u → i ≠ j → v.ownBlock = some b → u.ownBlock ≠ some b
theorem Bl.lt {B : Nat} {w : World} {vs : List Value} {Ls : List (List Nat)} (h : Bl B w vs Ls) {i : Nat} {v : Value} (hv : vs[i]? = some v) {b : Nat} (hb : v.ownBlock = some b) : B ≤ b ∧ b < w.heap.size := by
  obtain ⟨l, hl⟩ : ∃ l, Ls[i]? = some l := ⟨_, List.getElem?_eq_getElem (by have := (List.getElem?_eq_some_iff.1 hv).1; rw [h.len] at this; exact this)⟩
  exact (h.own i v l hv hl).lt b hb
theorem Bl.nil (B : Nat) (w : World) : Bl B w [] [] := ⟨rfl, fun i v l h => by simp at h, fun i j v u b h => by simp at h⟩
theorem Bl.base {B C : Nat} {w : World} {vs : List Value} {Ls : List (List Nat)} (h : Bl B w vs Ls) (hb : C ≤ B) : Bl C w vs Ls := ⟨h.len, fun i v l hv hl => ownsRow_base (h.own i v l hv hl) hb, h.ap⟩
theorem ownsRow_keepQ {w w' : World} {b : Nat} {e : TypeId} {size : Nat} {v : Value} {n : Nat} {xs : List Value} (h : w.ownsRow b e size v n xs) {S : Nat → Prop} (k : Keep S w w') (hS : ∀ i, v.ownBlock = some i → ¬ S i) : w'.ownsRow b e size v n xs := by
  refine ⟨h.1, ?_⟩
  rcases h.2 with h' | ⟨g, cap, cur, h1, h2, h3, h4⟩
  · exact .inl h'
  · subst h1
    exact .inr ⟨g, cap, cur, rfl, h2, k.blk h3 (hS g rfl), h4⟩
theorem Bl.keep {B : Nat} {w w' : World} {vs : List Value} {Ls : List (List Nat)} (h : Bl B w vs Ls) {S : Nat → Prop} (k : Keep S w w') (hS : ∀ (i : Nat) v b, vs[i]? = some v → v.ownBlock = some b → ¬ S b) : Bl B w' vs Ls :=
  ⟨h.len, fun i v l hv hl => ownsRow_keepQ (h.own i v l hv hl) k fun b hb => hS i v b hv hb, h.ap⟩
theorem Bl.push {B : Nat} {w : World} {vs : List Value} {Ls : List (List Nat)} (h : Bl B w vs Ls) {v : Value} {l : List Nat} {W : Nat} (ho : w.ownsRow W 5 1 v l.length (B8 l)) (hB : B ≤ W) (hW : ∀ (i : Nat) u b, vs[i]? = some u → u.ownBlock = some b → b < W) : Bl B w (vs ++ [v]) (Ls ++ [l]) := by
  have at_ : ∀ {α : Type} {xs : List α} {x y : α} {i : Nat}, (xs ++ [x])[i]? = some y → (i < xs.length ∧ xs[i]? = some y) ∨ (i = xs.length ∧ y = x) := by
    intro α xs x y i hi
    rcases Nat.lt_or_ge i xs.length with h1 | h1
    · rw [List.getElem?_append_left h1] at hi
      exact .inl ⟨h1, hi⟩
    · rw [List.getElem?_append_right h1] at hi
      have h2 := (List.getElem?_eq_some_iff.1 hi).1
      simp at h2
      have h3 : i = xs.length := by omega
      subst h3
      simp at hi
      exact .inr ⟨rfl, hi.symm⟩
  have hlen := h.len
  refine ⟨by simp [hlen], fun i u k hu hk => ?_, fun i j x y b hx hy hne hb => ?_⟩
  · rcases at_ hu with ⟨h1, h2⟩ | ⟨h1, h2⟩
    · rcases at_ hk with ⟨h3, h4⟩ | ⟨h3, h4⟩
      · exact h.own i u k h2 h4
      · omega
    · rcases at_ hk with ⟨h3, h4⟩ | ⟨h3, h4⟩
      · omega
      · subst h2 h4
        exact ownsRow_base ho hB
  · rcases at_ hx with ⟨h1, h2⟩ | ⟨h1, h2⟩
    · rcases at_ hy with ⟨h3, h4⟩ | ⟨h3, h4⟩
      · exact h.ap i j x y b h2 h4 hne hb
      · subst h4
        intro hv
        have h5 := hW i x b h2 hb
        have h6 := (ho.lt b hv).1
        omega
    · rcases at_ hy with ⟨h3, h4⟩ | ⟨h3, h4⟩
      · subst h2
        intro hv
        have h5 := hW j y b h4 hv
        have h6 := (ho.lt b hb).1
        omega
      · omega
end Wm
end Go.Proofs.Yteaokgolnhdloaa
