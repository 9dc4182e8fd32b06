import Derived.Test.YtfoahfgehmghcaaGreatDoorULi2
import Derived.Test.YtfoahfgehmghcaaGreatDoorUCut
import Derived.Deep.OwnRows
import Derived.Laws.AppendOwn
import Derived.Test.YtfoahfgehmghcaaGreatDoorUMod
/- The document's Parse: one thing more behind a row of the call's own. -/
namespace Go.Proofs.YtfoahfgehmghcaaGreatDoor
namespace U
namespace Sp
open Go.RowKit

/-- what an append wants of a type -/
def Inf (t tt : TypeId) (s : Nat) : Prop := Tryz.prog.underlying tt = some (.slice t) ∧ ∃ i z b, Tryz.prog.info? t = some i ∧ i.zero = some z ∧ i.size = s ∧ i.bytes = b ∧ z.cells.size = s ∧ 0 < s ∧ b ≤ 120
theorem info_int' : (Tryz.prog.info? 3).map (fun i => (i.zero, i.size, i.bytes)) = some (some (.int .i64 0), 1, 8) := by kernel_rfl
theorem inf_int : Inf 3 30 1 := by
  obtain ⟨i, h1, h2, h3, h4⟩ := info_parts info_int'
  exact ⟨Tryz.underlying30, i, _, _, h1, h2, h3, h4, rfl, by decide, by decide⟩
theorem info_str' : (Tryz.prog.info? 9).map (fun i => (i.zero, i.size, i.bytes)) = some (some (.string ⟨#[]⟩), 1, 16) := by kernel_rfl
theorem inf_str : Inf 9 58 1 := by
  obtain ⟨i, h1, h2, h3, h4⟩ := info_parts info_str'
  exact ⟨Tryz.underlying58, i, _, _, h1, h2, h3, h4, rfl, by decide, by decide⟩
theorem info_strs : (Tryz.prog.info? 58).map (fun i => (i.zero, i.size, i.bytes)) = some (some (.slice none 0 0), 1, 24) := by kernel_rfl
theorem inf_strs : Inf 58 61 1 := by
  obtain ⟨i, h1, h2, h3, h4⟩ := info_parts info_strs
  exact ⟨Tryz.underlying61, i, _, _, h1, h2, h3, h4, rfl, by decide, by decide⟩
theorem shape_own {w : World} {b : Nat} {e : TypeId} {s : Nat} {v : Value} {n : Nat} {xs : List Value} (h : w.ownsRow b e s v n xs) : ∃ a c, v = .slice a n c := by
  rcases h.2 with ⟨rfl, rfl⟩ | ⟨g, cap, cur, rfl, _⟩ <;> exact ⟨_, _, rfl⟩
theorem cell_new (w : World) (v : Value) (t : TypeId) : (w.alloc (.cells #[v] t)).cell? ⟨w.heap.size, 0, none⟩ = some v := by rw [World.cell?_alloc_mark]; rfl
/-- one thing more behind a row of the call's own -/
theorem wp_app {w : World} {ops : Array Oper} {rest : List Oper} {o : Oper} {a : Act} {Q : Exit → Act → World → Prop} (hgd : o.guard = none) (s x : Operand) {t tt : TypeId} (hI : Inf t tt 1)
    (ho : o.op = .call { callee := .builtin .append, args := #[s, x], argTypes := #[tt, tt] })
    (b : Nat) (v : Value) (n T : Nat) (xs : List Value) (y : Value) (hs : a.eval s = v) (hx : a.eval x = .slice (some ⟨T, 0, none⟩) 1 1) (hown : w.ownsRow b t 1 v n xs) (hc : w.cell? ⟨T, 0, none⟩ = some y) (h1 : y.oneCell' = true) (hn : n < 1000000) (hb : b ≤ w.heap.size)
    (h : ∀ va vc w', w'.ownsRow b t 1 (.slice va (n + 1) vc) (n + 1) (xs ++ [y]) → w.grownBy w' v.ownBlock → wpList Tryz.prog ops Q rest (a.put o.dst (.slice va (n + 1) vc)) w') : wpList Tryz.prog ops Q (o :: rest) a w := by
  obtain ⟨hu, inf, z, bb, i1, i2, i3, i4, i5, i6, i7⟩ := hI
  have hbb : (n + 1) * bb ≤ 1000000 * 120 := Nat.mul_le_mul (by omega) i7
  refine wpList_plain hgd fun K hK => ?_
  obtain ⟨v', w', a1, a2, a3, _⟩ := run_append_own (P := Tryz.prog) w b tt o.type t inf z 1 bb hu i1 i2 i3 i4 i5 i6 v n xs hown ⟨T, 0, none⟩ 1 1 [y] rfl (fun j u hu => by
    match j, hu with
    | 0, hu => simp at hu; subst hu; simpa [Addr.add] using hc
    | j + 1, hu => simp at hu) (fun u hu => by rw [List.mem_singleton.1 hu]; exact h1) (by unfold maxLen; omega) (by omega) hb
  obtain ⟨va, vc, rfl⟩ := shape_own a2
  unfold Oper.wp execOp
  simp only [ho, resolve, invoke, builtin, Sem.run_bind, Sem.run_pure, Result.andThen_ok, List.map_toArray, List.map_cons, List.map_nil, hs, hx, a1]
  exact hK _ _ (h va vc w' a2 a3)
def sts (ws : List (List UInt8)) : List Value := ws.map fun x => .string (ba x)
theorem sts_snoc (ws : List (List UInt8)) (x : List UInt8) : sts (ws ++ [x]) = sts ws ++ [.string (ba x)] := by simp [sts]
/-- words of the call's own can be read -/
theorem sts_rd {w : World} {b : Nat} {a : Option Addr} {n c : Nat} {ws : List (List UInt8)} (h : w.ownsRow b 9 1 (.slice a n c) n (sts ws)) (hn : n = ws.length) : RdS w a ws ∧ n ≤ c ∧ (ws ≠ [] → ∃ g, a = some ⟨g, 0, none⟩ ∧ b ≤ g) := by
  rcases h.2 with ⟨e1, e2⟩ | ⟨g, cap, cur, e1, e2, e3, e4, e5, e6, e7⟩
  · cases e1
    exact ⟨.inl (List.eq_nil_of_length_eq_zero hn.symm), Nat.le_refl _, fun hne => absurd (List.eq_nil_of_length_eq_zero hn.symm) hne⟩
  · cases e1
    refine ⟨.inr ⟨g, 0, rfl, ⟨cur, e3⟩, fun j x hj => ?_⟩, e4, fun _ => ⟨g, rfl, e2⟩⟩
    rw [Nat.zero_add]
    refine cell_blk e3 j ?_
    have h2 : (sts ws)[j]? = some (.string (ba x)) := by simp [sts, hj]
    rw [← e7, List.getElem?_take] at h2
    split at h2
    · simpa using h2
    · cases h2
theorem ext_seg (s : ByteArray) (a b : Nat) : s.extract a b = ba (seg s a b) := by rw [← extract_seg, ba_of]
theorem seg_self (s : ByteArray) (a : Nat) : seg s a a = [] := by unfold seg; simp
theorem seg_snoc (s : ByteArray) (a i : Nat) (ha : a ≤ i) (hi : i < s.size) : seg s a i ++ [s[i]'hi] = seg s a (i + 1) := by
  rw [← seg_more s a i (i + 1) ha (by omega) (by omega)]
  congr 1
  unfold seg
  rw [List.drop_take, show i + 1 - i = 1 by omega, drop_at s i hi]
  rfl
end Sp
end U
end Go.Proofs.YtfoahfgehmghcaaGreatDoor

/- The document's Parse: the mathematics (lines, words that are numbers, a node's line, lines of edges). -/
namespace Go.Proofs.YtfoahfgehmghcaaGreatDoor
namespace U
namespace Sp

/-- the line of needs (kind 0) or after (kind 1) of a node -/
def mOf (ms : List Mn) (k c : Nat) : Option Mn := ms.find? fun m => m.node == k && m.kind == c
def nmsOf (ms : List Mn) (k c : Nat) : List (List UInt8) := match mOf ms k c with
  | some m => m.names
  | none => []
def lnOf (ms : List Mn) (k c : Nat) : Nat := match mOf ms k c with
  | some m => m.place
  | none => 0
/-- the least line so far that names what is none, 0: there is none -/
def bump (at_ ln : Nat) (ok : Bool) : Nat := if ok = false ∧ (at_ = 0 ∨ ln < at_) then ln else at_
def atN (nds : List Pn) (ms : List Mn) : Nat → Nat
  | 0 => 0
  | i + 1 => bump (bump (atN nds ms i) (lnOf ms i 0) (edg nds (nmsOf ms i 0)).isSome) (lnOf ms i 1) (edg nds (nmsOf ms i 1)).isSome
/-- nodes with the edges that their lines say -/
def outN (nds : List Pn) (ms : List Mn) (i : Nat) (x : Pn) : Pn := { x with nl := (edg nds (nmsOf ms i 0)).getD [], al := (edg nds (nmsOf ms i 1)).getD [] }
/-- what lines of edges keep -/
structure MsI (n : Nat) (ms : List Mn) : Prop where
  nd : ∀ m ∈ ms, m.node < n ∧ (m.kind = 0 ∨ m.kind = 1) ∧ 1 ≤ m.place
  rise : ms.Pairwise fun a b => a.place < b.place
  one : ms.Pairwise fun a b => ¬ (a.node = b.node ∧ a.kind = b.kind)

theorem idx_names {a b : List Pn} (h : a.map (·.nm) = b.map (·.nm)) (n : List UInt8) : idx a n = idx b n := by
  have e : ∀ l : List Pn, idx l n = (l.map (·.nm)).findIdx? (fun s => s == n) := fun l => by
    unfold idx
    rw [List.findIdx?_map]
    rfl
  rw [e, e, h]
theorem edg_names {a b : List Pn} (h : a.map (·.nm) = b.map (·.nm)) (ns : List (List UInt8)) : edg a ns = edg b ns := by
  have hl : a.length = b.length := by have := congrArg List.length h; simpa using this
  unfold edg
  simp only [idx_names h, hl]
theorem map_modify {α β : Type} (f : α → β) (l : List α) (k : Nat) (g : α → α) (h : ∀ x, f (g x) = f x) : (l.modify k g).map f = l.map f := by
  apply List.ext_getElem?
  intro i
  rw [List.getElem?_map, List.getElem?_map, List.getElem?_modify]
  cases l[i]? with
  | none => simp
  | some x => by_cases e : k = i <;> simp [e, h]
theorem set_names (nds : List Pn) (m : Mn) (l : List Int) : (setEdge nds m l).map (·.nm) = nds.map (·.nm) := by
  unfold setEdge
  refine map_modify _ _ _ _ fun x => ?_
  split <;> rfl
/-- edges, laid all -/
def layAll (N : List Pn) : List Mn → List Pn → List Pn
  | [], nds => nds
  | m :: r, nds => layAll N r (setEdge nds m ((edg N m.names).getD []))
theorem layE_eq (N : List Pn) : ∀ (ms : List Mn) (nds : List Pn), nds.map (·.nm) = N.map (·.nm) → layE ms nds = match ms.find? (fun m => (edg N m.names).isNone) with
    | some m => .inl m.place
    | none => .inr (layAll N ms nds)
  | [], nds, _ => rfl
  | m :: r, nds, h => by
    unfold layE
    rw [edg_names h]
    cases he : edg N m.names with
    | none => simp [he]
    | some l =>
      simp only [List.find?_cons, he, Option.isNone_some, layAll, Option.getD_some]
      rw [layE_eq N r (setEdge nds m l) (by rw [set_names]; exact h)]
theorem edg_nil (nds : List Pn) : edg nds [] = some [] := by simp [edg]
/-- the lines that fail, held against the least -/
theorem mOf_mem {n : Nat} {ms : List Mn} (h : MsI n ms) {m : Mn} (hm : m ∈ ms) : mOf ms m.node m.kind = some m := by
  unfold mOf
  have ho := h.one
  clear h
  induction ms with
  | nil => cases hm
  | cons a r ih =>
    rw [List.find?_cons]
    rcases List.mem_cons.1 hm with rfl | hm
    · simp
    · rw [List.pairwise_cons] at ho
      have hne := ho.1 m hm
      have hf : (a.node == m.node && a.kind == m.kind) = false := by
        rw [Bool.eq_false_iff]; intro hh; simp at hh; exact hne hh
      rw [hf]
      exact ih hm ho.2
theorem mOf_some {ms : List Mn} {k c : Nat} {m : Mn} (h : mOf ms k c = some m) : m ∈ ms ∧ m.node = k ∧ m.kind = c := by
  unfold mOf at h
  have h1 := List.find?_some h
  simp at h1
  exact ⟨List.mem_of_find?_eq_some h, h1⟩
/-- what atN tells: the least of the failing lines among the first nodes -/
theorem atN_spec {nds : List Pn} {n : Nat} {ms : List Mn} (h : MsI n ms) (i : Nat) : (atN nds ms i = 0 → ∀ m ∈ ms, m.node < i → (edg nds m.names).isSome = true) ∧ (atN nds ms i ≠ 0 → (∃ m ∈ ms, m.node < i ∧ (edg nds m.names).isSome = false ∧ m.place = atN nds ms i) ∧ ∀ m ∈ ms, m.node < i → (edg nds m.names).isSome = false → atN nds ms i ≤ m.place) := by
  -- one line more
  have one : ∀ (P : Mn → Prop) (A k c : Nat) (Q : Mn → Prop), (∀ m, Q m ↔ P m ∨ (m ∈ ms ∧ m.node = k ∧ m.kind = c)) →
      ((A = 0 → ∀ m ∈ ms, P m → (edg nds m.names).isSome = true) ∧ (A ≠ 0 → (∃ m ∈ ms, P m ∧ (edg nds m.names).isSome = false ∧ m.place = A) ∧ ∀ m ∈ ms, P m → (edg nds m.names).isSome = false → A ≤ m.place)) →
      ((bump A (lnOf ms k c) (edg nds (nmsOf ms k c)).isSome = 0 → ∀ m ∈ ms, Q m → (edg nds m.names).isSome = true) ∧ (bump A (lnOf ms k c) (edg nds (nmsOf ms k c)).isSome ≠ 0 → (∃ m ∈ ms, Q m ∧ (edg nds m.names).isSome = false ∧ m.place = bump A (lnOf ms k c) (edg nds (nmsOf ms k c)).isSome) ∧ ∀ m ∈ ms, Q m → (edg nds m.names).isSome = false → bump A (lnOf ms k c) (edg nds (nmsOf ms k c)).isSome ≤ m.place)) := by
    intro P A k c Q hQ ⟨hA0, hA1⟩
    cases hm : mOf ms k c with
    | none =>
      have e1 : nmsOf ms k c = [] := by unfold nmsOf; rw [hm]
      have hno : ∀ m ∈ ms, ¬ (m.node = k ∧ m.kind = c) := fun m hmm hh => by
        have := mOf_mem h hmm
        rw [hh.1, hh.2, hm] at this
        cases this
      have hb : bump A (lnOf ms k c) (edg nds (nmsOf ms k c)).isSome = A := by rw [e1, edg_nil]; simp [bump]
      rw [hb]
      have hQP : ∀ m ∈ ms, Q m → P m := fun m hmm hq => by
        rcases (hQ m).1 hq with hp | hp
        · exact hp
        · exact absurd hp.2 (hno m hmm)
      refine ⟨fun h0 m hmm hq => hA0 h0 m hmm (hQP m hmm hq), fun h1 => ?_⟩
      obtain ⟨⟨m, g1, g2, g3⟩, g4⟩ := hA1 h1
      exact ⟨⟨m, g1, (hQ m).2 (.inl g2), g3⟩, fun m hmm hq => g4 m hmm (hQP m hmm hq)⟩
    | some m0 =>
      obtain ⟨q1, q2, q3⟩ := mOf_some hm
      have e1 : nmsOf ms k c = m0.names := by unfold nmsOf; rw [hm]
      have e2 : lnOf ms k c = m0.place := by unfold lnOf; rw [hm]
      rw [e1, e2]
      have hp1 := (h.nd m0 q1).2.2
      have hun : ∀ m ∈ ms, m.node = k ∧ m.kind = c → m = m0 := fun m hmm hh => by
        have := mOf_mem h hmm
        rw [hh.1, hh.2, hm] at this
        exact (Option.some.inj this).symm
      have hQ' : ∀ m ∈ ms, Q m → P m ∨ m = m0 := fun m hmm hq => by
        rcases (hQ m).1 hq with hp | hp
        · exact .inl hp
        · exact .inr (hun m hmm hp.2)
      have hQm : Q m0 := (hQ m0).2 (.inr ⟨q1, q2, q3⟩)
      cases he : (edg nds m0.names).isSome with
      | true =>
        have hb : bump A m0.place true = A := by simp [bump]
        rw [hb]
        refine ⟨fun h0 m hmm hq => ?_, fun h1 => ?_⟩
        · rcases hQ' m hmm hq with hp | rfl
          · exact hA0 h0 m hmm hp
          · exact he
        · obtain ⟨⟨m, g1, g2, g3⟩, g4⟩ := hA1 h1
          refine ⟨⟨m, g1, (hQ m).2 (.inl g2), g3⟩, fun m hmm hq hf => ?_⟩
          rcases hQ' m hmm hq with hp | rfl
          · exact g4 m hmm hp hf
          · rw [he] at hf; cases hf
      | false =>
        by_cases hc : A = 0 ∨ m0.place < A
        · have hb : bump A m0.place false = m0.place := by simp [bump, hc]
          rw [hb]
          refine ⟨fun h0 => by omega, fun _ => ⟨⟨m0, q1, hQm, he, rfl⟩, fun m hmm hq hf => ?_⟩⟩
          rcases hQ' m hmm hq with hp | rfl
          · rcases hc with hc | hc
            · rw [hA0 hc m hmm hp] at hf; cases hf
            · have := (hA1 (by omega)).2 m hmm hp hf; omega
          · exact Nat.le_refl _
        · have hb : bump A m0.place false = A := by unfold bump; rw [if_neg]; rintro ⟨_, k⟩; exact hc k
          rw [hb]
          refine ⟨fun h0 => absurd (.inl h0) hc, fun h1 => ?_⟩
          obtain ⟨⟨m, g1, g2, g3⟩, g4⟩ := hA1 h1
          refine ⟨⟨m, g1, (hQ m).2 (.inl g2), g3⟩, fun m hmm hq hf => ?_⟩
          rcases hQ' m hmm hq with hp | rfl
          · exact g4 m hmm hp hf
          · have : ¬ m.place < A := fun k => hc (.inr k)
            omega
  induction i with
  | zero => exact ⟨fun _ m _ hk => absurd hk (Nat.not_lt_zero _), fun h => absurd rfl h⟩
  | succ i ih =>
    have s1 := one (fun m => m.node < i) (atN nds ms i) i 0 (fun m => m.node < i ∨ (m ∈ ms ∧ m.node = i ∧ m.kind = 0)) (fun m => Iff.rfl) ih
    have s2 := one _ _ i 1 (fun m => (m.node < i ∨ (m ∈ ms ∧ m.node = i ∧ m.kind = 0)) ∨ (m ∈ ms ∧ m.node = i ∧ m.kind = 1)) (fun m => Iff.rfl) s1
    have hq : ∀ m ∈ ms, m.node < i + 1 ↔ ((m.node < i ∨ (m ∈ ms ∧ m.node = i ∧ m.kind = 0)) ∨ (m ∈ ms ∧ m.node = i ∧ m.kind = 1)) := fun m hm => by
      have := (h.nd m hm).2.1
      constructor
      · intro h1
        by_cases h2 : m.node < i
        · exact .inl (.inl h2)
        · have h3 : m.node = i := by omega
          rcases this with t | t
          · exact .inl (.inr ⟨hm, h3, t⟩)
          · exact .inr ⟨hm, h3, t⟩
      · rintro ((h1 | h1) | h1) <;> omega
    unfold atN
    refine ⟨fun h0 m hm hk => s2.1 h0 m hm ((hq m hm).1 hk), fun h1 => ?_⟩
    obtain ⟨⟨m, g1, g2, g3⟩, g4⟩ := s2.2 h1
    exact ⟨⟨m, g1, (hq m g1).2 g2, g3⟩, fun m hm hk => g4 m hm ((hq m hm).1 hk)⟩
/-- the first that fails, of rising lines, is the least -/
theorem first_least {f : Mn → Bool} : ∀ {ms : List Mn}, (ms.Pairwise fun a b => a.place < b.place) → ∀ {m}, ms.find? f = some m → ∀ x ∈ ms, f x = true → m.place ≤ x.place
  | a :: r, hr, m, hf, x, hx, fx => by
    rw [List.pairwise_cons] at hr
    rw [List.find?_cons] at hf
    split at hf
    · cases hf
      rcases List.mem_cons.1 hx with rfl | hx
      · exact Nat.le_refl _
      · exact Nat.le_of_lt (hr.1 x hx)
    · rename_i hn
      rcases List.mem_cons.1 hx with rfl | hx
      · rw [fx] at hn; cases hn
      · exact first_least hr.2 hf x hx fx
theorem layE_at {nds : List Pn} {ms : List Mn} (h : MsI nds.length ms) : layE ms nds = if atN nds ms nds.length = 0 then .inr (layAll nds ms nds) else .inl (atN nds ms nds.length) := by
  rw [layE_eq nds ms nds rfl]
  obtain ⟨h0, h1⟩ := atN_spec (nds := nds) h nds.length
  by_cases hz : atN nds ms nds.length = 0
  · rw [if_pos hz]
    have : ms.find? (fun m => (edg nds m.names).isNone) = none := by
      rw [List.find?_eq_none]
      intro m hm
      have := h0 hz m hm (h.nd m hm).1
      simp at this ⊢
      exact Option.isSome_iff_ne_none.1 this
    rw [this]
  · rw [if_neg hz]
    obtain ⟨⟨m, g1, g2, g3, g4⟩, g5⟩ := h1 hz
    have hs : (ms.find? (fun m => (edg nds m.names).isNone)).isSome = true := by
      rw [List.find?_isSome]
      exact ⟨m, g1, by simpa using g3⟩
    obtain ⟨y, hy⟩ := Option.isSome_iff_exists.1 hs
    rw [hy]
    have y1 := List.mem_of_find?_eq_some hy
    have y2 := List.find?_some hy
    have a1 := g5 y y1 (h.nd y y1).1 (by simpa using y2)
    have a2 := first_least h.rise hy m g1 (by simpa using g3)
    rw [← g4] at a1 ⊢
    show Sum.inl y.place = _
    rw [show y.place = m.place by omega]
def lay (f : List (List UInt8) → Option (List Int)) (o : Option Mn) (z : List Int) : List Int := match o with
  | some m => (f m.names).getD []
  | none => z
/-- all edges laid: each node has what its own lines say -/
theorem layAll_get (N : List Pn) : ∀ (ms : List Mn) (nds : List Pn), (ms.Pairwise fun a b => ¬ (a.node = b.node ∧ a.kind = b.kind)) → (∀ m ∈ ms, m.kind = 0 ∨ m.kind = 1) → ∀ i, (layAll N ms nds)[i]? = nds[i]?.map (fun x : Pn => ({ x with nl := lay (edg N) (mOf ms i 0) x.nl, al := lay (edg N) (mOf ms i 1) x.al } : Pn))
  | [], nds, _, _, i => by simp [layAll, mOf, lay]
  | m :: r, nds, ho, hk, i => by
    rw [List.pairwise_cons] at ho
    rw [layAll, layAll_get N r _ ho.2 (fun x hx => hk x (List.mem_cons_of_mem _ hx)) i]
    unfold setEdge
    rw [List.getElem?_modify]
    have hr : ∀ c, c = m.kind → mOf r m.node c = none := fun c hc => by
      unfold mOf
      rw [List.find?_eq_none]
      intro y hy hh
      simp at hh
      exact ho.1 y hy ⟨hh.1.symm, by rw [hh.2, hc]⟩
    have hc : ∀ c, mOf (m :: r) i c = if m.node = i ∧ m.kind = c then some m else mOf r i c := fun c => by
      unfold mOf
      rw [List.find?_cons]
      by_cases h1 : m.node = i ∧ m.kind = c
      · simp [h1.1, h1.2]
      · rw [if_neg h1]
        have : (m.node == i && m.kind == c) = false := by rw [Bool.eq_false_iff]; intro hh; simp at hh; exact h1 hh
        rw [this]
    rw [hc 0, hc 1]
    cases nds[i]? with
    | none => simp
    | some x =>
      by_cases h1 : m.node = i
      · subst h1
        rcases hk m (List.mem_cons_self ..) with h2 | h2
        · simp [h2, hr 0 h2.symm, lay]
        · simp [h2, hr 1 h2.symm, lay]
      · simp [h1]
theorem layAll_out {nds : List Pn} {ms : List Mn} (h : MsI nds.length ms) (hb : ∀ x ∈ nds, x.nl = [] ∧ x.al = []) : layAll nds ms nds = nds.mapIdx (outN nds ms) := by
  apply List.ext_getElem?
  intro i
  rw [layAll_get nds ms nds h.one (fun m hm => (h.nd m hm).2.1) i, List.getElem?_mapIdx]
  cases hx : nds[i]? with
  | none => rfl
  | some x =>
    have hb := hb x (List.mem_of_getElem? hx)
    simp only [Option.map_some, outN, nmsOf]
    congr 2
    · cases mOf ms i 0 with
      | none => simp [edg_nil, hb.1, lay]
      | some m => rfl
    · cases mOf ms i 1 with
      | none => simp [edg_nil, hb.2, lay]
      | some m => rfl
/-- the number that digits make, as the document reads it -/
def val (n : Nat) (l : List UInt8) : Nat := l.foldl (fun n b => n * 10 + (b.toNat - 48)) n
theorem val_nil (n : Nat) : val n [] = n := rfl
theorem val_cons (n : Nat) (b : UInt8) (r : List UInt8) : val n (b :: r) = val (n * 10 + (b.toNat - 48)) r := by unfold val; rw [List.foldl_cons]
theorem val_ge (l : List UInt8) : ∀ (n : Nat), n * 10 ^ l.length ≤ val n l := by
  induction l with
  | nil => intro n; rw [val_nil]; simp
  | cons b r ih =>
    intro n
    have := ih (n * 10 + (b.toNat - 48))
    rw [val_cons, List.length_cons, Nat.pow_succ]
    refine Nat.le_trans ?_ this
    rw [Nat.add_mul, Nat.mul_comm (10 ^ r.length) 10, ← Nat.mul_assoc]
    exact Nat.le_add_right _ _
theorem val_mono (n : Nat) (l : List UInt8) : n ≤ val n l := by
  have := val_ge l n
  have h1 : 1 ≤ 10 ^ l.length := Nat.one_le_pow _ _ (by omega)
  exact Nat.le_trans (Nat.le_mul_of_pos_right n h1) this
theorem numL_cons (f : Bool) (n : Nat) (b : UInt8) (r : List UInt8) : numL f n (b :: r) = if digB b = true ∧ (f = true ∨ n ≠ 0) ∧ n * 10 + (b.toNat - 48) ≤ 4611686018427387903 then numL false (n * 10 + (b.toNat - 48)) r else none := by rw [numL]
theorem numL_val : ∀ (l : List UInt8) (n : Nat), n ≠ 0 → n ≤ 4611686018427387903 → numL false n l = if l.all digB = true ∧ val n l ≤ 4611686018427387903 then some (val n l) else none
  | [], n, h, hn => by rw [val_nil, if_pos ⟨rfl, hn⟩, numL]
  | b :: r, n, h, hn => by
    rw [numL_cons, val_cons]
    by_cases hd : digB b = true
    · by_cases hb : n * 10 + (b.toNat - 48) ≤ 4611686018427387903
      · rw [if_pos ⟨hd, .inr h, hb⟩, numL_val r _ (by omega) hb]
        simp only [List.all_cons, hd, Bool.true_and]
      · rw [if_neg (fun k => hb k.2.2), if_neg]
        rintro ⟨_, h2⟩
        have := val_mono (n * 10 + (b.toNat - 48)) r
        omega
    · rw [if_neg (fun k => hd k.1), if_neg]
      rintro ⟨h1, _⟩
      rw [List.all_cons, Bool.and_eq_true] at h1
      exact hd h1.1
/-- is a word a number? as the document asks it -/
def rnum (l : List UInt8) : Option Nat := if l = [] ∨ (l.headD 0 = 48 ∧ 1 < l.length) ∨ 19 < l.length then none else if l.all digB = true ∧ val 0 l ≤ 4611686018427387903 then some (val 0 l) else none
theorem rnum_eq : ∀ (l : List UInt8), rnum l = num l
  | [] => by simp [rnum, num]
  | b :: r => by
    have hn : num (b :: r) = numL true 0 (b :: r) := by unfold num; rw [if_neg (List.cons_ne_nil b r)]
    rw [hn, numL_cons]
    unfold rnum
    rw [val_cons, List.headD_cons]
    have h0 : 0 * 10 + (b.toNat - 48) = b.toNat - 48 := by omega
    rw [h0]
    by_cases hd : digB b = true
    · have hd2 := hd
      unfold digB at hd2
      simp only [Bool.and_eq_true, decide_eq_true_eq] at hd2
      have e : (if digB b = true ∧ (true = true ∨ 0 ≠ 0) ∧ b.toNat - 48 ≤ 4611686018427387903 then numL false (b.toNat - 48) r else none) = numL false (b.toNat - 48) r := if_pos ⟨hd, .inl rfl, by omega⟩
      rw [e]
      by_cases h48 : b = 48
      · subst h48
        match r with
        | [] => rfl
        | c :: r =>
          rw [if_pos (.inr (.inl ⟨rfl, by simp⟩)), show ((48 : UInt8).toNat - 48) = 0 from rfl, numL_cons, if_neg]
          rintro ⟨_, h | h, _⟩
          · cases h
          · exact h rfl
      · have hne : b.toNat - 48 ≠ 0 := fun h => h48 (by apply UInt8.toNat_inj.1; show b.toNat = 48; omega)
        rw [numL_val r _ hne (by omega)]
        simp only [List.all_cons, hd, Bool.true_and]
        by_cases h19 : 19 < (b :: r).length
        · rw [if_pos (.inr (.inr h19)), if_neg]
          rintro ⟨_, h2⟩
          have g := val_ge r (b.toNat - 48)
          have g2 : 10 ^ 19 ≤ 10 ^ r.length := Nat.pow_le_pow_right (by omega) (by rw [List.length_cons] at h19; omega)
          have g3 : 1 * 10 ^ r.length ≤ (b.toNat - 48) * 10 ^ r.length := Nat.mul_le_mul_right _ (by omega)
          omega
        · rw [if_neg]
          rintro (h | h | h)
          · cases h
          · exact h48 h.1
          · exact h19 h
    · have e : (if digB b = true ∧ (true = true ∨ 0 ≠ 0) ∧ b.toNat - 48 ≤ 4611686018427387903 then numL false (b.toNat - 48) r else none) = none := if_neg fun k => hd k.1
      rw [e]
      split
      · rfl
      · rw [if_neg]
        rintro ⟨h1, _⟩
        rw [List.all_cons, Bool.and_eq_true] at h1
        exact hd h1.1

/-- a text's lines, as the document cuts them -/
def linesR : List UInt8 → List UInt8 → List (List UInt8)
  | cur, [] => if cur.isEmpty then [] else [cur]
  | cur, b :: r => if b = 10 then cur :: linesR [] r else linesR (cur ++ [b]) r
def splitA (cur s : List UInt8) : List (List UInt8) := match splitOn 10 s with
  | h :: t => (cur ++ h) :: t
  | [] => [cur]
theorem splitOn_ne (c : UInt8) (s : List UInt8) : splitOn c s ≠ [] := by
  cases s with
  | nil => simp [splitOn]
  | cons b r =>
    unfold splitOn
    split
    · simp
    · split <;> simp
theorem splitA_nil (s : List UInt8) : splitA [] s = splitOn 10 s := by
  unfold splitA
  have := splitOn_ne 10 s
  split
  · rename_i h t e; rw [e]; rfl
  · rename_i e; exact absurd e this
theorem readL_lines : ∀ (s cur : List UInt8) (p : Nat) (d : Dr), readL p (linesR cur s) d = readL p (splitA cur s) d
  | [], cur, p, d => by
    have e : splitA cur [] = [cur] := by simp [splitA, splitOn]
    rw [e]
    unfold linesR
    cases cur with
    | nil => simp [readL, wordsOf, ahead, words, wordsA, step]
    | cons a c => rfl
  | b :: r, cur, p, d => by
    by_cases hb : b = 10
    · have e1 : linesR cur (b :: r) = cur :: linesR [] r := by rw [linesR, if_pos hb]
      have e2 : splitA cur (b :: r) = cur :: splitA [] r := by
        rw [splitA_nil]; unfold splitA; rw [splitOn, if_pos hb]; simp
      rw [e1, e2, readL, readL]
      cases step d p (wordsOf cur) with
      | none => rfl
      | some d' => exact readL_lines r [] (p + 1) d'
    · have e1 : linesR cur (b :: r) = linesR (cur ++ [b]) r := by rw [linesR, if_neg hb]
      have e2 : splitA cur (b :: r) = splitA (cur ++ [b]) r := by
        unfold splitA
        rw [splitOn, if_neg hb]
        have := splitOn_ne 10 r
        cases hs : splitOn 10 r with
        | nil => exact absurd hs this
        | cons h t => simp
      rw [e1, e2]
      exact readL_lines r (cur ++ [b]) p d
theorem readL_doc (s : List UInt8) (p : Nat) (d : Dr) : readL p (linesR [] s) d = readL p (splitOn 10 s) d := by rw [readL_lines, splitA_nil]
/-- words and a number behind, at a place of a line -/
def sd (l : List (List UInt8)) (a : Nat) (kw : List UInt8) : Int × Nat × Bool :=
  if a + 1 < l.length ∧ l.getD a [] = kw then (((num (l.getD (a + 1) [])).getD 0 : Nat), a + 2, (num (l.getD (a + 1) [])).isSome) else (0, a, false)
def sdO (l : List (List UInt8)) (a : Nat) (kw : List UInt8) (z : Int) (ok : Bool) : Int × Nat × Bool :=
  if ok = true ∧ a < l.length ∧ l.getD a [] = kw then sd l a kw else (z, a, ok)
/-- how the document stands in a line, and how the program does -/
def Std (l : List (List UInt8)) (x : Nat × Bool) (s : Ln) : Prop := (x.2 = true → s = (l.drop x.1, false) ∧ x.1 ≤ l.length) ∧ (x.2 = false → s.2 = true)
theorem hd_drop (l : List (List UInt8)) (a : Nat) : hd (l.drop a) = l.getD a [] := by
  unfold hd
  rw [List.headD_eq_head?_getD, List.head?_drop, List.getD_eq_getElem?_getD]
theorem num_nil : num [] = none := by simp [num]
theorem tk_bad {kw : List UInt8} {s : Ln} (h : s.2 = true) : (tkNum kw s).2.2 = true := by simp [tkNum, h]
theorem tkO_bad {kw : List UInt8} {z : Int} {s : Ln} (h : s.2 = true) : (tkOpt kw z s).2.2 = true := by
  unfold tkOpt
  split
  · exact tk_bad h
  · exact h
theorem sd_tk {l : List (List UInt8)} {a : Nat} (kw : List UInt8) (_hk : kw ≠ []) : Std l (sd l a kw).2 (tkNum kw (l.drop a, false)).2 ∧ ((sd l a kw).2.2 = true → (sd l a kw).1 = (tkNum kw (l.drop a, false)).1 ∧ (sd l a kw).2.1 = a + 2) := by
  have h1 : hd (l.drop a) = l.getD a [] := hd_drop l a
  have h2 : hd (l.drop a).tail = l.getD (a + 1) [] := by rw [List.tail_drop]; exact hd_drop l (a + 1)
  have h3 : (l.drop a).tail.tail = l.drop (a + 2) := by rw [List.tail_drop, List.tail_drop]
  unfold sd tkNum
  simp only [h1, h2, h3]
  by_cases c : a + 1 < l.length ∧ l.getD a [] = kw
  · rw [if_pos c]
    refine ⟨⟨fun h => ⟨?_, by show a + 2 ≤ _; omega⟩, fun h => ?_⟩, fun h => ⟨rfl, rfl⟩⟩
    · have h : (num (l.getD (a + 1) [])).isSome = true := h
      show (l.drop (a + 2), (false || !decide (l.getD a [] = kw) || (num (l.getD (a + 1) [])).isNone)) = (l.drop (a + 2), false)
      rw [decide_eq_true c.2]
      generalize num (l.getD (a + 1) []) = o at *
      cases o with
      | none => cases h
      | some _ => rfl
    · have h : (num (l.getD (a + 1) [])).isSome = false := h
      show (false || !decide (l.getD a [] = kw) || (num (l.getD (a + 1) [])).isNone) = true
      generalize num (l.getD (a + 1) []) = o at *
      cases o with
      | none => simp
      | some _ => cases h
  · rw [if_neg c]
    refine ⟨⟨fun h => (by cases h), fun _ => ?_⟩, fun h => by cases h⟩
    show (false || !decide (l.getD a [] = kw) || (num (l.getD (a + 1) [])).isNone) = true
    by_cases e : l.getD a [] = kw
    · have : l.length ≤ a + 1 := Nat.le_of_not_lt fun k => c ⟨k, e⟩
      have e2 : l.getD (a + 1) [] = [] := by rw [List.getD_eq_getElem?_getD, List.getElem?_eq_none this]; rfl
      rw [e2, num_nil]
      simp
    · rw [decide_eq_false e]; rfl
theorem sdO_tk {l : List (List UInt8)} {x : Nat × Bool} {s : Ln} (kw : List UInt8) (hk : kw ≠ []) (z : Int) (h : Std l x s) : Std l (sdO l x.1 kw z x.2).2 (tkOpt kw z s).2 ∧ ((sdO l x.1 kw z x.2).2.2 = true → (sdO l x.1 kw z x.2).1 = (tkOpt kw z s).1) := by
  obtain ⟨a, ok⟩ := x
  cases ok with
  | false =>
    have hb := h.2 rfl
    unfold sdO
    rw [if_neg (fun k => by cases k.1)]
    exact ⟨⟨fun h => (by cases h), fun _ => tkO_bad hb⟩, fun h => by cases h⟩
  | true =>
    obtain ⟨rfl, hle⟩ := h.1 rfl
    unfold sdO tkOpt
    simp only [hd_drop]
    by_cases e : l.getD a [] = kw
    · have hlt : a < l.length := by
        refine Nat.lt_of_not_le fun k => hk ?_
        rw [← e, List.getD_eq_getElem?_getD, List.getElem?_eq_none k]; rfl
      rw [if_pos ⟨trivial, hlt, e⟩, if_pos e]
      have := sd_tk (l := l) (a := a) kw hk
      exact ⟨this.1, fun h => (this.2 h).1⟩
    · rw [if_neg (fun k => e k.2.2), if_neg e]
      exact ⟨h, fun _ => rfl⟩
def zPn : Pn := ⟨[], 0, 0, 0, 0, 0, 0, 0, [], []⟩
/-- a node's line, as the document reads it -/
def rcap (l : List (List UInt8)) (be bs : Int × Nat × Bool) : Int × Nat × Bool := if be.2.2 = true ∧ be.2.1 < l.length ∧ l.getD be.2.1 [] = kwBack then (if bs.2.2 = true then sd l bs.2.1 kwTo else (1, bs.2.1, bs.2.2)) else (1, bs.2.1, bs.2.2)
def rnode (l : List (List UInt8)) : Pn × Bool :=
  if l.length < 8 ∨ l.getD 0 [] ≠ kwNode ∨ nmL (l.getD 1 []) = false then (zPn, false) else
  let la := sd l 2 kwLane
  let bu := sd l la.2.1 kwBudget
  let cl := sd l bu.2.1 kwClose
  if (la.2.2 && bu.2.2 && cl.2.2) = false then (zPn, false) else
  let be := sdO l cl.2.1 kwBeat 0 true
  let bs := sdO l be.2.1 kwBack 1 be.2.2
  let ca := rcap l be bs
  let ji := sdO l ca.2.1 kwJit 0 ca.2.2
  (⟨l.getD 1 [], la.1, bu.1, cl.1, be.1, bs.1, ca.1, ji.1, [], []⟩, ji.2.2 && decide (ji.2.1 = l.length))

theorem fits_std {l : List (List UInt8)} {x : Nat × Bool} {s : Ln} (h : Std l x s) : fits s = (x.2 && decide (x.1 = l.length)) := by
  obtain ⟨a, ok⟩ := x
  cases ok with
  | false => unfold fits; rw [h.2 rfl]; rfl
  | true =>
    obtain ⟨rfl, hle⟩ := h.1 rfl
    have hle : a ≤ l.length := hle
    unfold fits
    by_cases e : a = l.length
    · subst e; simp
    · have hne : l.drop a ≠ [] := fun k => e (by have := List.drop_eq_nil_iff.1 k; omega)
      simp [e]
      omega
theorem sdO_ok {l : List (List UInt8)} {a : Nat} {kw : List UInt8} {z : Int} {ok : Bool} (h : (sdO l a kw z ok).2.2 = true) : ok = true := by
  cases ok with
  | true => rfl
  | false => unfold sdO at h; rw [if_neg (fun k => by cases k.1)] at h; exact h
theorem rcap_ok {l : List (List UInt8)} {be : Int × Nat × Bool} (h : (rcap l be (sdO l be.2.1 kwBack 1 be.2.2)).2.2 = true) : (sdO l be.2.1 kwBack 1 be.2.2).2.2 = true ∧ be.2.2 = true := by
  have h1 : (sdO l be.2.1 kwBack 1 be.2.2).2.2 = true := by
    unfold rcap at h
    split at h
    · split at h
      · assumption
      · exact h
    · exact h
  exact ⟨h1, sdO_ok h1⟩
theorem cap_tk {l : List (List UInt8)} {be : Int × Nat × Bool} {s : Ln} (hb : Std l be.2 s) (hk : Std l (sdO l be.2.1 kwBack 1 be.2.2).2 (tkOpt kwBack 1 s).2) : Std l (rcap l be (sdO l be.2.1 kwBack 1 be.2.2)).2 (if hd s.1 = kwBack then tkNum kwTo (tkOpt kwBack 1 s).2 else (1, (tkOpt kwBack 1 s).2)).2 ∧ ((rcap l be (sdO l be.2.1 kwBack 1 be.2.2)).2.2 = true → (rcap l be (sdO l be.2.1 kwBack 1 be.2.2)).1 = (if hd s.1 = kwBack then tkNum kwTo (tkOpt kwBack 1 s).2 else (1, (tkOpt kwBack 1 s).2)).1) := by
  generalize hbs : sdO l be.2.1 kwBack 1 be.2.2 = bs at *
  generalize hts : (tkOpt kwBack 1 s).2 = t at *
  cases h1 : be.2.2 with
  | false =>
    have hbad : bs.2.2 = false := by rw [← hbs, h1]; unfold sdO; rw [if_neg (fun k => by cases k.1)]
    have ht : t.2 = true := hk.2 hbad
    have hr : rcap l be bs = (1, bs.2.1, bs.2.2) := by unfold rcap; rw [if_neg (fun k => by rw [h1] at k; cases k.1)]
    rw [hr]
    refine ⟨⟨fun h => ?_, fun _ => ?_⟩, fun h => ?_⟩
    · have h : bs.2.2 = true := h
      rw [hbad] at h; cases h
    · split
      · exact tk_bad ht
      · exact ht
    · have h : bs.2.2 = true := h
      rw [hbad] at h; cases h
  | true =>
    obtain ⟨hs, hle⟩ := hb.1 h1
    have hh : hd s.1 = l.getD be.2.1 [] := by rw [hs]; exact hd_drop l _
    rw [hh]
    by_cases e : l.getD be.2.1 [] = kwBack
    · have hlt : be.2.1 < l.length := by
        refine Nat.lt_of_not_le fun k => ?_
        rw [List.getD_eq_getElem?_getD, List.getElem?_eq_none k] at e
        exact absurd e (by decide)
      rw [if_pos e]
      unfold rcap
      rw [if_pos ⟨h1, hlt, e⟩]
      cases h2 : bs.2.2 with
      | true =>
        obtain ⟨ht, hl2⟩ := hk.1 h2
        rw [if_pos rfl, ht]
        have := sd_tk (l := l) (a := bs.2.1) kwTo (by decide)
        exact ⟨this.1, fun h => (this.2 h).1⟩
      | false =>
        have ht : t.2 = true := hk.2 h2
        rw [if_neg (by decide)]
        exact ⟨⟨fun h => (by cases h), fun _ => tk_bad ht⟩, fun h => (by cases h)⟩
    · rw [if_neg e]
      unfold rcap
      rw [if_neg (fun k => e k.2.2)]
      exact ⟨hk, fun _ => rfl⟩
/-- a node's line that did not fit -/
theorem bad (l : List (List UInt8)) {P : Pn} {s4 : Ln} (h4 : s4.2 = true) (hr : (rnode l).2 = false) : (rnode l).2 = fits (tkOpt kwJit 0 (if hd (tkOpt kwBeat 0 s4).2.1 = kwBack then tkNum kwTo (tkOpt kwBack 1 (tkOpt kwBeat 0 s4).2).2 else (1, (tkOpt kwBack 1 (tkOpt kwBeat 0 s4).2).2)).2).2 ∧ ((rnode l).2 = true → (rnode l).1 = P) := by
  have b5 := tkO_bad (kw := kwBeat) (z := 0) h4
  have b6 := tkO_bad (kw := kwBack) (z := 1) b5
  have b7 : (if hd (tkOpt kwBeat 0 s4).2.1 = kwBack then tkNum kwTo (tkOpt kwBack 1 (tkOpt kwBeat 0 s4).2).2 else (1, (tkOpt kwBack 1 (tkOpt kwBeat 0 s4).2).2)).2.2 = true := by
    split
    · exact tk_bad b6
    · exact b6
  have b8 := tkO_bad (kw := kwJit) (z := 0) b7
  refine ⟨?_, fun h => by rw [hr] at h; cases h⟩
  rw [hr]
  unfold fits
  rw [b8]
  rfl
theorem rnode_eq (ws : List (List UInt8)) : (rnode (kwNode :: ws)).2 = fits (rdNode ws).2 ∧ ((rnode (kwNode :: ws)).2 = true → (rnode (kwNode :: ws)).1 = (rdNode ws).1) := by
  generalize hl : kwNode :: ws = l
  have l0 : l.getD 0 [] = kwNode := by rw [← hl]; rfl
  have l1 : l.getD 1 [] = hd ws := by rw [← hl]; cases ws <;> rfl
  have l2 : l.drop 2 = ws.tail := by rw [← hl]; cases ws <;> rfl
  -- the program's way, step by step
  unfold rdNode
  simp only
  have ha : (tkName (ws, false)) = (hd ws, (ws.tail, !nmL (hd ws))) := by unfold tkName; simp
  rw [ha]
  simp only
  rw [← l1, ← l2]
  by_cases hn : nmL (l.getD 1 []) = true
  · rw [hn, Bool.not_true]
    have kl := sd_tk (l := l) (a := 2) kwLane (by decide)
    generalize hB : tkNum kwLane (l.drop 2, false) = tb at *
    cases h1 : (sd l 2 kwLane).2.2 with
    | false =>
      have b1 := kl.1.2 h1
      have b2 : (tkNum kwBudget tb.2).2.2 = true := tk_bad b1
      have b3 : (tkNum kwClose (tkNum kwBudget tb.2).2).2.2 = true := tk_bad b2
      exact bad l b3 (by unfold rnode; simp only [h1]; split <;> simp)
    | true =>
      obtain ⟨e1, p1⟩ := kl.2 h1
      have s1 := (kl.1.1 h1).1
      rw [s1, p1]
      have ku := sd_tk (l := l) (a := 4) kwBudget (by decide)
      generalize hC : tkNum kwBudget (l.drop 4, false) = tc at *
      cases h2 : (sd l 4 kwBudget).2.2 with
      | false =>
        have b2 := ku.1.2 h2
        have b3 : (tkNum kwClose tc.2).2.2 = true := tk_bad b2
        exact bad l b3 (by unfold rnode; simp only [h1, p1, h2]; split <;> simp)
      | true =>
        obtain ⟨e2, p2⟩ := ku.2 h2
        have s2 := (ku.1.1 h2).1
        rw [s2, p2]
        have kc := sd_tk (l := l) (a := 6) kwClose (by decide)
        generalize hD : tkNum kwClose (l.drop 6, false) = td at *
        cases h3 : (sd l 6 kwClose).2.2 with
        | false =>
          have b3 := kc.1.2 h3
          exact bad l b3 (by unfold rnode; simp only [h1, p1, h2, p2, h3]; split <;> simp)
        | true =>
          obtain ⟨e3, p3⟩ := kc.2 h3
          obtain ⟨s3, g3⟩ := kc.1.1 h3
          rw [p3] at g3
          have g3 : 8 ≤ l.length := g3
          have st0 : Std l (8, true) td.2 := ⟨fun _ => ⟨by rw [s3, p3], g3⟩, fun h => by cases h⟩
          have kb := sdO_tk kwBeat (by decide) 0 st0
          have kk := sdO_tk kwBack (by decide) 1 kb.1
          have kt := cap_tk kb.1 kk.1
          have kj := sdO_tk kwJit (by decide) 0 kt.1
          have hr : rnode l = (⟨l.getD 1 [], (sd l 2 kwLane).1, (sd l 4 kwBudget).1, (sd l 6 kwClose).1, (sdO l 8 kwBeat 0 true).1, (sdO l (sdO l 8 kwBeat 0 true).2.1 kwBack 1 (sdO l 8 kwBeat 0 true).2.2).1, (rcap l (sdO l 8 kwBeat 0 true) (sdO l (sdO l 8 kwBeat 0 true).2.1 kwBack 1 (sdO l 8 kwBeat 0 true).2.2)).1, (sdO l (rcap l (sdO l 8 kwBeat 0 true) (sdO l (sdO l 8 kwBeat 0 true).2.1 kwBack 1 (sdO l 8 kwBeat 0 true).2.2)).2.1 kwJit 0 (rcap l (sdO l 8 kwBeat 0 true) (sdO l (sdO l 8 kwBeat 0 true).2.1 kwBack 1 (sdO l 8 kwBeat 0 true).2.2)).2.2).1, [], []⟩, (sdO l (rcap l (sdO l 8 kwBeat 0 true) (sdO l (sdO l 8 kwBeat 0 true).2.1 kwBack 1 (sdO l 8 kwBeat 0 true).2.2)).2.1 kwJit 0 (rcap l (sdO l 8 kwBeat 0 true) (sdO l (sdO l 8 kwBeat 0 true).2.1 kwBack 1 (sdO l 8 kwBeat 0 true).2.2)).2.2).2.2 && decide ((sdO l (rcap l (sdO l 8 kwBeat 0 true) (sdO l (sdO l 8 kwBeat 0 true).2.1 kwBack 1 (sdO l 8 kwBeat 0 true).2.2)).2.1 kwJit 0 (rcap l (sdO l 8 kwBeat 0 true) (sdO l (sdO l 8 kwBeat 0 true).2.1 kwBack 1 (sdO l 8 kwBeat 0 true).2.2)).2.2).2.1 = l.length)) := by
            unfold rnode
            rw [if_neg (by rintro (k | k | k); · omega
                           · exact k l0
                           · rw [hn] at k; cases k)]
            simp only [h1, p1, h2, p2, h3, p3]
            rfl
          rw [hr]
          refine ⟨(fits_std kj.1).symm, fun hok => ?_⟩
          have hok : ((sdO l _ kwJit 0 _).2.2 && decide _) = true := hok
          rw [Bool.and_eq_true] at hok
          have o4 := hok.1
          have o3 := sdO_ok o4
          obtain ⟨o2, o1⟩ := rcap_ok o3
          rw [e1, e2, e3, kb.2 o1, kk.2 o2, kt.2 o3, kj.2 o4]
  · have hn : nmL (l.getD 1 []) = false := by simpa using hn
    rw [hn, Bool.not_false]
    have b3 : (tkNum kwClose (tkNum kwBudget (tkNum kwLane (l.drop 2, true)).2).2).2.2 = true := tk_bad (tk_bad (tk_bad rfl))
    exact bad l b3 (by unfold rnode; rw [if_pos (.inr (.inr hn))])

/-- what the document's draft keeps besides: p: the next line -/
structure DI (d : Dr) (p : Nat) : Prop where
  ms : MsI d.nds.length d.ms
  hn : d.nds ≠ [] → d.hn = (mOf d.ms (d.nds.length - 1) 0).isSome
  ha : d.nds ≠ [] → d.ha = (mOf d.ms (d.nds.length - 1) 1).isSome
  lt : ∀ m ∈ d.ms, m.place < p
  bare : ∀ x ∈ d.nds, x.nl = [] ∧ x.al = []
  none : d.place = 0 → d.nds = []
  lens : d.places.length = d.nds.length
  pos : 1 ≤ p
theorem DI.new : DI Dr.new 1 := ⟨⟨fun m hm => (by cases hm), List.Pairwise.nil, List.Pairwise.nil⟩, fun h => absurd rfl h, fun h => absurd rfl h, fun m hm => (by cases hm), fun x hx => (by cases hx), fun _ => rfl, rfl, Nat.le_refl _⟩
theorem DI.next {d : Dr} {p : Nat} (h : DI d p) : DI d (p + 1) := ⟨h.ms, h.hn, h.ha, fun m hm => Nat.lt_succ_of_lt (h.lt m hm), h.bare, h.none, h.lens, by have := h.pos; omega⟩
theorem mOf_out {n : Nat} {ms : List Mn} (h : MsI n ms) {k : Nat} (hk : n ≤ k) (c : Nat) : mOf ms k c = none := by
  unfold mOf
  rw [List.find?_eq_none]
  intro m hm hh
  simp at hh
  have := (h.nd m hm).1
  omega
theorem MsI.more {n n' : Nat} {ms : List Mn} (h : MsI n ms) (hn : n ≤ n') : MsI n' ms := ⟨fun m hm => ⟨by have := (h.nd m hm).1; omega, (h.nd m hm).2⟩, h.rise, h.one⟩
theorem mOf_snoc (ms : List Mn) (m : Mn) (k c : Nat) : mOf (ms ++ [m]) k c = (mOf ms k c).or (if m.node = k ∧ m.kind = c then some m else none) := by
  unfold mOf
  rw [List.find?_append]
  congr 1
  rw [List.find?_cons]
  by_cases h : m.node = k ∧ m.kind = c
  · simp [h.1, h.2]
  · rw [if_neg h]
    have : (m.node == k && m.kind == c) = false := by rw [Bool.eq_false_iff]; intro hh; simp at hh; exact h hh
    rw [this]
    rfl
theorem begin_DI {d d' : Dr} {p : Nat} {ws : List (List UInt8)} (h : DI d p) (hs : begin_ d p ws = some d') : DI d' (p + 1) := by
  unfold begin_ at hs
  simp only at hs
  split at hs
  · rename_i c
    cases hs
    exact ⟨h.ms, h.hn, h.ha, fun m hm => Nat.lt_succ_of_lt (h.lt m hm), h.bare, fun _ => h.none c.2, h.lens, by have := h.pos; omega⟩
  · cases hs
theorem addNode_DI {d d' : Dr} {p : Nat} {ws : List (List UInt8)} (h : DI d p) (hs : addNode d p ws = some d') : DI d' (p + 1) := by
  unfold addNode at hs
  split at hs
  · rename_i c
    cases hs
    have hl : (d.nds ++ [(rdNode ws).1]).length - 1 = d.nds.length := by simp
    refine ⟨h.ms.more (by simp), fun _ => ?_, fun _ => ?_, fun m hm => Nat.lt_succ_of_lt (h.lt m hm), fun x hx => ?_, fun k => absurd k c.2, ?_, by have := h.pos; omega⟩
    · show false = (mOf d.ms ((d.nds ++ [(rdNode ws).1]).length - 1) 0).isSome
      rw [hl, mOf_out h.ms (Nat.le_refl _)]; rfl
    · show false = (mOf d.ms ((d.nds ++ [(rdNode ws).1]).length - 1) 1).isSome
      rw [hl, mOf_out h.ms (Nat.le_refl _)]; rfl
    · rcases List.mem_append.1 hx with hx | hx
      · exact h.bare x hx
      · rw [List.mem_singleton.1 hx]; exact ⟨rfl, rfl⟩
    · show (d.places ++ [p]).length = (d.nds ++ [(rdNode ws).1]).length
      simp [h.lens]
  · cases hs
theorem addMen_DI {d d' : Dr} {p k : Nat} {ws : List (List UInt8)} (hk : k = 0 ∨ k = 1) (h : DI d p) (hs : addMen k d p ws = some d') : DI d' (p + 1) := by
  unfold addMen at hs
  by_cases c : d.nds ≠ [] ∧ (if k = 0 then d.hn else d.ha) = false ∧ ws ≠ [] ∧ ws.all nmL = true
  · rw [if_pos c] at hs
    obtain ⟨c1, c2, c3, c4⟩ := c
    cases hs
    have hlen : 0 < d.nds.length := List.length_pos_iff.2 c1
    have hfree : mOf d.ms (d.nds.length - 1) k = none := by
      rcases hk with rfl | rfl
      · have := h.hn c1
        simp only [if_true] at c2
        rw [c2] at this
        simpa using this.symm
      · have := h.ha c1
        simp at c2
        rw [c2] at this
        simpa using this.symm
    have hno : ∀ m ∈ d.ms, ¬ (m.node = d.nds.length - 1 ∧ m.kind = k) := fun m hm hh => by
      have := mOf_mem h.ms hm
      rw [hh.1, hh.2, hfree] at this
      cases this
    refine ⟨⟨fun m hm => ?_, ?_, ?_⟩, fun _ => ?_, fun _ => ?_, fun m hm => ?_, h.bare, h.none, h.lens, by have := h.pos; omega⟩
    · rcases List.mem_append.1 hm with hm | hm
      · exact h.ms.nd m hm
      · rw [List.mem_singleton.1 hm]
        exact ⟨by show d.nds.length - 1 < d.nds.length; omega, hk, h.pos⟩
    · show (d.ms ++ [_]).Pairwise _
      rw [List.pairwise_append]
      refine ⟨h.ms.rise, List.pairwise_singleton _ _, fun a ha b hb => ?_⟩
      rw [List.mem_singleton.1 hb]
      exact h.lt a ha
    · show (d.ms ++ [_]).Pairwise _
      rw [List.pairwise_append]
      refine ⟨h.ms.one, List.pairwise_singleton _ _, fun a ha b hb => ?_⟩
      rw [List.mem_singleton.1 hb]
      exact hno a ha
    · show (if k = 0 then true else d.hn) = (mOf (d.ms ++ [⟨p, d.nds.length - 1, k, ws⟩]) (d.nds.length - 1) 0).isSome
      rw [mOf_snoc]
      rcases hk with rfl | rfl
      · simp [hfree]
      · simp; exact h.hn c1
    · show (if k = 0 then d.ha else true) = (mOf (d.ms ++ [⟨p, d.nds.length - 1, k, ws⟩]) (d.nds.length - 1) 1).isSome
      rw [mOf_snoc]
      rcases hk with rfl | rfl
      · simp; exact h.ha c1
      · simp [hfree]
    · rcases List.mem_append.1 hm with hm | hm
      · exact Nat.lt_succ_of_lt (h.lt m hm)
      · rw [List.mem_singleton.1 hm]; exact Nat.lt_succ_self _
  · rw [if_neg c] at hs
    cases hs
theorem step_DI {d d' : Dr} {p : Nat} {ws : List (List UInt8)} (h : DI d p) (hs : step d p ws = some d') : DI d' (p + 1) := by
  unfold step at hs
  split at hs
  · cases hs; exact h.next
  · unfold doLine at hs
    split at hs
    · exact begin_DI h hs
    · split at hs
      · exact addNode_DI h hs
      · split at hs
        · exact addMen_DI (.inl rfl) h hs
        · split at hs
          · exact addMen_DI (.inr rfl) h hs
          · cases hs
theorem readL_DI : ∀ (ls : List (List UInt8)) (p : Nat) (d d' : Dr), DI d p → readL p ls d = .inr d' → ∃ q, DI d' q
  | [], p, d, d', h, hs => by unfold readL at hs; cases hs; exact ⟨p, h⟩
  | l :: r, p, d, d', h, hs => by
    unfold readL at hs
    split at hs
    · cases hs
    · rename_i d2 e
      exact readL_DI r (p + 1) d2 d' (step_DI h e) hs
end Sp
end U
end Go.Proofs.YtfoahfgehmghcaaGreatDoor

/- The document's Parse: a line taken, and the rows of a draft: the mathematics. -/
namespace Go.Proofs.YtfoahfgehmghcaaGreatDoor
namespace U
namespace Sp

/-- the plan's line, as the document takes it -/
theorem begin_doc (d : Dr) (p : Nat) (l : List (List UInt8)) (h0 : d.place = 0) (hn : d.nds = []) (hl : l ≠ []) : step d p l = if l.length = 4 ∧ l.getD 0 [] = kwPlan ∧ nmL (l.getD 1 []) = true ∧ (sd l 2 kwDead).2.2 = true then some { d with nm := l.getD 1 [], dl := (sd l 2 kwDead).1, place := p } else none := by
  have men : ∀ k ws, addMen k d p ws = none := fun k ws => by unfold addMen; rw [if_neg (fun h => h.1 hn)]
  have nod : ∀ ws, addNode d p ws = none := fun ws => by unfold addNode; rw [if_neg (fun h => h.2 h0)]
  cases l with
  | nil => exact absurd rfl hl
  | cons f ws =>
    show doLine d p f ws = _
    unfold doLine
    by_cases hf : f = kwPlan
    · rw [if_pos hf]
      unfold begin_
      simp only [h0, and_true]
      match ws with
      | [] => simp [tkName, tkNum, fits, hd, num]
      | [a] => simp [tkName, tkNum, fits, hd, num]
      | [a, b] => simp [tkName, tkNum, fits, hd, num]
      | [a, b, c] =>
        have e1 : (tkName ([a, b, c], false)).1 = a := rfl
        have e2 : (tkName ([a, b, c], false)).2 = ([b, c], !nmL a) := by simp [tkName, hd]
        have e3 : tkNum kwDead ([b, c], !nmL a) = ((((num c).getD 0 : Nat) : Int), ([], !nmL a || !decide (b = kwDead) || (num c).isNone)) := by simp [tkNum, hd]
        have e4 : fits ([], !nmL a || !decide (b = kwDead) || (num c).isNone) = (nmL a && decide (b = kwDead) && (num c).isSome) := by
          unfold fits
          cases nmL a <;> cases decide (b = kwDead) <;> cases num c <;> rfl
        have e5 : sd [f, a, b, c] 2 kwDead = if b = kwDead then ((((num c).getD 0 : Nat) : Int), 4, (num c).isSome) else (0, 2, false) := by simp [sd]
        rw [e1, e2, e3]
        simp only
        rw [e4, e5]
        by_cases hb : b = kwDead
        · simp [hb, hf]
        · simp [hb, hf]
      | a :: b :: c :: e :: r =>
        have : fits (tkNum kwDead (tkName (a :: b :: c :: e :: r, false)).2).2 = false := by simp [tkName, tkNum, fits]
        rw [this]
        simp
    · rw [if_neg hf, nod, men, men]
      rw [if_neg (show ¬ ((f :: ws).length = 4 ∧ (f :: ws).getD 0 [] = kwPlan ∧ _) from fun h => hf h.2.1)]
      simp
theorem node_doc (d : Dr) (p : Nat) (ws : List (List UInt8)) (h0 : d.place ≠ 0) : step d p (kwNode :: ws) = if (rnode (kwNode :: ws)).2 = true then some { d with nds := d.nds ++ [(rnode (kwNode :: ws)).1], places := d.places ++ [p], hn := false, ha := false } else none := by
  obtain ⟨h1, h2⟩ := rnode_eq ws
  show doLine d p kwNode ws = _
  unfold doLine
  rw [if_neg (by decide), if_pos rfl]
  unfold addNode
  rw [h1]
  by_cases hf : fits (rdNode ws).2 = true
  · rw [if_pos ⟨hf, h0⟩, if_pos hf, h2 (h1.trans hf)]
  · rw [if_neg (fun h => hf h.1), if_neg hf]
theorem ln_zero {d : Dr} {p : Nat} (h : DI d p) (hn : d.nds ≠ []) : (d.hn = false ↔ lnOf d.ms (d.nds.length - 1) 0 = 0) ∧ (d.ha = false ↔ lnOf d.ms (d.nds.length - 1) 1 = 0) := by
  have key : ∀ c, (mOf d.ms (d.nds.length - 1) c).isSome = false ↔ lnOf d.ms (d.nds.length - 1) c = 0 := fun c => by
    unfold lnOf
    cases hm : mOf d.ms (d.nds.length - 1) c with
    | none => simp
    | some m =>
      have := (h.ms.nd m (mOf_some hm).1).2.2
      simp
      omega
  rw [h.hn hn, h.ha hn]
  exact ⟨key 0, key 1⟩
def kwOf (k : Nat) : List UInt8 := if k = 0 then kwNeeds else kwAfter
/-- a line of needs or after, as the document takes it -/
theorem men_doc {d : Dr} {p : Nat} (h : DI d p) (k : Nat) (hk : k = 0 ∨ k = 1) (ws : List (List UInt8)) : step d p (kwOf k :: ws) = if d.nds ≠ [] ∧ ws ≠ [] ∧ ws.all nmL = true ∧ lnOf d.ms (d.nds.length - 1) k = 0 then some { d with hn := if k = 0 then true else d.hn, ha := if k = 0 then d.ha else true, ms := d.ms ++ [⟨p, d.nds.length - 1, k, ws⟩] } else none := by
  have e : step d p (kwOf k :: ws) = addMen k d p ws := by
    show doLine d p (kwOf k) ws = _
    unfold doLine
    rcases hk with rfl | rfl
    · rw [if_neg (by decide), if_neg (by decide), if_pos (by decide)]
    · rw [if_neg (by decide), if_neg (by decide), if_neg (by decide), if_pos (by decide)]
  rw [e]
  unfold addMen
  by_cases hn : d.nds = []
  · rw [if_neg (fun h => h.1 hn), if_neg (fun h => h.1 hn)]
  · have hz : ((if k = 0 then d.hn else d.ha) = false) ↔ lnOf d.ms (d.nds.length - 1) k = 0 := by
      rcases hk with rfl | rfl
      · exact (ln_zero h hn).1
      · exact (ln_zero h hn).2
    by_cases c : ws ≠ [] ∧ ws.all nmL = true ∧ lnOf d.ms (d.nds.length - 1) k = 0
    · exact (if_pos ⟨hn, hz.2 c.2.2, c.1, c.2.1⟩).trans (if_pos ⟨hn, c⟩).symm
    · exact (if_neg (fun q => c ⟨q.2.2.1, q.2.2.2, hz.1 q.2.1⟩)).trans (if_neg (fun q => c q.2)).symm
theorem none_doc (d : Dr) (p : Nat) (f : List UInt8) (ws : List (List UInt8)) (h0 : d.place ≠ 0) (h1 : f ≠ kwNode) (h2 : f ≠ kwNeeds) (h3 : f ≠ kwAfter) : step d p (f :: ws) = none := by
  show doLine d p f ws = _
  unfold doLine
  by_cases hf : f = kwPlan
  · rw [if_pos hf]; unfold begin_; simp only; rw [if_neg (fun h => h0 h.2)]
  · rw [if_neg hf, if_neg h1, if_neg h2, if_neg h3]

/-- the document's rows: the names of needs and after, node by node, and their lines -/
def rowN (ms : List Mn) (n c : Nat) : List (List (List UInt8)) := (List.range n).map fun i => nmsOf ms i c
def rowL (ms : List Mn) (n c : Nat) : List Nat := (List.range n).map fun i => lnOf ms i c
theorem rowN_len (ms : List Mn) (n c : Nat) : (rowN ms n c).length = n := by simp [rowN]
theorem rowL_len (ms : List Mn) (n c : Nat) : (rowL ms n c).length = n := by simp [rowL]
theorem rowN_get (ms : List Mn) {n i : Nat} (c : Nat) (h : i < n) : (rowN ms n c)[i]? = some (nmsOf ms i c) := by simp [rowN, h]
theorem rowL_get (ms : List Mn) {n i : Nat} (c : Nat) (h : i < n) : (rowL ms n c)[i]? = some (lnOf ms i c) := by simp [rowL, h]
theorem rowN_more {n : Nat} {ms : List Mn} (h : MsI n ms) (c : Nat) : rowN ms (n + 1) c = rowN ms n c ++ [[]] := by
  unfold rowN
  rw [List.range_succ, List.map_append]
  simp [nmsOf, mOf_out h (Nat.le_refl n)]
theorem rowL_more {n : Nat} {ms : List Mn} (h : MsI n ms) (c : Nat) : rowL ms (n + 1) c = rowL ms n c ++ [0] := by
  unfold rowL
  rw [List.range_succ, List.map_append]
  simp [lnOf, mOf_out h (Nat.le_refl n)]
theorem free_of {n : Nat} {ms : List Mn} (h : MsI n ms) {k c : Nat} (h0 : lnOf ms k c = 0) : mOf ms k c = none := by
  cases hm : mOf ms k c with
  | none => rfl
  | some m =>
    have := (h.nd m (mOf_some hm).1).2.2
    unfold lnOf at h0
    rw [hm] at h0
    have h0 : m.place = 0 := h0
    omega
theorem rowN_same (ms : List Mn) (m : Mn) (n c : Nat) (hc : m.kind ≠ c) : rowN (ms ++ [m]) n c = rowN ms n c := by
  unfold rowN
  refine List.map_congr_left fun i _ => ?_
  unfold nmsOf
  rw [mOf_snoc, if_neg (fun h => hc h.2), Option.or_none]
theorem rowL_same (ms : List Mn) (m : Mn) (n c : Nat) (hc : m.kind ≠ c) : rowL (ms ++ [m]) n c = rowL ms n c := by
  unfold rowL
  refine List.map_congr_left fun i _ => ?_
  unfold lnOf
  rw [mOf_snoc, if_neg (fun h => hc h.2), Option.or_none]
theorem rowN_set (ms : List Mn) (m : Mn) {n c : Nat} (hc : m.kind = c) (hf : mOf ms m.node c = none) : rowN (ms ++ [m]) n c = (rowN ms n c).set m.node m.names := by
  apply List.ext_getElem?
  intro i
  rw [List.getElem?_set]
  unfold rowN
  rw [List.getElem?_map, List.getElem?_map]
  by_cases hi : i < n
  · rw [List.getElem?_range hi]
    simp only [Option.map_some, List.length_map, List.length_range]
    by_cases e : m.node = i
    · subst e
      rw [if_pos rfl, if_pos hi]
      unfold nmsOf
      rw [mOf_snoc, hf, if_pos ⟨rfl, hc⟩]
      rfl
    · rw [if_neg e]
      unfold nmsOf
      rw [mOf_snoc, if_neg (fun h => e h.1), Option.or_none]
  · have h0 : (List.range n)[i]? = none := by simp; omega
    rw [h0]
    simp only [Option.map_none, List.length_map, List.length_range]
    split
    · rw [if_neg (by omega)]
    · rfl
theorem rowL_set (ms : List Mn) (m : Mn) {n c : Nat} (hc : m.kind = c) (hf : mOf ms m.node c = none) : rowL (ms ++ [m]) n c = (rowL ms n c).set m.node m.place := by
  apply List.ext_getElem?
  intro i
  rw [List.getElem?_set]
  unfold rowL
  rw [List.getElem?_map, List.getElem?_map]
  by_cases hi : i < n
  · rw [List.getElem?_range hi]
    simp only [Option.map_some, List.length_map, List.length_range]
    by_cases e : m.node = i
    · subst e
      rw [if_pos rfl, if_pos hi]
      unfold lnOf
      rw [mOf_snoc, hf, if_pos ⟨rfl, hc⟩]
      rfl
    · rw [if_neg e]
      unfold lnOf
      rw [mOf_snoc, if_neg (fun h => e h.1), Option.or_none]
  · have h0 : (List.range n)[i]? = none := by simp; omega
    rw [h0]
    simp only [Option.map_none, List.length_map, List.length_range]
    split
    · rw [if_neg (by omega)]
    · rfl

/-- Parse, as the document goes -/
theorem parse_doc (s : List UInt8) (hs : s.length ≤ 65536) : parse s = match readL 1 (linesR [] s) Dr.new with
  | .inl p => .inl (p, 111)
  | .inr d => if d.place = 0 then .inl (0, 111) else if atN d.nds d.ms d.nds.length ≠ 0 then .inl (atN d.nds d.ms d.nds.length, 112) else judge d (d.nds.mapIdx (outN d.nds d.ms)) (Gr.chk (ba d.nm) d.dl ((d.nds.mapIdx (outN d.nds d.ms)).map no)) := by
  unfold parse
  rw [if_neg (by omega), readL_doc]
  cases h : readL 1 (splitOn 10 s) Dr.new with
  | inl p => rfl
  | inr d =>
    simp only
    obtain ⟨q, hq⟩ := readL_DI _ _ _ _ DI.new h
    rw [layE_at hq.ms]
    by_cases h0 : d.place = 0
    · rw [if_pos h0, if_pos h0]
    · rw [if_neg h0, if_neg h0]
      by_cases ha : atN d.nds d.ms d.nds.length = 0
      · rw [if_pos ha, if_neg (fun k => k ha), layAll_out hq.ms hq.bare]
      · rw [if_neg ha, if_pos ha]
/-- numbers of names, one by one -/
def flagsT (nds : List Pn) (ns : List (List UInt8)) (i : Nat) : Bool := ns.any fun n => idx nds n == some i
theorem edg_flags (nds : List Pn) (ns : List (List UInt8)) : edg nds ns = if ns.all (fun n => (idx nds n).isSome) = true then some (((List.range nds.length).filter (flagsT nds ns)).map fun (i : Nat) => (i : Int)) else none := rfl
theorem idx_lt {nds : List Pn} {n : List UInt8} {i : Nat} (h : idx nds n = some i) : i < nds.length := by
  unfold idx at h
  exact (List.findIdx?_eq_some_iff_findIdx_eq.1 h).1
theorem linesR_len : ∀ (s cur : List UInt8), (linesR cur s).length ≤ s.length + 1
  | [], cur => by rw [linesR]; split <;> simp
  | b :: r, cur => by
    rw [linesR]
    split
    · have := linesR_len r []; simp; omega
    · have := linesR_len r (cur ++ [b]); simp; omega
theorem linesR_le : ∀ (s cur : List UInt8) (x : List UInt8), x ∈ linesR cur s → x.length ≤ cur.length + s.length
  | [], cur, x, h => by
    rw [linesR] at h
    split at h
    · cases h
    · simp at h; subst h; simp
  | b :: r, cur, x, h => by
    rw [linesR] at h
    split at h
    · rcases List.mem_cons.1 h with rfl | h
      · simp
      · have := linesR_le r [] x h; simp at *; omega
    · have := linesR_le r _ x h; simp at *; omega
end Sp
end U
end Go.Proofs.YtfoahfgehmghcaaGreatDoor
