/- WheelCuts: the mathematics, and a row appended to a row. -/
import Derived.Test.YtimokmocpkcnhaaWFdM
namespace Go.Proofs.Ytimokmocpkcnhaa
namespace Wh
open Go.RowKit

theorem Mid.cut {s m : St} {at_ to : Nat} {T xs : List Nat} (h : Mid s at_ T m) (hle : at_ ≤ to) (hM : to ≤ M) (ha : Adv m to xs) : Mid s to (T ++ xs) (m.adv to) ∧ Adv s to (T ++ xs) ∧ m.adv to = s.adv to := by
  have hids : ∀ id, id ∈ m.ids ↔ id ∈ s.ids ∧ id ∉ T := fun id => by rw [h.ids]; simp
  have hbef : ∀ {a b}, m.bef a b → s.bef a b := fun {a b} hab => by unfold St.bef at hab ⊢; rw [h.eqD] at hab; exact hab
  have hmid : Mid s to (T ++ xs) (m.adv to) := by
    refine ⟨List.pairwise_append.2 ⟨h.ord, ha.ord.imp hbef, fun a hA b hB => (h.due a hA).2.2 b ((ha.mem b).1 hB).1⟩, fun a hA => ?_, h.eqD, h.eqW, h.eqL, ?_, h.ok.adv hM, Nat.le_refl _⟩
    · rcases List.mem_append.1 hA with hA | hA
      · obtain ⟨c, d, e⟩ := h.due a hA
        exact ⟨c, by omega, fun j hj => e j (List.mem_filter.1 hj).1⟩
      · obtain ⟨c, d⟩ := (ha.mem a).1 hA
        rw [h.eqD] at d
        refine ⟨((hids a).1 c).1, d, fun j hj => ?_⟩
        have hj2 := (List.mem_filter.1 hj).2
        rw [h.eqD] at hj2
        simp at hj2
        unfold St.bef
        omega
    · show m.ids.filter _ = _
      rw [h.ids, List.filter_filter]
      refine List.filter_congr fun j hj => ?_
      have hx := ha.mem j
      rw [hids, h.eqD] at hx
      rw [Bool.eq_iff_iff]
      simp only [Bool.and_eq_true, decide_eq_true_eq, Bool.not_eq_true', List.contains_eq_mem, decide_eq_false_iff_not, List.mem_append, not_or, hx, h.eqD]
      constructor
      · rintro ⟨a, b⟩
        exact ⟨b, fun e => by omega⟩
      · rintro ⟨a, b⟩
        refine ⟨?_, a⟩
        rcases Nat.lt_or_ge to (s.due j) with c | c
        · exact c
        · exact absurd ⟨⟨hj, a⟩, c⟩ b
  obtain ⟨e1, e2⟩ := hmid.none (m' := m.adv to) ⟨fun id hid => (by simpa using (List.mem_filter.1 hid).2 : to < m.due id), rfl⟩
  exact ⟨hmid, e1, e2⟩

theorem Adv.same {s s' : St} {to : Nat} {xs ys : List Nat} (h : Adv s to xs) (h' : Adv s' to ys) (hs : ∀ id, (id ∈ s.ids ↔ id ∈ s'.ids) ∧ (id ∈ s.ids → s.due id = s'.due id)) : xs = ys := by
  have hmem : ∀ a, a ∈ xs ↔ a ∈ ys := fun a => by
    rw [h.mem, h'.mem, ← (hs a).1]
    exact ⟨fun ⟨x, y⟩ => ⟨x, by rw [← (hs a).2 x]; exact y⟩, fun ⟨x, y⟩ => ⟨x, by rw [(hs a).2 x]; exact y⟩⟩
  refine bef_uniq h.ord (List.Pairwise.imp_of_mem (fun {a b} hA hB hab => ?_) h'.ord) hmem
  have a1 := (hs a).2 ((h.mem a).1 ((hmem a).2 hA)).1
  have b1 := (hs b).2 ((h.mem b).1 ((hmem b).2 hB)).1
  unfold St.bef at hab ⊢
  rw [a1, b1]
  exact hab
/-- the same timers -/
def Same (s s' : St) : Prop := ∀ id, (id ∈ s.ids ↔ id ∈ s'.ids) ∧ (id ∈ s.ids → s.due id = s'.due id ∧ s.what id = s'.what id)
theorem Filled.same {now : Nat} {D : List Nat} {s s' : St} (h : Filled now D s) (h' : Filled now D s') : Same s s' := fun id => ⟨by rw [h.ids, h'.ids], fun hid => by
  obtain ⟨a, b⟩ := (h.ids id).1 hid
  obtain ⟨i, rfl⟩ : ∃ i, id = i + 1 := ⟨id - 1, by omega⟩
  rw [h.due i (by omega), h'.due i (by omega), h.what i (by omega), h'.what i (by omega)]
  exact ⟨rfl, rfl⟩⟩
theorem Same.adv {s s' : St} (h : Same s s') (to : Nat) : Same (s.adv to) (s'.adv to) := fun id => by
  have e : ∀ z : St, id ∈ (z.adv to).ids ↔ id ∈ z.ids ∧ to < z.due id := fun z => by simp [St.adv]
  rw [e, e]
  refine ⟨⟨fun ⟨a, b⟩ => ⟨(h id).1.1 a, by rw [← ((h id).2 a).1]; exact b⟩, fun ⟨a, b⟩ => ⟨(h id).1.2 a, by rw [((h id).2 ((h id).1.2 a)).1]; exact b⟩⟩, fun ⟨a, _⟩ => (h id).2 a⟩
theorem Same.list {s s' : St} (h : Same s s') {to : Nat} {xs ys : List Nat} (ha : Adv s to xs) (hb : Adv s' to ys) : xs = ys := ha.same hb fun id => ⟨(h id).1, fun e => ((h id).2 e).1⟩
theorem cells3_congr {s s' : St} : ∀ {l : List Nat}, (∀ id ∈ l, s.due id = s'.due id ∧ s.what id = s'.what id) → cells3 s l = cells3 s' l
  | [], _ => rfl
  | a :: t, h => by
    have h1 := h a (by simp)
    have h2 := cells3_congr (l := t) fun id hid => h id (by simp [hid])
    simp only [cells3, List.flatMap_cons] at h2 ⊢
    rw [h1.1, h1.2, h2]
theorem Same.cells {s s' : St} (h : Same s s') {l : List Nat} (hl : ∀ id ∈ l, id ∈ s.ids) : cells3 s l = cells3 s' l := cells3_congr fun id hid => (h id).2 (hl id hid)
theorem cells3_append (s : St) (a b : List Nat) : cells3 s (a ++ b) = cells3 s a ++ cells3 s b := by simp [cells3]

/-- timer by timer -/
theorem Mid.here {s m m' : St} {to id : Nat} {ys : List Nat} {i : Nat} (h : Mid s to (ys.take i) m) (hy : Adv s to ys) (hi : i < ys.length) (hn : NextSome m to id m') : id = ys.getD i 0 := by
  have hg : ys.getD i 0 = ys[i] := by rw [List.getD_eq_getElem?_getD, List.getElem?_eq_getElem hi]; rfl
  rw [hg]
  obtain ⟨h1, h2, h3, _⟩ := hn
  have hids : ∀ id, id ∈ m.ids ↔ id ∈ s.ids ∧ id ∉ ys.take i := fun id => by rw [h.ids]; simp
  have hnd := hy.nodup
  have hyi : ys[i] ∉ ys.take i := fun hmem => by
    rw [← List.take_append_drop i ys, List.drop_eq_getElem_cons hi] at hnd
    exact (List.nodup_append.1 hnd).2.2 _ hmem _ List.mem_cons_self rfl
  have hym : ys[i] ∈ m.ids := (hids _).2 ⟨((hy.mem _).1 (List.getElem_mem hi)).1, hyi⟩
  apply Classical.byContradiction
  intro hne
  have hb := h3 _ hym (fun e => hne e.symm)
  obtain ⟨c1, c2⟩ := (hids id).1 h1
  have hiy : id ∈ ys := (hy.mem id).2 ⟨c1, by rw [← h.eqD]; exact h2⟩
  obtain ⟨j, hj, hje⟩ := List.getElem_of_mem hiy
  have hij : i < j := by
    rcases Nat.lt_trichotomy i j with c | c | c
    · exact c
    · subst c; exact absurd hje.symm hne
    · exact absurd (by rw [← hje]; exact List.mem_take_iff_getElem.2 ⟨j, by omega, rfl⟩) c2
  have hb2 := List.pairwise_iff_getElem.1 hy.ord i j hi hj hij
  rw [hje] at hb2
  unfold St.bef at hb hb2
  rw [h.eqD] at hb
  omega
theorem Mid.more {s m m' : St} {to : Nat} {ys : List Nat} {i : Nat} (h : Mid s to (ys.take i) m) (hy : Adv s to ys) (hi : i < ys.length) (hn : NextNone m to m') : False := by
  have e := (h.none hn).1
  have := congrArg List.length (bef_uniq e.ord hy.ord fun a => by rw [e.mem, hy.mem])
  simp at this
  omega
theorem Mid.over {s m m' : St} {to id : Nat} {ys : List Nat} (h : Mid s to ys m) (hy : Adv s to ys) (hn : NextSome m to id m') : False := by
  obtain ⟨h1, h2, _⟩ := hn
  rw [h.ids] at h1
  obtain ⟨a, b⟩ := List.mem_filter.1 h1
  rw [h.eqD] at h2
  exact absurd ((hy.mem id).2 ⟨a, h2⟩) (by simpa using b)

/-- a row appended to a row -/
theorem wpList_append_rows {P : Program} {w : World} {ops : Array Oper} {rest : List Oper} {o : Oper} {a : Act} {Q : Exit → Act → World → Prop} (hgd : o.guard = none) (s x : Operand) (t : TypeId)
    (ho : o.op = .call { callee := .builtin .append, args := #[s, x], argTypes := #[t, t] })
    (base : Nat) (e : TypeId) (i : TypeInfo) (z : Value) (size bytes : Nat) (ht : P.underlying t = some (.slice e)) (hi : P.info? e = some i) (hz : i.zero = some z)
    (hsize : i.size = size) (hby : i.bytes = bytes) (hzs : z.cells.size = size) (hsz : 0 < size)
    (v : Value) (n : Nat) (xs : List Value) (hs : a.eval s = v) (hown : w.ownsRow base e size v n xs)
    (v2 : Value) (m base2 : Nat) (news : List Value) (hx : a.eval x = v2) (hrow : w.ownsRow base2 e size v2 m news) (h1 : ∀ u ∈ news, u.oneCell' = true)
    (h63 : n + m ≤ maxLen) (hbytes : (n + m) * bytes ≤ 140737488355328) (hbase : base ≤ w.heap.size)
    (h : ∀ v' w', w'.ownsRow base e size v' (n + m) (xs ++ news) → w.grownBy w' v.ownBlock → wpList P ops Q rest (a.put o.dst v') w') : wpList P ops Q (o :: rest) a w := by
  rcases hrow.2 with ⟨rfl, rfl⟩ | ⟨g, cap, cur, rfl, hbg, hg, hnc, hcm, hcs, htake⟩
  · have hn : news = [] := List.eq_nil_of_length_eq_zero (by simpa using hrow.1)
    subst hn
    refine wpList_append_own_none hgd s x t ho base e i size ht hi v n xs hs hown hx (h v w (by simpa using hown) ⟨rfl, rfl, rfl, Nat.le_refl _, fun _ _ _ => rfl⟩)
  · refine wpList_append_own2 hgd s x t ho base e i z size bytes ht hi hz hsize hby hzs hsz v n xs hs hown ⟨g, 0, none⟩ m cap news hx hrow.1 (fun j u hu => ?_) h1 h63 hbytes hbase fun v' w' a b _ => h v' w' a b
    have hadd : (⟨g, 0, none⟩ : Addr).add j = ⟨g, j, none⟩ := by unfold Addr.add; split <;> simp_all
    rw [hadd]
    refine cell_blk hg j ?_
    rw [← htake, List.getElem?_take] at hu
    split at hu
    · simpa using hu
    · cases hu
theorem cells3_one {s : St} {l : List Nat} (h : ∀ id ∈ l, ∃ y, s.what id = .int .i64 y) : ∀ u ∈ cells3 s l, u.oneCell' = true := fun u hu => by
  obtain ⟨id, hid, hu⟩ := List.mem_flatMap.1 hu
  obtain ⟨y, hy⟩ := h id hid
  rw [hy] at hu
  simp at hu
  rcases hu with rfl | rfl | rfl <;> rfl

end Wh
end Go.Proofs.Ytimokmocpkcnhaa
