/- Package crew: bytes in memory. -/
import Derived.Test.YtgjiaajeionofaaKBas
import Derived.Laws.BytesArg
import Derived.Lib.ConvBytes
import Derived.Deep.DeepAppendWide
namespace Go.Proofs.Ytgjiaajeionofaa
open Go.RowKit Go.Deep

/-- bytes as cells -/
def B8 (l : List Nat) : List Value := l.map fun (d : Nat) => Value.int .u8 (d : Int)
theorem B8_length (l : List Nat) : (B8 l).length = l.length := by simp [B8]
theorem B8_one (l : List Nat) : ∀ v ∈ B8 l, v.oneCell' = true := by
  intro v hv
  simp only [B8, List.mem_map] at hv
  obtain ⟨d, _, rfl⟩ := hv
  rfl
theorem B8_at (l : List Nat) (i : Nat) (h : i < l.length) : (B8 l)[i]? = some (.int .u8 ((l.getD i 0 : Nat) : Int)) := by simp [B8, h]
theorem B8_append (a b : List Nat) : B8 (a ++ b) = B8 a ++ B8 b := by simp [B8]

theorem Rd.stay {w w' : World} {a : Option Addr} {n : Nat} {l : List Nat} {S : Nat → Prop} (h : Rd w a n l) (hk : Keep S w w') (hS : ∀ b off, a = some ⟨b, off, none⟩ → ¬ S b) : Rd w' a n l := by
  obtain ⟨h1, h2, h3, h4⟩ := h
  refine ⟨h1, h2, h3, ?_⟩
  rcases h4 with h4 | ⟨b, off, rfl, h4⟩
  · exact .inl h4
  · exact .inr ⟨b, off, rfl, fun i hi => hk.cell (h4 i hi) (hS b off rfl)⟩
theorem Rd.keep {w w' : World} {a : Option Addr} {n : Nat} {l : List Nat} (h : Rd w a n l) (hb : Below w.heap.size w w') : Rd w' a n l := h.below (Nat.le_refl _) hb
theorem Rd.cells {w : World} {ad : Addr} {n : Nat} {l : List Nat} (h : Rd w (some ad) n l) : ∀ j u, (B8 l)[j]? = some u → w.cell? (ad.add j) = some u := by
  obtain ⟨h1, _, _, h4⟩ := h
  intro j u hu
  have hj : j < l.length := by
    rcases Nat.lt_or_ge j l.length with h' | h'
    · exact h'
    · rw [List.getElem?_eq_none (by rw [B8_length]; exact h')] at hu; cases hu
  rcases h4 with h4 | ⟨b, off, e, h4⟩
  · omega
  · injection e with e; subst e
    rw [B8_at l j hj] at hu
    injection hu with hu; subst hu
    have hadd : (⟨b, off, none⟩ : Addr).add j = ⟨b, off + j, none⟩ := by unfold Addr.add; split <;> simp_all
    rw [hadd]
    exact h4 j (by omega)

theorem info_u8 : (Try.prog.info? 5).map (fun i => (i.zero, i.size, i.bytes)) = some (some (.int .u8 0), 1, 1) := by kernel_rfl

theorem ownsRow_keep {w w' : World} {b : Nat} {e : TypeId} {size : Nat} {v : Value} {n : Nat} {xs : List Value} (h : w.ownsRow b e size v n xs) {S : Nat → Prop} (k : Keep S w w') (hS : ∀ i, S i → v.ownBlock ≠ some i) : w'.ownsRow b e size v n xs := by
  refine ⟨h.1, ?_⟩
  rcases h.2 with h' | ⟨g, cap, cur, h1, h2, h3, h4⟩
  · exact .inl h'
  · subst h1
    exact .inr ⟨g, cap, cur, rfl, h2, k.blk h3 (fun hs => hS g hs rfl), h4⟩
theorem ownsRow_new {w w' : World} {b : Nat} {e : TypeId} {size : Nat} {v : Value} {n : Nat} {xs : List Value} (h : w.ownsRow b e size v n xs) (k : Keep (fun _ => False) w w') : w'.ownsRow b e size v n xs := ownsRow_keep h k fun _ f => f.elim
/-- the block of a row lies from its base on -/
theorem ownsRow_from {w : World} {b : Nat} {e : TypeId} {size : Nat} {v : Value} {n : Nat} {xs : List Value} (h : w.ownsRow b e size v n xs) {k : Nat} (hk : v.ownBlock = some k) : b ≤ k := (h.lt k hk).1
/-- a row of the call's own, as numbers that can be read -/
theorem wpList_append_wide {P : Program} {w : World} {ops : Array Oper} {rest : List Oper} {o : Oper} {a : Act} {Q : Exit → Act → World → Prop} (hgd : o.guard = none) (s x : Operand) (t : TypeId)
    (ho : o.op = .call { callee := .builtin .append, args := #[s, x], argTypes := #[t, t] })
    (base : Nat) (e : TypeId) (i : TypeInfo) (z : Value) (size bytes : Nat) (ht : P.underlying t = some (.slice e)) (hi : P.info? e = some i) (hz : i.zero = some z)
    (hsize : i.size = size) (hby : i.bytes = bytes) (hzs : z.cells.size = size) (hsz : 0 < size)
    (v : Value) (n : Nat) (xs : List Value) (hs : a.eval s = v) (hown : w.ownsRow base e size v n xs)
    (ad : Addr) (m c : Nat) (news : List Value) (hx : a.eval x = .slice (some ad) m c) (hl : news.length = m * size) (hnews : ∀ j u, news[j]? = some u → w.cell? (ad.add j) = some u) (h1 : ∀ u ∈ news, u.oneCell' = true)
    (h63 : n + m ≤ maxLen) (hbytes : ((n + m) + (n + m) / 4 + 192) * bytes ≤ 281474976710656) (hbase : base ≤ w.heap.size)
    (h : ∀ v' w', w'.ownsRow base e size v' (n + m) (xs ++ news) → w.grownBy w' v.ownBlock → NewBlk w v v' → wpList P ops Q rest (a.put o.dst v') w') : wpList P ops Q (o :: rest) a w := by
  rcases hown.2 with ⟨rfl, rfl⟩ | ⟨g, cap, cur, rfl, hbg, hg, hnc, hcm, hcs, htake⟩
  · have hxs : xs = [] := List.eq_nil_of_length_eq_zero (by simpa using hown.1)
    subst hxs
    refine wpList_append_own_wide w hgd s x t ho w.heap.size e i z size bytes ht hi hz hsize hby hzs hsz _ 0 [] hs (World.ownsRow_nil w _ e size) ad m c news hx hl hnews h1 h63 hbytes (Nat.le_refl _) ?_
    intro v' w' h2 h3 h4
    exact h v' w' (ownsRow_base h2 hbase) h3 (.inr fun k hk => (h2.lt k hk).1)
  · by_cases hroom : n + m ≤ cap
    · refine wpList_append_fits w hgd s x t ho base e i size ht hi hsize g n cap xs hs hown ad m c news hx hl hnews h1 hroom ?_
      intro w' h2 h3
      exact h _ w' h2 h3 (.inl rfl)
    · have hlt : cap < n + m := by omega
      have h63' : ((n + m : Nat) : Int) ≤ 9223372036854775807 := by simp only [maxLen] at h63; omega
      subst hsize
      subst hby
      have hr := run_append_grow (P := P) w t o.type e i z ht hi hz ⟨g, 0, none⟩ n cap xs hown.1 (hown.cells rfl) ad m c news hl hnews hlt h63' (growslice_fits_wide hlt hbytes)
      have hlen : (xs ++ news).length = (n + m) * i.size := by rw [List.length_append, hown.1, hl, Nat.add_mul]
      have hge := grownCap_ge w (n + m) cap e
      have hcm2 : grownCap w (n + m) cap e ≤ maxLen := grownCap_le_maxLen w (n + m) cap e h63
      have hrow : (w.drew.alloc (.cells (xs.toArray ++ news.toArray ++ Builtin.zeroCells z.cells (grownCap w (n + m) cap e - (n + m))) e)).ownsRow w.heap.size e i.size (.slice (some ⟨w.heap.size, 0, none⟩) (n + m) (grownCap w (n + m) cap e)) (n + m) (xs ++ news) := by
        refine ⟨hlen, .inr ⟨w.heap.size, _, _, rfl, Nat.le_refl _, heap_alloc_new w.drew _, hge, hcm2, ?_, ?_⟩⟩
        · simp only [Array.size_append, List.size_toArray, size_zeroCells, hzs, hown.1, hl, ← Nat.add_mul]
          congr 1
          omega
        · simp only [Array.toList_append, List.append_assoc]
          rw [← List.append_assoc, ← hlen]
          exact List.take_left
      have hgr : w.grownBy (w.drew.alloc (.cells (xs.toArray ++ news.toArray ++ Builtin.zeroCells z.cells (grownCap w (n + m) cap e - (n + m))) e)) (Value.slice (some ⟨g, 0, none⟩) n cap).ownBlock := ⟨rfl, rfl, rfl, by simp, fun k hk _ => heap_alloc_old w.drew _ hk⟩
      generalize (w.drew.alloc (.cells (xs.toArray ++ news.toArray ++ Builtin.zeroCells z.cells (grownCap w (n + m) cap e - (n + m))) e)) = w' at *
      generalize (Value.slice (some ⟨w.heap.size, 0, none⟩) (n + m) (grownCap w (n + m) cap e)) = v' at *
      have hnx := h v' w' (ownsRow_base hrow hbase) hgr (.inr fun k hk => (hrow.lt k hk).1)
      refine wpList_plain hgd fun K hK' => ?_
      unfold Oper.wp
      simp [execOp, ho, resolve, invoke, builtin, hs, hx, hr, Result.andThen]
      exact hK' _ _ hnx
/-- bytes appended to a row of the call's own -/
theorem wpList_append_rd {w : World} {ops : Array Oper} {rest : List Oper} {o : Oper} {ac : Act} {Q : Exit → Act → World → Prop} (hgd : o.guard = none) (s x : Operand)
    (ho : o.op = .call { callee := .builtin .append, args := #[s, x], argTypes := #[35, 35] })
    (v : Value) (xs : List Nat) (base : Nat) (hs : ac.eval s = v) (hown : w.ownsRow base 5 1 v xs.length (B8 xs))
    (a : Option Addr) (n c : Nat) (l : List Nat) (hx : ac.eval x = .slice a n c) (hr : Rd w a n l) (h0 : a = none → c = 0)
    (hsz : xs.length + n ≤ 140737700000000) (hbase : base ≤ w.heap.size)
    (h : ∀ v' w', w'.ownsRow base 5 1 v' (xs ++ l).length (B8 (xs ++ l)) → w.grownBy w' v.ownBlock → NewBlk w v v' → wpList Try.prog ops Q rest (ac.put o.dst v') w') : wpList Try.prog ops Q (o :: rest) ac w := by
  obtain ⟨i0, hi, hz0, hz1, hz2⟩ := info_parts info_u8
  cases a with
  | none =>
    have hn : n = 0 := hr.2.2.2.elim id (fun ⟨b, off, e, _⟩ => by cases e)
    subst hn
    rw [h0 rfl] at hx
    have hl : l = [] := List.eq_nil_of_length_eq_zero hr.1.symm
    subst hl
    refine wpList_append_own_none hgd s x 35 ho base 5 i0 1 Try.underlying35 hi v xs.length (B8 xs) hs hown hx ?_
    refine h v w (by simpa using hown) ⟨rfl, rfl, rfl, Nat.le_refl _, fun _ _ _ => rfl⟩ (.inl rfl)
  | some ad =>
    refine wpList_append_wide hgd s x 35 ho base 5 i0 (.int .u8 0) 1 1 Try.underlying35 hi hz0 hz1 hz2 rfl (by decide) v xs.length (B8 xs) hs hown ad n c (B8 l) hx (by rw [B8_length, hr.1]; simp) hr.cells (B8_one l) (by unfold maxLen; omega) (by omega) hbase ?_
    intro v' w' h1 h2 h3
    refine h v' w' ?_ h2 h3
    rw [← B8_append] at h1
    rw [List.length_append, ← hr.1]
    exact h1
/-- what a row of the call's own reads -/
theorem ownsRow_rd {w : World} {base : Nat} {v : Value} {l : List Nat} (h : w.ownsRow base 5 1 v l.length (B8 l)) (hd : ∀ d ∈ l, d < 256) (hs : l.length < 281474976710656) :
    ∃ a c, v = .slice a l.length c ∧ Rd w a l.length l ∧ (a = none → c = 0) ∧ l.length ≤ c ∧ (∀ ad, a = some ad → ∃ g, ad = ⟨g, 0, none⟩ ∧ base ≤ g) := by
  rcases h.2 with ⟨rfl, h0⟩ | ⟨g, cap, cur, rfl, hb, hg, hc, _, hcs, htk⟩
  · exact ⟨none, 0, by rw [h0], ⟨rfl, hs, hd, .inl h0⟩, fun _ => rfl, by omega, (fun ad e => by cases e)⟩
  · refine ⟨_, cap, rfl, ⟨rfl, hs, hd, .inr ⟨g, 0, rfl, fun i hi => ?_⟩⟩, (fun e => by cases e), hc, (fun ad e => ⟨g, (by injection e with e; exact e.symm), hb⟩)⟩
    have := h.cells (g := g) rfl i (.int .u8 ((l.getD i 0 : Nat) : Int)) (B8_at l i hi)
    rw [Addr.add_lit] at this
    exact this

def str (l : List Nat) : ByteArray := strOfNums (l.map fun (d : Nat) => (d : Int))
theorem conv_rd {w : World} {a : Option Addr} {n : Nat} {l : List Nat} (h : Rd w a n l) (c : Nat) : (convert 35 9 (.slice a n c)).run Try.prog w = .ok (.string (str l)) w := by
  obtain ⟨hl, _, _, hrow⟩ := h
  rcases hrow with h0 | ⟨b, off, rfl, hrow⟩
  · have hnil : l = [] := List.length_eq_zero_iff.1 (by omega)
    subst h0 hnil
    cases a with
    | none => exact run_convert_bytes_nil w 35 5 Try.underlying35 Try.underlying5 0 c 9 Try.underlying9
    | some y =>
      have hl : (loadCells y 0).run Try.prog w = .ok (([] : List Int).map (Value.int .u8)).toArray w := by simpa using run_loadCells_list (P := Try.prog) w y [] (by simp)
      rw [run_convert_bytes_string w 35 9 5 _ 0 c Try.underlying35 Try.underlying5 Try.underlying9, run_bytesToString w _ 0 c [] hl]
      rfl
  · exact run_convert_bytes_arg w 35 5 Try.underlying35 Try.underlying5 b off n c (l.map fun (d : Nat) => (d : Int)) (by simp [hl]) (fun i hi => by
      rw [hrow i hi]
      congr 2
      rw [List.getD_eq_getElem?_getD, List.getD_eq_getElem?_getD, List.getElem?_map, List.getElem?_eq_getElem (show i < l.length by omega)]
      rfl) 9 Try.underlying9

def sb (t : ByteArray) : List Nat := t.data.toList.map UInt8.toNat
theorem sb_len (t : ByteArray) : (sb t).length = t.size := by
  rw [sb, List.length_map, Array.length_toList]
  rfl
theorem sb_lt (t : ByteArray) : ∀ d ∈ sb t, d < 256 := fun d hd => by
  simp only [sb, List.mem_map] at hd
  obtain ⟨u, _, rfl⟩ := hd
  exact u.toNat_lt
theorem conv_below (w : World) (e : TypeId) (t : ByteArray) : Below w.heap.size w (Lib.bytesWorld w e t) := by
  refine ⟨rfl, rfl, rfl, ?_, fun k hk => Lib.bytesWorld_at_old w e t k hk⟩
  have := (Array.getElem?_eq_some_iff.1 (Lib.bytesWorld_at_new w e t)).1
  omega
/-- a row of the call's own that began as the bytes of a string: the mark of such a row lies behind its last cell -/
def Tx (w : World) (base : Nat) (v : Value) (l : List Nat) : Prop :=
  ∃ g cap cur fz, v = .slice (some ⟨g, 0, none⟩) l.length cap ∧ base ≤ g ∧ w.heap[g]? = some (.cells cur 5 fz) ∧ (fz.2 = 0 ∨ cur.size ≤ fz.1) ∧ l.length ≤ cap ∧ cap ≤ maxLen ∧ cur.size = cap ∧ cur.toList.take l.length = B8 l
theorem Tx.of (w : World) (t : ByteArray) (ht : t.size ≤ 140737488351232) : Tx (Lib.bytesWorld w 5 t) w.heap.size (.slice (some ⟨w.heap.size, 0, none⟩) t.size (grownCap w t.size 0 5)) (sb t) := by
  have hge := grownCap_ge w t.size 0 5
  have hle := grownCap_le_maxLen w t.size 0 5 (by unfold maxLen; omega)
  have hsz : t.data.size = t.size := rfl
  refine ⟨w.heap.size, _, _, _, by rw [sb_len], Nat.le_refl _, Lib.bytesWorld_at_new w 5 t, .inr (Nat.le_refl _), by rw [sb_len]; exact hge, hle, ?_, ?_⟩
  · simp only [Lib.bytesCells, Array.size_append, Array.size_map, Array.size_replicate]
    omega
  · rw [sb_len, Lib.bytesCells, Array.toList_append, List.take_append_of_le_length (by simp [hsz]), List.take_of_length_le (by simp [hsz])]
    simp [B8, sb]
theorem Tx.rd {w : World} {base : Nat} {v : Value} {l : List Nat} (h : Tx w base v l) (hd : ∀ d ∈ l, d < 256) (hs : l.length < 281474976710656) : ∃ g c, v = .slice (some ⟨g, 0, none⟩) l.length c ∧ Rd w (some ⟨g, 0, none⟩) l.length l ∧ base ≤ g := by
  obtain ⟨g, cap, cur, fz, rfl, hb, hg, hfz, hlc, hcm, hcs, htk⟩ := h
  refine ⟨g, cap, rfl, ⟨rfl, hs, hd, .inr ⟨g, 0, rfl, fun i hi => ?_⟩⟩, hb⟩
  rw [Nat.zero_add, cell_of_row w g i cur _ fz hg]
  have := congrArg (fun x => x[i]?) htk
  simp only [List.getElem?_take, if_pos hi, B8_at l i hi] at this
  simpa using this
theorem run_storeCells_atM (P : Program) (g o : Nat) (t : TypeId) (fz : Nat × Nat) : ∀ (vs : List Value) (i : Nat) (cur : Array Value) (w : World), w.heap[g]? = some (.cells cur t fz) → (fz.2 = 0 ∨ cur.size ≤ fz.1) → o + i + vs.length ≤ cur.size → (∀ v ∈ vs, v.oneCell' = true) →
    (storeCells ⟨g, o, none⟩ vs i).run P w = .ok () (w.setRow g (cur.toList.take (o + i) ++ vs ++ cur.toList.drop (o + i + vs.length)).toArray)
  | [], i, cur, w, hg, _, _, _ => by
    simp only [storeCells, List.append_nil, List.length_nil, Nat.add_zero, List.take_append_drop, Array.toArray_toList]
    rw [setRow_self w g cur t fz hg]
    rfl
  | v :: rest, i, cur, w, hg, hfz, hl, h1 => by
    have hi : o + i < cur.size := by simp at hl; omega
    have hadd : (⟨g, o, none⟩ : Addr).add i = ⟨g, o + i, none⟩ := by unfold Addr.add; split <;> simp_all
    have hcell : w.cell? ⟨g, o + i, none⟩ = some cur[o + i] := by simp [World.cell?, hg, hi]
    have hfro : w.frozen? ⟨g, o + i, none⟩ = false := by
      obtain ⟨lo, hi'⟩ := fz
      simp only [World.frozen?, hg, Bool.and_eq_false_iff, decide_eq_false_iff_not]
      simp only at hfz
      omega
    have hst : (store ((⟨g, o, none⟩ : Addr).add i) v).run P w = .ok () (w.setRow g (cur.setIfInBounds (o + i) v)) := by
      rw [hadd, run_store P w _ v _ (h1 v (by simp)), hcell]
      simp [hfro, setCell_eq_setRow w g (o + i) cur t fz v hg]
    have ih := run_storeCells_atM P g o t fz rest (i + 1) (cur.setIfInBounds (o + i) v) (w.setRow g (cur.setIfInBounds (o + i) v)) (setRow_heap w g cur _ t _ hg) (by simpa using hfz) (by simp at hl ⊢; omega) (fun x hx => h1 x (by simp [hx]))
    simp only [storeCells, Sem.run_bind, hst, Result.andThen_ok, ih, setRow_setRow]
    congr 3
    have e := list_seg_step cur.toList (o + i) v rest (by simp at hl ⊢; omega)
    simpa [Array.toList_setIfInBounds, Nat.add_assoc] using e
/-- bytes appended to such a row -/
theorem run_append_tx {w : World} (ty : TypeId) {base : Nat} {v : Value} {xs : List Nat} (hown : Tx w base v xs) {a : Option Addr} {n c : Nat} {l : List Nat} (hr : Rd w a n l) (h0 : a = none → c = 0) (hsz : xs.length + n ≤ 140737700000000) (hbase : base ≤ w.heap.size) :
    ∃ v' w', (Builtin.append_ #[35, 35] ty #[v, .slice a n c]).run Try.prog w = .ok v' w' ∧ Tx w' base v' (xs ++ l) ∧ w.grownBy w' v.ownBlock := by
  obtain ⟨i0, hi, hz0, hz1, hz2⟩ := info_parts info_u8
  obtain ⟨g, cap, cur, fz, rfl, hb, hg, hfz, hlc, hcm, hcs, htk⟩ := hown
  have hl := hr.1
  cases a with
  | none =>
    have hn : n = 0 := hr.2.2.2.elim id (fun ⟨b, off, e, _⟩ => by cases e)
    subst hn
    rw [h0 rfl]
    have hl0 : l = [] := List.eq_nil_of_length_eq_zero hr.1.symm
    subst hl0
    refine ⟨_, w, ?_, by rw [List.append_nil]; exact ⟨g, cap, cur, fz, rfl, hb, hg, hfz, hlc, hcm, hcs, htk⟩, ⟨rfl, rfl, rfl, Nat.le_refl _, fun _ _ _ => rfl⟩⟩
    simp [Builtin.append_, run_underlying Try.underlying35, sizeOf, typeInfo, hi, Builtin.lenOf, hlc, Builtin.firstCells, storeCells]
  | some ad =>
    have hlen : (B8 l).length = n := by rw [B8_length, hl]
    by_cases hroom : xs.length + n ≤ cap
    · have hst := run_storeCells_atM Try.prog g xs.length 5 fz (B8 l) 0 cur w hg hfz (by rw [hlen, hcs]; omega) (B8_one l)
      simp only [Nat.add_zero, hlen] at hst
      have hf := run_firstCells_some (P := Try.prog) w i0.size n ad n c (B8 l) (by rw [hz1, hlen, Nat.mul_one]) hr.cells
      refine ⟨.slice (some ⟨g, 0, none⟩) (xs.length + n) cap, w.setRow g (cur.toList.take xs.length ++ B8 l ++ cur.toList.drop (xs.length + n)).toArray, ?_, ⟨g, cap, _, fz, by rw [List.length_append, hl], hb, setRow_heap w g cur _ _ _ hg, ?_, by rw [List.length_append, ← hl]; exact hroom, hcm, ?_, ?_⟩, ⟨rfl, rfl, rfl, by simp [World.setRow], fun k _ hk => setRow_other w g k _ (fun e => hk (by simp [Value.ownBlock, e]))⟩⟩
      · simp [Builtin.append_, run_underlying Try.underlying35, sizeOf, typeInfo, hi, hz1, Builtin.lenOf, hroom, Addr.add_lit]
        rw [hz1] at hf
        simp [hf, hst]
      · simp only [List.size_toArray, List.length_append, List.length_take, List.length_drop, Array.length_toList, hlen]
        omega
      · simp only [List.size_toArray, List.length_append, List.length_take, List.length_drop, Array.length_toList, hlen]
        omega
      · show List.take (xs ++ l).length (cur.toList.take xs.length ++ B8 l ++ cur.toList.drop (xs.length + n)) = _
        rw [htk, ← B8_append, List.take_append_of_le_length (by rw [B8_length]; exact Nat.le_refl _), List.take_of_length_le (by rw [B8_length]; exact Nat.le_refl _)]
    · have hlt : cap < xs.length + n := by omega
      have h63' : ((xs.length + n : Nat) : Int) ≤ 9223372036854775807 := by omega
      have holds : ∀ j u, (B8 xs)[j]? = some u → w.cell? ((⟨g, 0, none⟩ : Addr).add j) = some u := fun j u hu => by
        rw [Addr.add_lit, Nat.zero_add, cell_of_row w g j cur _ fz hg]
        rw [← htk, List.getElem?_take] at hu
        split at hu
        · simpa using hu
        · cases hu
      have hgr := run_append_grow (P := Try.prog) w 35 ty 5 i0 (.int .u8 0) Try.underlying35 hi hz0 ⟨g, 0, none⟩ xs.length cap (B8 xs) (by rw [hz1, B8_length, Nat.mul_one]) holds ad n c (B8 l) (by rw [hz1, hlen, Nat.mul_one]) hr.cells hlt h63' (growslice_fits_wide hlt (by rw [hz2]; omega))
      have hge := grownCap_ge w (xs.length + n) cap 5
      refine ⟨_, _, hgr, ⟨w.heap.size, _, _, (0, 0), by rw [List.length_append, hl], hbase, heap_alloc_new w.drew _, .inl rfl, by rw [List.length_append, ← hl]; exact hge, grownCap_le_maxLen w (xs.length + n) cap 5 (by unfold maxLen; omega), ?_, ?_⟩, ⟨rfl, rfl, rfl, by simp, fun k hk _ => heap_alloc_old w.drew _ hk⟩⟩
      · have hz1' : (Value.int IntKind.u8 0).cells.size = 1 := rfl
        simp only [Array.size_append, List.size_toArray, size_zeroCells, hz1', hlen, B8_length]
        omega
      · simp only [Array.toList_append, List.append_assoc]
        rw [← List.append_assoc, ← B8_append, List.take_append_of_le_length (by rw [B8_length]; exact Nat.le_refl _), List.take_of_length_le (by rw [B8_length]; exact Nat.le_refl _)]
theorem wp_append_tx {w : World} {ops : Array Oper} {rest : List Oper} {o : Oper} {ac : Act} {Q : Exit → Act → World → Prop} (hgd : o.guard = none) (s x : Operand)
    (ho : o.op = .call { callee := .builtin .append, args := #[s, x], argTypes := #[35, 35] })
    (v : Value) (xs : List Nat) (base : Nat) (hs : ac.eval s = v) (hown : Tx w base v xs)
    (a : Option Addr) (n c : Nat) (l : List Nat) (hx : ac.eval x = .slice a n c) (hr : Rd w a n l) (h0 : a = none → c = 0)
    (hsz : xs.length + n ≤ 140737700000000) (hbase : base ≤ w.heap.size)
    (h : ∀ v' w', Tx w' base v' (xs ++ l) → w.grownBy w' v.ownBlock → wpList Try.prog ops Q rest (ac.put o.dst v') w') : wpList Try.prog ops Q (o :: rest) ac w := by
  obtain ⟨v', w', hr', h1, h2⟩ := run_append_tx o.type hown hr h0 hsz hbase
  refine wpList_plain hgd fun K hK => ?_
  unfold Oper.wp
  simp [execOp, ho, resolve, invoke, builtin, hs, hx, hr', Result.andThen]
  exact hK _ _ (h v' w' h1 h2)
theorem Tx.blk {w : World} {base : Nat} {v : Value} {l : List Nat} (h : Tx w base v l) : ∀ k, v.ownBlock = some k → base ≤ k := fun k e => by
  obtain ⟨g, cap, cur, fz, rfl, hb, _⟩ := h
  simp only [Value.ownBlock, Option.some.injEq] at e
  omega
theorem Tx.keep {w w' : World} {base : Nat} {v : Value} {l : List Nat} (h : Tx w base v l) (hb : Below w.heap.size w w') : Tx w' base v l := by
  obtain ⟨g, cap, cur, fz, rfl, hb1, hg, rest⟩ := h
  exact ⟨g, cap, cur, fz, rfl, hb1, by rw [hb.block g (Array.getElem?_eq_some_iff.1 hg).1]; exact hg, rest⟩
end Go.Proofs.Ytgjiaajeionofaa
