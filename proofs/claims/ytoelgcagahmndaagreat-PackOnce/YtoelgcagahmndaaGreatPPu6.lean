import Derived.Test.YtoelgcagahmndaaGreatPPu3
import Derived.Test.YtoelgcagahmndaaGreatPWordR
/- The law's put of a step: lists of lists; a Fail; nothing (written by putm_gen.py). -/
namespace Go.Proofs.YtoelgcagahmndaaGreat
namespace Wm
open Go.RowKit Go.Deep

theorem lsts_keep {D E : Nat → Prop} {w w' : World} {vs : List Value} {ls : List (List Int)} (h : Lsts D w vs ls) (hb : Below w.heap.size w w') (hD : ∀ b, D b → E b) : Lsts E w' vs ls := by
  refine ⟨h.1, fun i x l h1 h2 => ?_⟩
  obtain ⟨a, n, c, e, h3, h4⟩ := h.2 i x l h1 h2
  exact ⟨a, n, c, e, els_keep h3 hb hD, h4⟩
theorem putsLists (D : Nat → Prop) (w : World) (l8 m8 m9 o9 : Nat) (le nn : Int) (hl : w.cell? ⟨l8, 0, none⟩ = some (.int .i64 0)) (hm : w.cell? ⟨m8, 0, none⟩ = some (.int .i64 nn)) (dl : D l8) (dm : D m8) (hm9 : w.cell? ⟨m9, 0, none⟩ = some (.int .i64 (min le 16777216))) (ho9 : w.heap[o9]? = some (.cells #[.func (.func 103) #[] #[.pointer (some ⟨l8, 0, none⟩), .pointer (some ⟨m8, 0, none⟩)], .func (.func 104) #[] #[.pointer (some ⟨l8, 0, none⟩), .pointer (some ⟨m8, 0, none⟩)]] 85 (0, 0))) (d9 : D m9) (dO : D o9) (vs : List Value) (ls : List (List Int)) (h : Lsts D w vs ls) :
    ∀ (i : Nat) v f, vs[i]? = some v → (ls.map fun d => listW (min le 16777216) (d.map (numW 0 nn)))[i]? = some f → PutsG D w 142 #[.pointer (some ⟨m9, 0, none⟩), .pointer (some ⟨o9, 0, none⟩)] v f := fun i v f h1 h2 => by
  rw [List.getElem?_map] at h2
  cases e : ls[i]? with
  | none => rw [e] at h2; cases h2
  | some d =>
    rw [e] at h2
    simp only [Option.map_some, Option.some.injEq] at h2
    subst h2
    obtain ⟨a, n, c, rfl, h3, h4⟩ := h.2 i v d h1 e
    exact putsListI D w m9 o9 (min le 16777216) _ _ _ _ a n c (iv d) (d.map (numW 0 nn)) h3 (by rw [List.length_map]; have := h3.1; unfold iv at this; rw [List.length_map] at this; exact this.symm) (putsNums D w l8 m8 0 nn hl hm dl dm d h4) ent_putNum d9 dO hm9 ho9
set_option maxRecDepth 100000 in
set_option maxHeartbeats 4000000 in
theorem put_lists (S : Nat → Prop) (w0 : World) (p : Nat) (s : K.WS) (wh : Int) (le mo nn : Int) (aL : Option Addr) (nL cL : Nat) (vs : List Value) (ls : List (List Int)) (x4 x5 x6 x7 x8 x9 : Value) (w : World) (h : WAt S w0 p s w) (h1 : -9223372036854775808 ≤ wh) (h2 : wh ≤ 9223372036854775807) (hk : ((pk wh : Nat) : Int) = 7) (hE : Els (fun b => ¬ S b ∧ b < w0.heap.size) w aL nL vs) (hY : Lsts (fun b => ¬ S b ∧ b < w0.heap.size) w vs ls) :
    Calls Tryz.prog 31 #[.pointer (some ⟨p, 0, none⟩), .agg #[.int .i64 wh, .int .i64 le, .int .i64 mo, .int .i64 nn, x4, x5, x6, x7, x8, x9, .slice aL nL cL]] w fun en w' => en = .returned (.tuple #[]) ∧ WAt S w0 p (putW (listW (min mo 16777216) (ls.map fun d => listW (min le 16777216) (d.map (numW 0 nn)))) s) w' := by
  have hb0 := (Below.refl w.heap.size w).alloc (Nat.le_refl _) (.cells #[.int .i64 wh, .int .i64 le, .int .i64 mo, .int .i64 nn, x4, x5, x6, x7, x8, x9, .slice aL nL cL] 74)
  have HA := hide (h.below hb0)
  have HX := hide (heap_alloc_new w (.cells #[.int .i64 wh, .int .i64 le, .int .i64 mo, .int .i64 nn, x4, x5, x6, x7, x8, x9, .slice aL nL cL] 74))
  have HE := hide (els_keep hE hb0 fun _ h => h)
  have HY := hide (lsts_keep hY hb0 fun _ h => h)
  clear hE hY
  clear hb0 h
  go_enter Tryz.func31, Tryz.ntmps31
  go_upto_region 1 with fail
  generalize w.alloc (.cells #[.int .i64 wh, .int .i64 le, .int .i64 mo, .int .i64 nn, x4, x5, x6, x7, x8, x9, .slice aL nL cL] 74) = W at *
  generalize w.heap.size = g at *
  obtain ⟨y0, _⟩ := cells11 HX.out
  go_wp2_with fail
  refine (pick_any wh h1 h2 _).mono ?_
  rintro e w1 ⟨rfl, rfl⟩
  rw [hk]
  clear y0
  go_upto_region 17 with fail
  obtain ⟨v, hv, _, hs⟩ := HA.out.rebase
  have HV := hide (hv.keep (Keep.drew (fun _ => False) _) fun _ _ f => f)
  have HSS := hide hs
  clear hv hs
  have HDw : Hid (∀ k, ¬ S k ∧ k < w0.heap.size → ¬ Wset p v k ∧ k < w1.heap.size) := fun k hk => ⟨fun hw => (HSS.out k hw).elim hk.1 fun h6 => Nat.not_lt.2 h6 hk.2, Nat.lt_of_lt_of_le hk.2 HA.out.keep.size⟩
  have HS : Hid (∀ W' : World, W'.heap[g]? = some (.cells #[.int .i64 wh, .int .i64 le, .int .i64 mo, .int .i64 nn, x4, x5, x6, x7, x8, x9, .slice aL nL cL] 74 (0, 0)) → (fun W' : World => W'.cell? ⟨g, 1, none⟩ = some (.int .i64 le) ∧ W'.cell? ⟨g, 2, none⟩ = some (.int .i64 mo) ∧ W'.cell? ⟨g, 3, none⟩ = some (.int .i64 nn) ∧ W'.cell? ⟨g, 10, none⟩ = some (.slice aL nL cL)) W') := fun W' k => ⟨(cells11 k).2.1, (cells11 k).2.2.1, (cells11 k).2.2.2.1, (cells11 k).2.2.2.2.2.2.2.2.2.2⟩
  have HNg : Hid (¬ Wset p v g) := HV.out.not (b := g) HX.out (by decide) (by decide)
  have HXd : Hid (w1.drew.heap[g]? = some (.cells #[.int .i64 wh, .int .i64 le, .int .i64 mo, .int .i64 nn, x4, x5, x6, x7, x8, x9, .slice aL nL cL] 74 (0, 0))) := HX.out
  have HBd : Hid (Below w1.heap.size w1 w1.drew) := (Below.refl _ _).drew
  go_region_held3 (fun W' : World => W'.cell? ⟨g, 1, none⟩ = some (.int .i64 le) ∧ W'.cell? ⟨g, 2, none⟩ = some (.int .i64 mo) ∧ W'.cell? ⟨g, 3, none⟩ = some (.int .i64 nn) ∧ W'.cell? ⟨g, 10, none⟩ = some (.slice aL nL cL)) (first | (exact HS.out _ HXd.out) | (exact HS.out _ HXl.out) | (exact HS.out _ (blkB HXd.out HB10.out)) | (exact HS.out _ (blkB HXd.out HB9.out)) | (exact HS.out _ (blkB HXd.out HB8.out)) | (exact HS.out _ HX.out) | go_keep) (first
    | (go_at_call 83; refine (PutLli (Wset p v) w10 p _ _ _ _ _ (listW (min mo 16777216) (ls.map fun d => listW (min le 16777216) (d.map (numW 0 nn)))) s _ (wr_at HV.out HB10.out) ((putsListLi (fun k => ¬ Wset p v k ∧ k < w10.heap.size) w10 m10 o10 (min mo 16777216) _ _ _ _ aL nL cL vs (ls.map fun d => listW (min le 16777216) (d.map (numW 0 nn))) (els_keep HE.out (HBd.out.trans HB10.out) fun b hb => ⟨(HDw.out b hb).1, Nat.lt_of_lt_of_le (HDw.out b hb).2 (Nat.le_trans HBd.out.size HB10.out.size)⟩) (by rw [List.length_map, ← HY.out.1]; exact HE.out.1.symm) (putsLists (fun k => ¬ Wset p v k ∧ k < w10.heap.size) w10 l8 m8 m9 o9 le nn (blkc (blkc HL8.out HC9.out) HC10.out) (blkc (blkc HM8.out HC9.out) HC10.out) (newD HV.out HG8.out.1 (numForm_lt (blkc (blkc HL8.out HC9.out) HC10.out))) (newD HV.out HG8.out.2 (numForm_lt (blkc (blkc HM8.out HC9.out) HC10.out))) (blkc HMm9.out HC10.out) (blkB HOo9.out HC10.out) (newD HV.out (Nat.le_trans HB8.out.size HGm9.out.1) (numForm_lt (blkc HMm9.out HC10.out))) (newD HV.out (Nat.le_trans HB8.out.size HGm9.out.2) (blk_lt (blkB HOo9.out HC10.out))) vs ls (lsts_keep HY.out (HBd.out.trans HB10.out) fun b hb => ⟨(HDw.out b hb).1, Nat.lt_of_lt_of_le (HDw.out b hb).2 (Nat.le_trans HBd.out.size HB10.out.size)⟩)) ent_putListI (newD HV.out (Nat.le_trans HB9.out.size HGm10.out.1) (numForm_lt HMm10.out)) (newD HV.out (Nat.le_trans HB9.out.size HGm10.out.2) (blk_lt HOo10.out)) HMm10.out HOo10.out) p (Wset p v) w10 (Agree.refl fun k hk => hk.2) (fun k hk => hk.1)) ent_putListLi).mono ?_; rintro e wP ⟨rfl, hP⟩; have HXl := hide (hP.keep.blk (blkB HXd.out HB10.out) HNg.out); have HP := hide hP; clear hP)
    | (go_at_call 82; refine (ListsLi _ _ _ _ mo _).mono ?_; rintro e w10 ⟨m10, o10, rfl, hm, ho, hgm, hgo, hb⟩; have HMm10 := hide hm; have HOo10 := hide ho; have HGm10 := hide (And.intro hgm hgo); have HC10 := hide hb; have HB10 : Hid (Below w1.drew.heap.size w1.drew w10) := HB9.out.trans (hb.mono HB9.out.size); clear hm ho hgm hgo hb)
    | (go_at_call 79; refine (ListsI _ _ _ _ le _).mono ?_; rintro e w9 ⟨m9, o9, rfl, hm, ho, hgm, hgo, hb⟩; have HMm9 := hide hm; have HOo9 := hide ho; have HGm9 := hide (And.intro hgm hgo); have HC9 := hide hb; have HB9 : Hid (Below w1.drew.heap.size w1.drew w9) := HB8.out.trans (hb.mono HB8.out.size); clear hm ho hgm hgo hb)
    | (go_at_call 39; refine (Numbers_any 0 nn _).mono ?_; rintro e w8 ⟨l8, m8, rfl, hl8, hm8, hgl, hgm, hb8⟩; have HL8 := hide hl8; have HM8 := hide hm8; have HG8 := hide (And.intro hgl hgm); have HB8 : Hid (Below w1.drew.heap.size w1.drew w8) := hb8; clear hl8 hm8 hgl hgm hb8))
  go_wp2_with fail
  go_end0
  exact ⟨rfl, (HA.out.below (HBd.out.trans HB10.out)).step HSS.out HP.out⟩
set_option maxRecDepth 100000 in
theorem put_fail (S : Nat → Prop) (w0 : World) (p : Nat) (s : K.WS) (wh : Int) (x1 x2 x3 x4 x5 x6 x7 x8 x9 x10 : Value) (w : World) (h : WAt S w0 p s w) (h1 : -9223372036854775808 ≤ wh) (h2 : wh ≤ 9223372036854775807) (hk : ((pk wh : Nat) : Int) = 9) :
    Calls Tryz.prog 31 #[.pointer (some ⟨p, 0, none⟩), .agg #[.int .i64 wh, x1, x2, x3, x4, x5, x6, x7, x8, x9, x10]] w fun en w' => en = .returned (.tuple #[]) ∧ WAt S w0 p (s.fail 22) w' := by
  have hb0 := (Below.refl w.heap.size w).alloc (Nat.le_refl _) (.cells #[.int .i64 wh, x1, x2, x3, x4, x5, x6, x7, x8, x9, x10] 74)
  have HA := hide (h.below hb0)
  have HX := hide (heap_alloc_new w (.cells #[.int .i64 wh, x1, x2, x3, x4, x5, x6, x7, x8, x9, x10] 74))
  clear hb0 h
  go_enter Tryz.func31, Tryz.ntmps31
  go_upto_region 1 with fail
  generalize w.alloc (.cells #[.int .i64 wh, x1, x2, x3, x4, x5, x6, x7, x8, x9, x10] 74) = W at *
  generalize w.heap.size = g at *
  obtain ⟨y0, _⟩ := cells11 HX.out
  go_wp2_with fail
  refine (pick_any wh h1 h2 _).mono ?_
  rintro e w1 ⟨rfl, rfl⟩
  rw [hk]
  clear y0
  go_wp2_with fail
  refine (Fail_any S w0 p s _ HA.out).mono ?_
  rintro e w2 ⟨rfl, h2⟩
  have H2 := hide h2
  clear h2
  go_wp2_with fail
  go_end0
  exact ⟨rfl, H2.out⟩
set_option maxRecDepth 100000 in
theorem put_look (S : Nat → Prop) (w0 : World) (p : Nat) (s : K.WS) (wh : Int) (x1 x2 x3 x4 x5 x6 x7 x8 x9 x10 : Value) (w : World) (h : WAt S w0 p s w) (h1 : -9223372036854775808 ≤ wh) (h2 : wh ≤ 9223372036854775807) (hk : ((pk wh : Nat) : Int) = 10) :
    Calls Tryz.prog 31 #[.pointer (some ⟨p, 0, none⟩), .agg #[.int .i64 wh, x1, x2, x3, x4, x5, x6, x7, x8, x9, x10]] w fun en w' => en = .returned (.tuple #[]) ∧ WAt S w0 p (s) w' := by
  have hb0 := (Below.refl w.heap.size w).alloc (Nat.le_refl _) (.cells #[.int .i64 wh, x1, x2, x3, x4, x5, x6, x7, x8, x9, x10] 74)
  have HA := hide (h.below hb0)
  have HX := hide (heap_alloc_new w (.cells #[.int .i64 wh, x1, x2, x3, x4, x5, x6, x7, x8, x9, x10] 74))
  clear hb0 h
  go_enter Tryz.func31, Tryz.ntmps31
  go_upto_region 1 with fail
  generalize w.alloc (.cells #[.int .i64 wh, x1, x2, x3, x4, x5, x6, x7, x8, x9, x10] 74) = W at *
  generalize w.heap.size = g at *
  obtain ⟨y0, _⟩ := cells11 HX.out
  go_wp2_with fail
  refine (pick_any wh h1 h2 _).mono ?_
  rintro e w1 ⟨rfl, rfl⟩
  rw [hk]
  clear y0
  go_wp2_with fail
  go_end0
  exact ⟨rfl, HA.out⟩
end Wm
end Go.Proofs.YtoelgcagahmndaaGreat

/- The law's words: numbers as words. -/
namespace Go.Proofs.YtoelgcagahmndaaGreat
namespace Wm
open Go.RowKit Go.Deep

/-- a number as a word -/
def wd (y : Int) : Nat := (y % 18446744073709551616).toNat
def uv (l : List Int) : List Value := l.map fun y => .int .u64 (wd y : Nat)
theorem wd_lt (y : Int) : wd y < 18446744073709551616 := by unfold wd; omega
theorem info_u64 : (Tryz.prog.info? 69).map (fun i => (i.zero, i.size, i.bytes)) = some (some (.int .u64 0), 1, 8) := by kernel_rfl
theorem wp_append64 {w : World} {ops : Array Oper} {rest : List Oper} {o : Oper} {a : Act} {Q : Exit → Act → World → Prop} (hgd : o.guard = none) (s x : Operand)
    (ho : o.op = .call { callee := .builtin .append, args := #[s, x], argTypes := #[151, 151] })
    (base : Nat) (v : Value) (n : Nat) (xs : List Value) (hs : a.eval s = v) (hown : w.ownsRow base 69 1 v n xs) (ad : Addr) (y : Int) (hx : a.eval x = .slice (some ad) 1 1) (hc : w.cell? ad = some (.int .u64 y)) (hn : n + 1 ≤ 17592186044416) (hbase : base ≤ w.heap.size)
    (h : ∀ v' w', w'.ownsRow base 69 1 v' (n + 1) (xs ++ [.int .u64 y]) → w.grownBy w' v.ownBlock → wpList Tryz.prog ops Q rest (a.put o.dst v') w') : wpList Tryz.prog ops Q (o :: rest) a w := by
  obtain ⟨i0, hi, hz0, hz1, hz2⟩ := info_parts info_u64
  refine wpList_append_own2 hgd s x 151 ho base 69 i0 (.int .u64 0) 1 8 Tryz.underlying151 hi hz0 hz1 hz2 rfl (by decide) v n xs hs hown ad 1 1 [.int .u64 y] hx rfl (fun j u hu => ?_) (fun u hu => by rw [List.mem_singleton.1 hu]; rfl) (by unfold maxLen; omega) (by omega) hbase ?_
  · cases j with
    | zero =>
      have : u = .int .u64 y := by simpa using hu.symm
      subst this
      simpa [Addr.add] using hc
    | succ j => simp at hu
  · intro v' w' h1 h2 _
    exact h v' w' h1 h2
theorem cell_1 (w : World) (v : Value) (t : TypeId) : (w.alloc (.cells #[v] t)).cell? ⟨w.heap.size, 0, none⟩ = some v := by rw [World.cell?_alloc_mark]; rfl
set_option maxRecDepth 10000 in
theorem words_any (D : Nat → Prop) (aL : Option Addr) (nL cL : Nat) (L : List Int) (w : World) (hE : Els D w aL nL (iv L)) (hn : nL ≤ 17592186043904) :
    Calls Tryz.prog 86 #[.slice aL nL cL] w fun en w' => ∃ v, en = .returned v ∧ w'.ownsRow w.heap.size 69 1 v nL (uv L) ∧ Below w.heap.size w w' := by
  have HLn : Hid (nL = L.length) := by show _ = _; have := hE.1; unfold iv at this; rw [List.length_map] at this; exact this
  have HE := hide hE
  clear hE
  go_enter Tryz.func86, Tryz.ntmps86
  go_wp2_with fail
  go_loopw [3, 4] (fun v iv wx => ∃ (k : Nat) (a : Option Addr) (c : Nat), v = .slice a k c ∧ iv = .int .i64 (k : Nat) ∧ k ≤ nL ∧ Hid (wx.ownsRow w.heap.size 69 1 (.slice a k c) k (uv (L.take k)) ∧ Below w.heap.size w wx)) (fun _ iv _ => nL - (intOf iv).toNat)
  case atStart => exact ⟨0, none, 0, rfl, rfl, Nat.zero_le _, by simpa [uv] using World.ownsRow_nil w w.heap.size 69 1, Below.refl _ _⟩
  case round => as_aux_lemma =>
    obtain ⟨k, a, c, rfl, rfl, hk, HD⟩ := hrel
    by_cases hlt : k < nL
    · have hlt' : (k : Int) < (nL : Int) := by omega
      have hkL : k < L.length := by have := HLn.out; omega
      obtain ⟨y, hy⟩ : ∃ y, L[k]? = some y := ⟨_, List.getElem?_eq_getElem hkL⟩
      have hiv : (iv L)[k]? = some (.int .i64 y) := by unfold iv; rw [List.getElem?_map, hy]; rfl
      obtain ⟨b, off, eA, hc⟩ : ∃ b off, aL = some ⟨b, off, none⟩ ∧ wr.cell? ⟨b, off + k, none⟩ = some (.int .i64 y) := by
        rcases HE.out.2.2 with h0 | ⟨b, off, e, _, hc⟩
        · omega
        · exact ⟨b, off, e, blkc (hc k _ hiv) HD.out.2⟩
      have ewd : IntKind.u64.wrap y = ((wd y : Nat) : Int) := by rw [IntKind.wrap_u64]; unfold wd; omega
      have emod : y % 18446744073709551616 = ((wd y : Nat) : Int) := by unfold wd; omega
      subst eA
      have HTk : Hid (uv (L.take k) ++ [.int .u64 (wd y : Nat)] = uv (L.take (k + 1))) := by
        show _ = _
        rw [List.take_add_one, hy]
        simp [uv]
      clear hy hiv hkL
      have HR := hide (HD.out.1.alloc (.cells #[.int .u64 (wd y : Nat)] 69))
      have HC := hide (cell_1 wr (.int .u64 (wd y : Nat)) 69)
      have HB := hide (HD.out.2.alloc HD.out.2.size (.cells #[.int .u64 (wd y : Nat)] 69))
      have HZ : Hid (w.heap.size ≤ (wr.alloc (.cells #[.int .u64 (wd y : Nat)] 69)).heap.size) := HB.out.size
      clear HD
      go_wp2_with (at_builtin; refine wp_append64 rfl _ _ rfl w.heap.size (.slice a k c) k (uv (L.take k)) rfl HR.out ⟨wr.heap.size, 0, none⟩ _ rfl HC.out (by omega) HZ.out ?_; intro v' w4 o4 g4; rw [HTk.out] at o4; have HB4 := hide (HB.out.grown g4 HZ.out fun j hj => (HR.out.lt j hj).1); obtain ⟨a4, c4, hv4⟩ := ownsRow_shape o4; subst hv4; have HO4 := hide o4; clear o4 g4)
      go_roundw
      · exact ⟨k + 1, a4, c4, rfl, rfl, by omega, HO4.out, HB4.out⟩
      · show nL - ((k : Int) + 1).toNat < nL - (k : Int).toNat
        omega
    · obtain rfl : k = nL := by omega
      have hge : ¬ ((k : Int) < (k : Int)) := by omega
      have HO : Hid (wr.ownsRow w.heap.size 69 1 (.slice a k c) k (uv L) ∧ Below w.heap.size w wr) := by
        have := HD.out
        rw [List.take_of_length_le (by have := HLn.out; omega)] at this
        exact this
      clear HD
      go_wp2_with fail
      go_ret
      exact ⟨_, rfl, HO.out⟩
end Wm
end Go.Proofs.YtoelgcagahmndaaGreat

/- The law's put of a step: a list of words (written by putw_gen.py). -/
namespace Go.Proofs.YtoelgcagahmndaaGreat
namespace Wm
open Go.RowKit Go.Deep

theorem els_own {w : World} {base : Nat} {t : TypeId} {a : Option Addr} {n c : Nat} {vs : List Value} (h : w.ownsRow base t 1 (.slice a n c) n vs) (hn : n ≤ 140737488351232) : Els (fun k => base ≤ k ∧ k < w.heap.size) w a n vs := by
  have hl : n = vs.length := by have := h.1; omega
  rcases h.2 with ⟨e, h0⟩ | ⟨g, cap, cur, e, hb, hg, _⟩
  · exact ⟨hl, hn, .inl h0⟩
  · injection e with e1 _ e3
    subst e1 e3
    refine ⟨hl, hn, .inr ⟨g, 0, rfl, ⟨hb, (Array.getElem?_eq_some_iff.1 hg).1⟩, fun i x hx => ?_⟩⟩
    have := h.cells (g := g) rfl i x hx
    rw [Addr.add_lit] at this
    exact this
theorem putsWords (D : Nat → Prop) (w : World) (l : List Int) : ∀ (i : Nat) v f, (uv l)[i]? = some v → (l.map fun y => wordW (wd y))[i]? = some f → PutsG D w 128 #[] v f := fun i v f h1 h2 => by
  unfold uv at h1
  rw [List.getElem?_map] at h1 h2
  cases e : l[i]? with
  | none => rw [e] at h1; cases h1
  | some y =>
    rw [e] at h1 h2
    simp only [Option.map_some, Option.some.injEq] at h1 h2
    subst h1 h2
    exact putsWord D w (wd y) (wd_lt y)
set_option maxRecDepth 100000 in
set_option maxHeartbeats 4000000 in
theorem put_words (S : Nat → Prop) (w0 : World) (p : Nat) (s : K.WS) (wh : Int) (mo : Int) (aL : Option Addr) (nL cL : Nat) (L : List Int) (x1 x3 x4 x5 x6 x7 x9 x10 : Value) (w : World) (h : WAt S w0 p s w) (h1 : -9223372036854775808 ≤ wh) (h2 : wh ≤ 9223372036854775807) (hk : ((pk wh : Nat) : Int) = 8) (hE : Els (fun b => ¬ S b ∧ b < w0.heap.size) w aL nL (iv L)) (hn : nL ≤ 17592186043904) :
    Calls Tryz.prog 31 #[.pointer (some ⟨p, 0, none⟩), .agg #[.int .i64 wh, x1, .int .i64 mo, x3, x4, x5, x6, x7, .slice aL nL cL, x9, x10]] w fun en w' => en = .returned (.tuple #[]) ∧ WAt S w0 p (putW (listW (min mo 16777216) (L.map fun y => wordW (wd y))) s) w' := by
  have hb0 := (Below.refl w.heap.size w).alloc (Nat.le_refl _) (.cells #[.int .i64 wh, x1, .int .i64 mo, x3, x4, x5, x6, x7, .slice aL nL cL, x9, x10] 74)
  have HA := hide (h.below hb0)
  have HX := hide (heap_alloc_new w (.cells #[.int .i64 wh, x1, .int .i64 mo, x3, x4, x5, x6, x7, .slice aL nL cL, x9, x10] 74))
  have HE := hide (els_keep hE hb0 fun _ h => h)
  have HLn : Hid (nL = L.length) := by show _ = _; have := hE.1; unfold iv at this; rw [List.length_map] at this; exact this
  have hn2 : nL ≤ 140737488351232 := by omega
  clear hE
  clear hb0 h
  go_enter Tryz.func31, Tryz.ntmps31
  go_upto_region 1 with fail
  generalize w.alloc (.cells #[.int .i64 wh, x1, .int .i64 mo, x3, x4, x5, x6, x7, .slice aL nL cL, x9, x10] 74) = W at *
  generalize w.heap.size = g at *
  obtain ⟨y0, _⟩ := cells11 HX.out
  go_wp2_with fail
  refine (pick_any wh h1 h2 _).mono ?_
  rintro e w1 ⟨rfl, rfl⟩
  rw [hk]
  clear y0
  go_upto_region 19 with fail
  obtain ⟨v, hv, _, hs⟩ := HA.out.rebase
  have HV := hide (hv.keep (Keep.drew (fun _ => False) _) fun _ _ f => f)
  have HSS := hide hs
  clear hv hs
  have HDw : Hid (∀ k, ¬ S k ∧ k < w0.heap.size → ¬ Wset p v k ∧ k < w1.heap.size) := fun k hk => ⟨fun hw => (HSS.out k hw).elim hk.1 fun h6 => Nat.not_lt.2 h6 hk.2, Nat.lt_of_lt_of_le hk.2 HA.out.keep.size⟩
  have HS : Hid (∀ W' : World, W'.heap[g]? = some (.cells #[.int .i64 wh, x1, .int .i64 mo, x3, x4, x5, x6, x7, .slice aL nL cL, x9, x10] 74 (0, 0)) → (fun W' : World => W'.cell? ⟨g, 2, none⟩ = some (.int .i64 mo) ∧ W'.cell? ⟨g, 8, none⟩ = some (.slice aL nL cL)) W') := fun W' k => ⟨(cells11 k).2.2.1, (cells11 k).2.2.2.2.2.2.2.2.1⟩
  have HNg : Hid (¬ Wset p v g) := HV.out.not (b := g) HX.out (by decide) (by decide)
  have HXd : Hid (w1.drew.heap[g]? = some (.cells #[.int .i64 wh, x1, .int .i64 mo, x3, x4, x5, x6, x7, .slice aL nL cL, x9, x10] 74 (0, 0))) := HX.out
  have HBd : Hid (Below w1.heap.size w1 w1.drew) := (Below.refl _ _).drew
  go_region_held3 (fun W' : World => W'.cell? ⟨g, 2, none⟩ = some (.int .i64 mo) ∧ W'.cell? ⟨g, 8, none⟩ = some (.slice aL nL cL)) (first | (exact HS.out _ HXd.out) | (exact HS.out _ HXl.out) | (exact HS.out _ (blkB HXd.out HBL.out)) | (exact HS.out _ (blkB HXd.out HBS.out)) | (exact HS.out _ (blkB HXd.out HBA.out)) | (exact HS.out _ HX.out) | go_keep) (first
    | (go_at_call 85; first | (refine (PutLw (Wset p v) wS p _ _ _ _ _ (listW (min mo 16777216) (L.map fun y => wordW (wd y))) s _ (wr_at HV.out HBS.out) ((putsListW (fun k => ¬ Wset p v k ∧ k < wS.heap.size) wS m9 o9 (min mo 16777216) _ _ _ _ aS nL cS (uv L) (L.map fun y => wordW (wd y)) (els_keep (els_own HOS.out hn2) (Below.refl _ _) fun k hk => newD HV.out (Nat.le_trans HZS.out hk.1) hk.2) (by rw [List.length_map]; exact HLn.out.symm) (putsWords _ _ L) ent_putWord (newD HV.out HG9.out.1 (numForm_lt (blkc HM9.out HLS.out))) (newD HV.out HG9.out.2 (blk_lt (blkB HO9.out HLS.out))) (blkc HM9.out HLS.out) (blkB HO9.out HLS.out)) p (Wset p v) wS (Agree.refl fun k hk => hk.2) (fun k hk => hk.1)) ent_putListW).mono ?_; rintro e wP ⟨rfl, hP⟩; have HXl := hide (hP.keep.blk (blkB HXd.out HBS.out) HNg.out); have HF := hide ((HA.out.below (HBd.out.trans HBS.out)).step HSS.out hP); clear hP) | (refine (PutLw (Wset p v) wL p _ _ _ _ _ (listW (min mo 16777216) (L.map fun y => wordW (wd y))) s _ (wr_at HV.out HBL.out) ((putsListW (fun k => ¬ Wset p v k ∧ k < wL.heap.size) wL m9 o9 (min mo 16777216) _ _ _ _ aS nL cS (uv L) (L.map fun y => wordW (wd y)) (els_keep (els_own HOS.out hn2) HSL.out fun k hk => newD HV.out (Nat.le_trans HZS.out hk.1) (Nat.lt_of_lt_of_le hk.2 HSL.out.size)) (by rw [List.length_map]; exact HLn.out.symm) (putsWords _ _ L) ent_putWord (newD HV.out HG9.out.1 (numForm_lt HM9.out)) (newD HV.out HG9.out.2 (blk_lt HO9.out)) HM9.out HO9.out) p (Wset p v) wL (Agree.refl fun k hk => hk.2) (fun k hk => hk.1)) ent_putListW).mono ?_; rintro e wP ⟨rfl, hP⟩; have HXl := hide (hP.keep.blk (blkB HXd.out HBL.out) HNg.out); have HF := hide ((HA.out.below (HBd.out.trans HBL.out)).step HSS.out hP); clear hP))
    | (go_at_call 84; first | (refine (ListsW _ _ _ _ mo wS).mono ?_; rintro e wL ⟨m9, o9, rfl, hm, ho, hgm, hgo, hb⟩; have HM9 := hide hm; have HO9 := hide ho; have HG9 := hide (And.intro (Nat.le_trans HBS.out.size hgm) (Nat.le_trans HBS.out.size hgo)); have HBL : Hid (Below w1.drew.heap.size w1.drew wL) := HBS.out.trans (hb.mono HBS.out.size); have HSL : Hid (Below wS.heap.size wS wL) := hb; clear hm ho hgm hgo hb) | (refine (ListsW _ _ _ _ mo wA).mono ?_; rintro e wL ⟨m9, o9, rfl, hm, ho, hgm, hgo, hb⟩; have HM9 := hide hm; have HO9 := hide ho; have HG9 := hide (And.intro (Nat.le_trans HBA.out.size hgm) (Nat.le_trans HBA.out.size hgo)); have HBL : Hid (Below w1.drew.heap.size w1.drew wL) := HBA.out.trans (hb.mono HBA.out.size); try (have HSL : Hid (Below wS.heap.size wS wL) := HSA.out.trans (hb.mono HSA.out.size)); clear hm ho hgm hgo hb))
    | (go_at_call 86; first | (refine (words_any (fun b => ¬ S b ∧ b < w0.heap.size) aL nL cL L wL (els_keep HE.out (HBd.out.trans HBL.out) fun _ h => h) hn).mono ?_; rintro e wS ⟨vS, rfl, hoS, hbS⟩; obtain ⟨aS, cS, hvS⟩ := ownsRow_shape hoS; subst hvS; have HOS := hide hoS; have HLS : Hid (Below wL.heap.size wL wS) := hbS; have HZS := hide HBL.out.size; have HBS : Hid (Below w1.drew.heap.size w1.drew wS) := HBL.out.trans (hbS.mono HBL.out.size); clear hoS hbS) | (refine (words_any (fun b => ¬ S b ∧ b < w0.heap.size) aL nL cL L wA (els_keep HE.out (HBd.out.trans HBA.out) fun _ h => h) hn).mono ?_; rintro e wS ⟨vS, rfl, hoS, hbS⟩; obtain ⟨aS, cS, hvS⟩ := ownsRow_shape hoS; subst hvS; have HOS := hide hoS; have HZS := hide HBA.out.size; have HBS : Hid (Below w1.drew.heap.size w1.drew wS) := HBA.out.trans (hbS.mono HBA.out.size); clear hoS hbS) | (refine (words_any (fun b => ¬ S b ∧ b < w0.heap.size) aL nL cL L w1.drew (els_keep HE.out HBd.out fun _ h => h) hn).mono ?_; rintro e wS ⟨vS, rfl, hoS, hbS⟩; obtain ⟨aS, cS, hvS⟩ := ownsRow_shape hoS; subst hvS; have HOS := hide hoS; have HZS : Hid (w1.drew.heap.size ≤ w1.drew.heap.size) := Nat.le_refl _; have HBS : Hid (Below w1.drew.heap.size w1.drew wS) := hbS; clear hoS hbS))
    | (go_at_call 73; first | (refine (Words_any wS).mono ?_; rintro e wA ⟨rfl, hbA⟩; have HSA : Hid (Below wS.heap.size wS wA) := hbA; have HBA : Hid (Below w1.drew.heap.size w1.drew wA) := HBS.out.trans (hbA.mono HBS.out.size); clear hbA) | (refine (Words_any w1.drew).mono ?_; rintro e wA ⟨rfl, hbA⟩; have HBA : Hid (Below w1.drew.heap.size w1.drew wA) := hbA; clear hbA)))
  all_goals (go_wp2_with fail; go_end0; exact ⟨rfl, HF.out⟩)
end Wm
end Go.Proofs.YtoelgcagahmndaaGreat
