import Derived.Test.YtfoahfgehmghcaaGreatDoorUTx3
import Derived.Lib.ItoaLen
import Derived.Test.YtfoahfgehmghcaaGreatDoorUMod
/- Package source: a plan that is written. -/
namespace Go.Proofs.YtfoahfgehmghcaaGreatDoor
namespace U
open Go.RowKit

def kwNeeds2 : List UInt8 := [32, 32, 110, 101, 101, 100, 115]
def kwAfter2 : List UInt8 := [32, 32, 97, 102, 116, 101, 114]
/-- a node's own words -/
def noW (x : Gr.No) : List (List UInt8) := nodeW ⟨x.q.nm.data.toList, x.q.la, x.q.bu, x.q.cl, x.q.be, x.q.ba, x.q.ca, x.q.ji, [], []⟩
def nodeT (xs : List Gr.No) (x : Gr.No) : List UInt8 := lineT (noW x) ++ edgeT kwNeeds2 x.nl xs ++ edgeT kwAfter2 x.al xs
def planW (nm : List UInt8) (dl : Int) : List (List UInt8) := [kwPlan, nm, kwDead, Lib.itoa dl]
def textOf (nm : List UInt8) (dl : Int) (xs : List Gr.No) : List UInt8 := lineT (planW nm dl) ++ (xs.map (nodeT xs)).flatten
/-- what bounds a plan that is written -/
def NodOk (n : Nat) (x : Gr.No) : Prop := x.q.nm.size ≤ 40 ∧ i64 x.q.la ∧ i64 x.q.bu ∧ i64 x.q.cl ∧ i64 x.q.be ∧ i64 x.q.ba ∧ i64 x.q.ca ∧ i64 x.q.ji ∧ x.nl.length ≤ 256 ∧ x.al.length ≤ 256 ∧ (∀ e ∈ x.nl, 0 ≤ e ∧ e < n) ∧ (∀ e ∈ x.al, 0 ≤ e ∧ e < n)
def WOk (nm : List UInt8) (dl : Int) (xs : List Gr.No) : Prop := nm.length ≤ 40 ∧ i64 dl ∧ xs.length ≤ 64 ∧ ∀ x ∈ xs, NodOk xs.length x
theorem itoa_le {n : Int} (h : i64 n) : (Lib.itoa n).length ≤ 40 := Nat.le_trans (Lib.itoa_length_le n h.1 h.2) (by omega)
theorem sum_le (ws : List (List UInt8)) (h : ∀ x ∈ ws, x.length ≤ 40) : (ws.map (·.length)).sum ≤ ws.length * 40 := by
  induction ws with
  | nil => simp
  | cons x r ih =>
    have h1 := h x (List.mem_cons_self ..)
    have h2 := ih fun y hy => h y (List.mem_cons_of_mem _ hy)
    simp only [List.map_cons, List.sum_cons, List.length_cons]
    omega
theorem lineT_le (ws : List (List UInt8)) (h : ∀ x ∈ ws, x.length ≤ 40) : (lineT ws).length ≤ ws.length * 41 + 1 := by
  have h1 := join_len ws
  have h2 := sum_le ws h
  unfold lineT
  simp only [List.length_append, List.length_singleton]
  omega
theorem noW_ok {n : Nat} {x : Gr.No} (h : NodOk n x) : (noW x).length ≤ 16 ∧ noW x ≠ [] ∧ ∀ y ∈ noW x, y.length ≤ 40 := by
  obtain ⟨h1, h2, h3, h4, h5, h6, h7, h8, _⟩ := h
  have g2 := itoa_le h2
  have g3 := itoa_le h3
  have g4 := itoa_le h4
  have g5 := itoa_le h5
  have g6 := itoa_le h6
  have g7 := itoa_le h7
  have g8 := itoa_le h8
  have g1 : x.q.nm.data.toList.length ≤ 40 := h1
  unfold noW nodeW wNode wBeat wBack wJit
  refine ⟨?_, by simp, ?_⟩
  · (repeat' split) <;> simp
  · intro y hy
    simp only [List.mem_append, List.mem_cons, List.not_mem_nil, or_false] at hy
    rcases hy with ((hy | hy) | hy) | hy
    · rcases hy with rfl | rfl | rfl | rfl | rfl | rfl | rfl | rfl <;> first | assumption | decide
    · split at hy
      · simp at hy
      · simp at hy; rcases hy with rfl | rfl <;> first | assumption | decide
    · split at hy
      · simp at hy
      · simp at hy; rcases hy with rfl | rfl | rfl | rfl <;> first | assumption | decide
    · split at hy
      · simp at hy
      · simp at hy; rcases hy with rfl | rfl <;> first | assumption | decide
theorem edgeT_le (first : List UInt8) (z : List Int) (xs : List Gr.No) (hx : ∀ x ∈ xs, x.q.nm.size ≤ 40) (hf : first.length ≤ 40) (hz : z.length ≤ 256) : (edgeT first z xs).length ≤ 11000 := by
  unfold edgeT
  split
  · simp
  · have := lineT_le (edgeW first z xs) (fun y hy => by
      unfold edgeW at hy
      rcases List.mem_cons.1 hy with rfl | hy
      · exact hf
      · obtain ⟨e, _, rfl⟩ := List.mem_map.1 hy
        exact nameAt_len xs hx e)
    rw [edgeW_len] at this
    omega
theorem nodeT_le {xs : List Gr.No} (h : ∀ x ∈ xs, NodOk xs.length x) {x : Gr.No} (hx : x ∈ xs) : (nodeT xs x).length ≤ 30000 := by
  have hn := fun x hx => (h x hx).1
  obtain ⟨h1, _, h3⟩ := noW_ok (h x hx)
  have g1 := lineT_le _ h3
  have g2 := edgeT_le kwNeeds2 x.nl xs hn (by decide) (h x hx).2.2.2.2.2.2.2.2.1
  have g3 := edgeT_le kwAfter2 x.al xs hn (by decide) (h x hx).2.2.2.2.2.2.2.2.2.1
  unfold nodeT
  simp only [List.length_append]
  omega
theorem flat_le {xs : List Gr.No} (h : ∀ x ∈ xs, NodOk xs.length x) : ∀ ys : List Gr.No, (∀ y ∈ ys, y ∈ xs) → (ys.map (nodeT xs)).flatten.length ≤ ys.length * 30000
  | [], _ => by simp
  | y :: ys, hy => by
    have h1 := nodeT_le h (hy y (List.mem_cons_self ..))
    have h2 := flat_le h ys fun z hz => hy z (List.mem_cons_of_mem _ hz)
    simp only [List.map_cons, List.flatten_cons, List.length_append, List.length_cons]
    omega
theorem planW_ok {nm : List UInt8} {dl : Int} (h1 : nm.length ≤ 40) (h2 : i64 dl) : ∀ y ∈ planW nm dl, y.length ≤ 40 := by
  intro y hy
  have := itoa_le h2
  unfold planW at hy
  simp only [List.mem_cons, List.not_mem_nil, or_false] at hy
  rcases hy with rfl | rfl | rfl | rfl <;> first | assumption | decide
set_option maxRecDepth 100000 in
set_option maxHeartbeats 4000000 in
theorem write_any (nm : List UInt8) (dl : Int) (s : Option Addr × Nat × Nat) (xs : List Gr.No) (B : Nat) (w : World) (hP : Gr.RdP B w s xs) (hB : B ≤ w.heap.size) (hE : EnvI w) (hok : WOk nm dl xs) :
    Calls Tryz.prog 15 #[.agg #[.string (ba nm), .int .i64 dl, .slice s.1 s.2.1 s.2.2]] w fun e w' => e = .returned (.string (ba (textOf nm dl xs))) ∧ Below w.heap.size w w' := by
  obtain ⟨sa, sn, sc⟩ := s
  simp only
  obtain ⟨o1, o2, o3, o4⟩ := hok
  have hsn : sn = xs.length := hP.1
  have HP := hide hP
  have HO4 := hide o4
  have HSN := hide hsn
  have IT := hide (fun n (h : i64 n) w hE => itoa_any n h.1 h.2 w hE)
  have hbox := heap_alloc_new w (.cells #[.string (ba nm), .int .i64 dl, .slice sa sn sc] 24)
  have hs0 : (w.alloc (.cells #[.string (ba nm), .int .i64 dl, .slice sa sn sc] 24)).heap.size = w.heap.size + 1 := by simp
  have bel0 : Below w.heap.size w ((w.alloc (.cells #[.string (ba nm), .int .i64 dl, .slice sa sn sc] 24)).alloc (.cells #[.pointer none, .slice none 0 0] 74)) := ((Below.refl _ w).alloc (Nat.le_refl _) _).alloc (by simp) _
  have bel1 := (Below.refl _ (w.alloc (.cells #[.string (ba nm), .int .i64 dl, .slice sa sn sc] 24))).alloc (Nat.le_refl _) (.cells #[.pointer none, .slice none 0 0] 74)
  have hbox := (bel1.block w.heap.size (by rw [hs0]; omega)).trans hbox
  have hbd := bd_new (w.alloc (.cells #[.string (ba nm), .int .i64 dl, .slice sa sn sc] 24))
  rw [hs0] at hbd
  have HBOX := hide hbox
  have BEL0 := hide bel0
  have HBD := hide hbd
  have HE := hide hE
  have WL1 := hide (fun b a c w' hb hr hc => writeLine_any b [] a (planW nm dl) c w' hb hr (by simp [planW]) hc (by have := sum_le _ (planW_ok o1 o2); have : (planW nm dl).length = 4 := rfl; omega) (by simp))
  have HLH : Hid ((lineT (planW nm dl)).length ≤ 1000) := by show _ ≤ _; have := lineT_le _ (planW_ok o1 o2); have : (planW nm dl).length = 4 := rfl; omega
  clear hP o4 hsn hbox bel0 bel1 hbd hs0 hE o1
  go_enter Tryz.func15, Tryz.ntmps15
  go_upto_region 2 with fail
  generalize ((w.alloc (.cells #[.string (ba nm), .int .i64 dl, .slice sa sn sc] 24)).alloc (.cells #[.pointer none, .slice none 0 0] 74)) = w1 at *
  generalize hN : w.heap.size = N at *
  have HEW : Hid (∀ W, Below N w1 W → EnvI W) := fun W hb => HE.out.below (by rw [hN]; exact BEL0.out.trans hb)
  have HS : Hid (∀ W, Below (N + 1) w1 W → W.cell? ⟨N, 0, none⟩ = some (.string (ba nm)) ∧ W.cell? ⟨N, 1, none⟩ = some (.int .i64 dl) ∧ EnvI W ∧ Below (N + 1) w1 W) := fun W hb => by
    have X := (hb.block N (by omega)).trans HBOX.out
    exact ⟨cell_blk X 0 (v := .string (ba nm)) rfl, cell_blk X 1 (v := .int .i64 dl) rfl, HEW.out _ (hb.mono (by omega)), hb⟩
  have hb1 := HBD.out.lt
  have HT : Hid (∀ W, Below w1.heap.size w1 W → Below (N + 1) w1 W) := fun W hb => hb.mono (by omega)
  go_region_held3 (fun W => W.cell? ⟨N, 0, none⟩ = some (.string (ba nm)) ∧ W.cell? ⟨N, 1, none⟩ = some (.int .i64 dl) ∧ EnvI W ∧ Below (N + 1) w1 W) (first | (exact HS.out _ HF.out.2) | (exact HS.out _ (HT.out _ HB9.out)) | (exact HS.out _ (HT.out _ (HB9.out.alloc HB9.out.size _))) | (exact HS.out _ (HT.out _ ((Below.refl _ w1).drew))) | (exact HS.out _ (HT.out _ (Below.refl _ w1))) | go_keep) (first
    | (go_at_call 31; have hh8 := (‹_ ∧ _ ∧ EnvI _ ∧ Below (N + 1) w1 _›); refine (IT.out _ (by assumption) _ hh8.2.2.1).mono ?_; rintro e w9 ⟨rfl, hb9⟩; (first | (have HB9 := hide (HB9.out.trans (hb9.mono HB9.out.size))) | (have HB9 : Hid (Below w1.heap.size w1 w9) := hide ((Below.refl _ w1).drew.trans hb9)) | (have HB9 : Hid (Below w1.heap.size w1 w9) := hide hb9)); clear hh8 hb9)
    | (go_at_call 30
       have hb8 := HB9.out.alloc HB9.out.size (.cells (strs (planW nm dl)).toArray 9)
       refine (WL1.out (N + 1) _ 4 _ (HBD.out.keep hb8) (own_rdS (own_made w9 (planW nm dl) (by simp [planW]))).1 (Nat.le_refl 4)).mono ?_
       rintro e w8 ⟨rfl, bd8, bl8, _⟩
       have HF : Hid (Bd w8 (N + 1) (lineT (planW nm dl)) ∧ Below (N + 1) w1 w8) := ⟨bd8, (HT.out _ hb8).trans bl8⟩
       clear bd8 bl8 hb8))
  have HM : Hid (∀ W, Below (N + 1) w1 W → W.cell? ⟨N, 2, none⟩ = some (.slice sa sn sc) ∧ Gr.RdP B W (sa, sn, sc) xs ∧ EnvI W) := fun W hb => by
    have X := (hb.block N (by omega)).trans HBOX.out
    exact ⟨cell_blk X 2 (v := .slice sa sn sc) rfl, rdp_below HP.out (BEL0.out.trans (hb.mono (by omega))) hB, HEW.out _ (hb.mono (by omega))⟩
  have c2 := (HM.out _ HF.out.2).1
  clear HS HT HEW HBD WL1 HB9
  have HBW := hide (fun W (hb : Below (N + 1) w1 W) => (BEL0.out.trans (hb.mono (Nat.le_succ N)) : Below N w W))
  clear HBOX HP BEL0 HE
  have WE := hide (fun l first z ez ns w' hb hz hP hv hzl hf hl => writeEdges_any (N + 1) l first z ez ns xs B w' hb (by omega) hz hP hv hzl (fun x hx => (HO4.out x hx).1) hf hl)
  have WL := hide (fun l a ws c w' hb hr hne hc hs hl => writeLine_any (N + 1) l a ws c w' hb hr hne hc hs hl)
  have hs64 : sn ≤ 64 := by have := HSN.out; omega
  go_wp2_with fail
  clear c2
  go_loopw [18] (fun iv wr => ∃ i : Nat, iv = .int .i64 (i : Nat) ∧ i ≤ sn ∧ Hid (Bd wr (N + 1) (lineT (planW nm dl) ++ ((xs.take i).map (nodeT xs)).flatten) ∧ Below (N + 1) w1 wr)) (fun iv _ => sn - (intOf iv).toNat)
  case atStart => exact ⟨0, rfl, Nat.zero_le _, by simpa using HF.out.1, HF.out.2⟩
  case round =>
    clear HF IT
    obtain ⟨i, rfl, hi, HI⟩ := hrel
    by_cases hlt : i < sn
    · obtain ⟨g, off, x, hx1, hg, hx, hnd, hz1, hz2⟩ := (HM.out _ HI.out.2).2.1.at (i := i) hlt
      simp only at hx1
      subst hx1
      have hxm := List.mem_of_getElem? hx
      have hxo := HO4.out x hxm
      have HXO := hide hxo
      have HSN2 : Hid ((xs.take (i + 1)).map (nodeT xs) = (xs.take i).map (nodeT xs) ++ [nodeT xs x]) := by show _ = _; rw [Gr.take_snoc xs i x hx]; simp
      have HLL : Hid ((lineT (planW nm dl) ++ ((xs.take i).map (nodeT xs)).flatten).length ≤ 2000000) := by
        show _ ≤ _
        have h1 := flat_le HO4.out (xs.take i) (fun y hy => List.mem_of_mem_take hy)
        have h2 := HLH.out
        have h3 : (xs.take i).length ≤ 64 := by rw [List.length_take]; omega
        rw [List.length_append]
        omega
      have HNT : Hid (nodeT xs x = lineT (noW x) ++ edgeT kwNeeds2 x.nl xs ++ edgeT kwAfter2 x.al xs) := rfl
      have HN1 := hide (noW_ok hxo)
      have HL1 : Hid ((lineT (noW x)).length ≤ 1000) := by show _ ≤ _; have := lineT_le _ HN1.out.2.2; have := HN1.out.1; omega
      have HL2 : Hid ((edgeT kwNeeds2 x.nl xs).length ≤ 11000) := edgeT_le kwNeeds2 x.nl xs (fun x hx => (HO4.out x hx).1) (by decide) hxo.2.2.2.2.2.2.2.2.1
      have HBN := hide (heap_alloc_new wr (.cells x.q.row.toArray 32))
      have HBB : Hid (Below wr.heap.size wr (wr.alloc (.cells x.q.row.toArray 32))) := (Below.refl _ wr).alloc (Nat.le_refl _) _
      have NA := hide (Gr.NodeAt.new wr x.q 32)
      have HXM := hide hxm
      generalize hL : lineT (planW nm dl) ++ ((xs.take i).map (nodeT xs)).flatten = L at *
      have HL := hide hL
      have hbr := HI.out.1.lt
      clear hx hxm hz1 hz2 hL hxo
      obtain ⟨⟨nmx, la, bu, cl, be, bs, ca, ji, ⟨ne1, ne2, ne3⟩, ⟨af1, af2, af3⟩⟩, nl, al⟩ := x
      obtain ⟨nml, rfl⟩ : ∃ l, nmx = ba l := ⟨_, (ba_of nmx).symm⟩
      have HNW : Hid (noW ⟨⟨ba nml, la, bu, cl, be, bs, ca, ji, (ne1, ne2, ne3), (af1, af2, af3)⟩, nl, al⟩ = nodeW ⟨nml, la, bu, cl, be, bs, ca, ji, [], []⟩) := by show _ = _; unfold noW; simp only [ba_data]
      obtain ⟨n0, n1, n2, n3, n4, n5, n6, n7, n8, n9⟩ := hnd.all
      obtain ⟨m0, m1, m2, m3, m4, m5, m6, m7, m8, m9⟩ := NA.out.all
      simp only [Nat.zero_add, Gr.Nd.row] at *
      rw [HNW.out] at HN1 HL1 HNT
      have NW := hide (fun w hE => nodeWords_any nml la bu cl be bs ca ji (ne1, ne2, ne3) (af1, af2, af3) w hE HXO.out.2.1 HXO.out.2.2.1 HXO.out.2.2.2.1 HXO.out.2.2.2.2.1 HXO.out.2.2.2.2.2.1 HXO.out.2.2.2.2.2.2.1 HXO.out.2.2.2.2.2.2.2.1)
      generalize nodeW ⟨nml, la, bu, cl, be, bs, ca, ji, [], []⟩ = nws at *
      clear hnd NA HNW
      go_upto_region 6 with fail
      have hszn : (wr.alloc (.cells [Value.string (ba nml), .int .i64 la, .int .i64 bu, .int .i64 cl, .int .i64 be, .int .i64 bs, .int .i64 ca, .int .i64 ji, .slice ne1 ne2 ne3, .slice af1 af2 af3].toArray 32)).heap.size = wr.heap.size + 1 := by simp
      have hszn : (wr.alloc (.cells #[Value.string (ba nml), .int .i64 la, .int .i64 bu, .int .i64 cl, .int .i64 be, .int .i64 bs, .int .i64 ca, .int .i64 ji, .slice ne1 ne2 ne3, .slice af1 af2 af3] 32)).heap.size = wr.heap.size + 1 := hszn
      generalize (wr.alloc (.cells #[Value.string (ba nml), .int .i64 la, .int .i64 bu, .int .i64 cl, .int .i64 be, .int .i64 bs, .int .i64 ca, .int .i64 ji, .slice ne1 ne2 ne3, .slice af1 af2 af3] 32)) = w4 at *
      have HB4 : Hid (Below (N + 1) w1 w4) := HI.out.2.trans (HBB.out.mono (by omega))
      have HD4 := hide (HI.out.1.keep HBB.out)
      clear n0 n1 n2 n3 n4 n5 n6 n7 n8 n9
      go_wp2_with fail
      go_at_call 32
      refine (NW.out w4 (HM.out _ HB4.out).2.2).mono ?_
      rintro e w5 ⟨a5, c5, rfl, own5, bel5⟩
      have R5 := own_rdS own5
      have HB5 : Hid (Below (N + 1) w1 w5) := HB4.out.trans (bel5.mono (by omega))
      have HD5 := hide (HD4.out.keep bel5)
      have HBL5 : Hid (w5.heap[wr.heap.size]? = some (.cells #[Value.string (ba nml), .int .i64 la, .int .i64 bu, .int .i64 cl, .int .i64 be, .int .i64 bs, .int .i64 ca, .int .i64 ji, .slice ne1 ne2 ne3, .slice af1 af2 af3] 32 (0, 0))) := (bel5.block _ (by omega)).trans HBN.out
      have C5 := hide (WL.out L a5 nws c5 w5 HD5.out R5.1 HN1.out.2.1 R5.2 (by have := sum_le nws HN1.out.2.2; have := HN1.out.1; omega) (by have := HLL.out; omega))
      clear own5 bel5 R5 m0 m1 m2 m3 m4 m5 m6 m7 m8 m9 NW
      generalize hnl : nws.length = nwl at *
      go_wp2_with fail
      go_at_call 30
      refine C5.out.mono ?_
      rintro e w6 ⟨rfl, bd6, bl6, ot6⟩
      have HB6 : Hid (Below (N + 1) w1 w6) := HB5.out.trans bl6
      have HD6 := hide bd6
      have HBL6 := hide (ot6.blk HBL5.out (by omega) (by decide))
      clear bd6 bl6 ot6 C5 HBL5 HB5 HD5
      have M6 := HM.out _ HB6.out
      have k2 := M6.1
      have k8 := cell_blk HBL6.out 8 (v := .slice ne1 ne2 ne3) rfl
      have C6 := hide (WE.out (L ++ lineT nws) kwNeeds2 nl (ne1, ne2, ne3) (some ⟨g, off, none⟩, sn, sc) w6 HD6.out (M6.2.1.2.2.2 _ HXM.out).1 M6.2.1 HXO.out.2.2.2.2.2.2.2.2.2.2.1 HXO.out.2.2.2.2.2.2.2.2.1 (by decide) (by have := HLL.out; have := HL1.out; simp; omega))
      clear M6
      go_wp2_with fail
      go_at_call 33
      refine C6.out.mono ?_
      rintro e w7 ⟨rfl, bd7, bl7, ot7⟩
      have HB7 : Hid (Below (N + 1) w1 w7) := HB6.out.trans bl7
      have HD7 := hide bd7
      have HBL7 := hide (ot7.blk HBL6.out (by omega) (by decide))
      clear bd7 bl7 ot7 C6 HBL6 HB6 HD6 k2 k8
      have M7 := HM.out _ HB7.out
      have k2 := M7.1
      have k9 := cell_blk HBL7.out 9 (v := .slice af1 af2 af3) rfl
      have C7 := hide (WE.out (L ++ lineT nws ++ edgeT kwNeeds2 nl xs) kwAfter2 al (af1, af2, af3) (some ⟨g, off, none⟩, sn, sc) w7 HD7.out (M7.2.1.2.2.2 _ HXM.out).2 M7.2.1 HXO.out.2.2.2.2.2.2.2.2.2.2.2 HXO.out.2.2.2.2.2.2.2.2.2.1 (by decide) (by have := HLL.out; have := HL1.out; have := HL2.out; simp; omega))
      clear M7
      go_wp2_with fail
      go_at_call 33
      refine C7.out.mono ?_
      rintro e w8 ⟨rfl, bd8, bl8, _⟩
      have HD8 := hide (⟨bd8, bl8⟩ : _ ∧ _)
      clear bd8 bl8 C7 HBL7 HD7 k2 k9
      go_wp2_with fail
      refine ⟨⟨i + 1, by go_num, by omega, ?_, HB7.out.trans HD8.out.2⟩, ?_⟩
      · have h1 := HD8.out.1
        rw [HSN2.out, List.flatten_append, ← List.append_assoc, HL.out]
        simp only [List.flatten_cons, List.flatten_nil, List.append_nil]
        rw [HNT.out]
        simpa [List.append_assoc] using h1
      · show sn - ((i : Int) + 1).toNat < sn - (i : Int).toNat
        omega
    · have hin : i = sn := by omega
      subst hin
      have BS := hide (builderString (N + 1) (lineT (planW nm dl) ++ ((xs.take i).map (nodeT xs)).flatten) wr HI.out.1)
      have HTX : Hid (textOf nm dl xs = lineT (planW nm dl) ++ ((xs.take i).map (nodeT xs)).flatten) := by
        show _ = _
        rw [List.take_of_length_le (by have := HSN.out; omega)]
        rfl
      generalize lineT (planW nm dl) ++ ((xs.take i).map (nodeT xs)).flatten = L at *
      go_wp2_with fail
      go_at_call 34
      refine BS.out.mono ?_
      rintro e w8 ⟨rfl, bl8⟩
      have F := hide (HBW.out _ (HI.out.2.trans bl8))
      clear bl8 BS
      go_wp2_with fail
      go_ret
      rw [HTX.out, hN]
      exact ⟨rfl, F.out⟩
end U
end Go.Proofs.YtfoahfgehmghcaaGreatDoor

/- Package source: Text. -/
namespace Go.Proofs.YtfoahfgehmghcaaGreatDoor
namespace U
open Go.RowKit

theorem cN_each : ∀ (n i : Nat) (seen : List ByteArray) (xs : List Gr.No), (Gr.cN n i seen xs).2 = 0 → ∀ x ∈ xs, Gr.isNm x.q.nm = true ∧ Gr.fOk x.q = true
  | _, _, _, [], _, x, hx => by cases hx
  | n, i, seen, y :: xs, h, x, hx => by
    unfold Gr.cN at h
    split at h
    · simp at h
    · rename_i c1
      split at h
      · simp at h
      · rename_i c2
        split at h
        · simp at h
        · rcases List.mem_cons.1 hx with rfl | hx
          · simp only [Bool.or_eq_true, not_or, Bool.not_eq_true', Bool.not_eq_false] at c1 c2
            exact ⟨by simpa using c1.1, by simpa using c2⟩
          · exact cN_each n (i + 1) _ xs h x hx
theorem edges_each {xs : List Gr.No} {x : Gr.No} (hx : x ∈ xs) : x.nl.length + x.al.length ≤ Gr.edges xs := by
  unfold Gr.edges
  induction xs with
  | nil => cases hx
  | cons y xs ih =>
    simp only [List.map_cons, List.sum_cons]
    rcases List.mem_cons.1 hx with rfl | hx
    · omega
    · have := ih hx
      omega
theorem wok_of {nm : List UInt8} {dl : Int} {xs : List Gr.No} (h : (Gr.chk (ba nm) dl xs).2 = 0) : WOk nm dl xs := by
  obtain ⟨h1, h2, h3, h4, h5⟩ := Gr.chk_ok h
  have hn := cN_each _ _ _ _ h2
  unfold Gr.cW at h1
  split at h1
  · simp at h1
  · rename_i c1
    split at h1
    · simp at h1
    · rename_i c2
      split at h1
      · simp at h1
      · rename_i c3
        simp only [Bool.not_eq_true', Bool.not_eq_false, Bool.or_eq_true, not_or, decide_eq_true_eq] at c1 c2 c3
        have hsz : ∀ s, Gr.isNm s = true → s.size ≤ 40 := fun s hs => by
          unfold Gr.isNm at hs
          simp [Gr.wI] at hs
          omega
        refine ⟨by have := hsz _ c1; rwa [ba_size] at this, ?_, h4.1, fun x hx => ?_⟩
        · simp [Gr.wI] at c2
          exact ⟨by omega, by omega⟩
        · obtain ⟨g1, g2⟩ := hn x hx
          have g3 := edges_each hx
          have g4 := h4.2 x hx
          unfold Gr.fOk at g2
          simp [Gr.wI] at g2
          refine ⟨hsz _ g1, ⟨?_, ?_⟩, ⟨?_, ?_⟩, ⟨?_, ?_⟩, ⟨?_, ?_⟩, ⟨?_, ?_⟩, ⟨?_, ?_⟩, ⟨?_, ?_⟩, ?_, ?_, fun e he => g4 e (List.mem_append_left _ he), fun e he => g4 e (List.mem_append_right _ he)⟩ <;> omega
/-- what Text writes -/
noncomputable def txt (nm : List UInt8) (dl : Int) (xs : List Gr.No) : List UInt8 := if (Gr.chk (ba nm) dl xs).2 = 0 then textOf nm dl xs else []
set_option maxHeartbeats 2000000 in
theorem text_any (nm : List UInt8) (dl : Int) (s : Option Addr × Nat × Nat) (xs : List Gr.No) (B : Nat) (w : World) (hP : Gr.RdP B w s xs) (hB : B ≤ w.heap.size) (hE : EnvI w) (hs : Gr.Sz (ba nm) xs) :
    Calls Tryz.prog 7 #[.agg #[.string (ba nm), .int .i64 dl, .slice s.1 s.2.1 s.2.2]] w fun e w' => e = .returned (.tuple #[.string (ba (txt nm dl xs)), .int .i64 ((Gr.chk (ba nm) dl xs).2 : Nat)]) ∧ Below w.heap.size w w' := by
  obtain ⟨sa, sn, sc⟩ := s
  simp only
  have bel0 : Below w.heap.size w (w.alloc (.cells #[.string (ba nm), .int .i64 dl, .slice sa sn sc] 24)) := (Below.refl _ w).alloc (Nat.le_refl _) _
  have hbx := heap_alloc_new w (.cells #[.string (ba nm), .int .i64 dl, .slice sa sn sc] 24)
  have hz0 : (w.alloc (.cells #[.string (ba nm), .int .i64 dl, .slice sa sn sc] 24)).heap.size = w.heap.size + 1 := by simp
  have CK := hide (fun w' hP hB => Gr.check_any (ba nm) dl (sa, sn, sc) xs B w' hP hB hs)
  have WR := hide (fun w' hP hB hE hok => write_any nm dl (sa, sn, sc) xs B w' hP hB hE hok)
  have HTX : Hid (txt nm dl xs = if (Gr.chk (ba nm) dl xs).2 = 0 then textOf nm dl xs else []) := rfl
  have HOK := hide (fun h => wok_of (nm := nm) (dl := dl) (xs := xs) h)
  have HP := hide hP
  have HE := hide hE
  have HBX := hide hbx
  have BEL := hide bel0
  have c0 := cell_blk hbx 0 (v := .string (ba nm)) rfl
  have c1 := cell_blk hbx 1 (v := .int .i64 dl) rfl
  have c2 := cell_blk hbx 2 (v := .slice sa sn sc) rfl
  clear hP hE hbx bel0 hs
  generalize Gr.chk (ba nm) dl xs = R at *
  obtain ⟨r1, r2⟩ := R
  simp only at HTX HOK CK ⊢
  go_enter Tryz.func7, Tryz.ntmps7
  go_upto_region 1 with fail
  generalize w.alloc (.cells #[.string (ba nm), .int .i64 dl, .slice sa sn sc] 24) = w1 at *
  go_wp2_with fail
  go_at_call 14
  refine (CK.out w1 (rdp_below HP.out BEL.out hB) (by omega)).mono ?_
  rintro e w2 ⟨rfl, k2⟩
  have HB2 : Hid (Below w.heap.size w w2) := BEL.out.trans (k2.below (by omega) fun _ h => h.elim)
  have HX2 : Hid (w2.heap[w.heap.size]? = some (.cells #[.string (ba nm), .int .i64 dl, .slice sa sn sc] 24 (0, 0))) := (k2.block _ (by omega) fun h => h).trans HBX.out
  clear k2 c0 c1 c2 CK BEL HBX
  have hsz2 := HB2.out.size
  by_cases h0 : r2 = 0
  · subst h0
    have hx := HX2.out
    have c0 := cell_blk hx 0 (v := .string (ba nm)) rfl
    have c1 := cell_blk hx 1 (v := .int .i64 dl) rfl
    have c2 := cell_blk hx 2 (v := .slice sa sn sc) rfl
    have C := hide (WR.out w2 (rdp_below HP.out HB2.out hB) (by omega) (HE.out.below HB2.out) (HOK.out rfl))
    clear hx WR HOK
    go_wp2_with fail
    go_at_call 15
    refine C.out.mono ?_
    rintro e w3 ⟨rfl, b3⟩
    have F := hide (HB2.out.trans (b3.mono hsz2))
    clear b3
    go_wp2_with fail
    go_ret2
    rw [show txt nm dl xs = textOf nm dl xs from HTX.out.trans (if_pos trivial)]
    exact ⟨rfl, F.out⟩
  · have h0' : ((r2 : Int) == 0) = false := by simp; omega
    go_wp2_with fail
    go_ret2
    rw [show txt nm dl xs = [] from HTX.out.trans (if_neg h0)]
    exact ⟨rfl, HB2.out⟩
end U
end Go.Proofs.YtfoahfgehmghcaaGreatDoor
