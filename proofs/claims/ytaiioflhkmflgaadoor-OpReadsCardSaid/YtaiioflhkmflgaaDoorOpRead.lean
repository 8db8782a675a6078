/- Package op's kindOf and read, for every text of at most 200 bytes: the operation that it may mean. -/
import Derived.Test.YtaiioflhkmflgaaDoorOpWords
namespace Go.Proofs.YtaiioflhkmflgaaDoor
open Go Go.RowKit
set_option maxRecDepth 100000

/-- What Parse reads of the listed variables, and that the library's own limit holds a number. -/
structure LaidP (w : World) : Prop where
  text : LaidT w
  bad : ∃ te pe, w.cell? ⟨5, 0, none⟩ = some (.iface te pe)
  far : ∃ te pe, w.cell? ⟨6, 0, none⟩ = some (.iface te pe)
  len : ∃ m : Int, w.cell? ⟨4, 0, none⟩ = some (.int .i64 m)
theorem LaidP.below {w w' : World} (h : LaidP w) (hb : Below w.heap.size w w') : LaidP w' := by
  obtain ⟨h1, ⟨a, b, h3⟩, ⟨c, d, h4⟩, ⟨m, h5⟩⟩ := h
  exact ⟨h1.below hb, ⟨a, b, (hb.cell (p := ⟨_, 0, none⟩) (lt_of_cell h3)).trans h3⟩, ⟨c, d, (hb.cell (p := ⟨_, 0, none⟩) (lt_of_cell h4)).trans h4⟩, ⟨m, (hb.cell (p := ⟨_, 0, none⟩) (lt_of_cell h5)).trans h5⟩⟩
/-- What kindOf answers. -/
def KindPost (w : World) (S : ByteArray) (e : Ending) (w' : World) : Prop :=
  w = w' ∧ ((∃ m : Nat, 1 ≤ m ∧ m ≤ 11 ∧ S = ⟨(nmL m).toArray⟩ ∧ e = .returned (.tuple #[.int .i64 (m : Int), .bool true])) ∨ ((∀ m : Nat, 1 ≤ m → m ≤ 11 → S.data.toList ≠ nmL m) ∧ e = .returned (.tuple #[.int .i64 0, .bool false])))
set_option maxHeartbeats 3200000 in
theorem kindOf_c (S : ByteArray) (w : World) (hR : RowsAt w) : Calls Tryd.prog 40 #[.string S] w (KindPost w S) := by
  have HR := Lib.hid hR
  have HY := Lib.hid isKind_yes
  have HN0 : Hid (∀ w, Calls Tryd.prog 26 #[.int .i64 0] w fun e w' => e = .returned (.bool false) ∧ w = w') := Lib.hid (isKind_no 0 (by unfold okK; omega))
  clear hR
  go_enter Tryd.func40, Tryd.ntmps40
  go_wp2_with fail
  go_loop [5] (fun vi => ∃ j : Nat, vi = .int .i64 j ∧ j ≤ 12 ∧ Hid (∀ m : Nat, 1 ≤ m → m < j → S.data.toList ≠ nmL m)) (fun vi => 12 - (intOf vi).toNat)
  case atStart => exact ⟨0, rfl, by omega, Lib.hid (fun m h1 h2 => by omega)⟩
  case round =>
    obtain ⟨j, rfl, hj, HI⟩ := hrel
    by_cases hlt : j < 12
    · by_cases h0 : j = 0
      · subst h0
        clear HY
        go_wp2_with fail
        refine (HN0.out _).mono ?_
        rintro e W ⟨rfl, rfl⟩
        go_wp2_with fail
        go_round
        case rel => exact ⟨1, by go_num, by omega, Lib.hid (fun m h1 h2 => by omega)⟩
        case measure => simp [intOf]
      · have hc := HR.out.name j hlt
        by_cases he : nmL j = S.data.toList
        · have HE : Hid (S = ⟨(nmL j).toArray⟩) := Lib.hid (by rw [he])
          rw [← HE.out] at hc
          clear he HN0
          go_wp2_with fail
          refine (HY.out j (by omega) (by omega) _).mono ?_
          rintro e W ⟨rfl, rfl⟩
          go_wp2_with fail
          refine bodyPost_ret (v := .tuple #[.int .i64 (j : Int), .bool true]) (by simp [results, Tryd.f40, go_sem]) rfl ?_
          exact ⟨rfl, .inl ⟨j, by omega, by omega, HE.out, rfl⟩⟩
        · have hq : (nmL j == S.toList) = false := by rw [ByteArray.toList_eq]; simpa using he
          have HI1 : Hid (∀ m : Nat, 1 ≤ m → m < j + 1 → S.data.toList ≠ nmL m) := Lib.hid (fun m h1 h2 => by
            by_cases e : m < j
            · exact HI.out m h1 e
            · obtain rfl : m = j := by omega
              exact fun e => he e.symm)
          clear he HI HN0
          generalize nmL j = nm at hc hq
          go_wp2_with fail
          refine (HY.out j (by omega) (by omega) _).mono ?_
          rintro e W ⟨rfl, rfl⟩
          go_wp2_with fail
          go_round
          case rel => exact ⟨j + 1, by go_num, by omega, HI1⟩
          case measure => simp [intOf]; omega
    · obtain rfl : j = 12 := by omega
      clear HY HN0 HR
      go_wp2_with fail
      refine bodyPost_ret (v := .tuple #[.int .i64 0, .bool false]) (by simp [results, Tryd.f40, go_sem]) rfl ?_
      exact ⟨rfl, .inr ⟨fun m h1 h2 => HI.out m h1 (by omega), rfl⟩⟩
/-- Atoi, at whatever text: the number, which is an int, or an error that is not nil. -/
theorem atoi_c (p : ByteArray) (hp : p.size ≤ 281474976710656) (w : World) (hL : LaidP w) :
    Calls Tryd.prog 41 #[.string p] w fun e w' => Below w.heap.size w w' ∧ ((∃ v, Lib.atoiAll p.data.toList = .ok v ∧ e = .returned (.tuple #[.int .i64 v, .nilIface])) ∨ ((∀ v, Lib.atoiAll p.data.toList ≠ .ok v) ∧ ∃ x t q, e = .returned (.tuple #[.int .i64 x, .iface t q]))) := by
  match h : Lib.atoiAll p.data.toList with
  | .ok v =>
    refine (Tryd.strconv_Atoi_ok p (by omega) v h w).mono fun e w' ⟨he, hw⟩ => ⟨?_, .inl ⟨v, rfl, he⟩⟩
    rcases hw with rfl | ⟨t, rfl⟩
    · exact Below.refl _ _
    · exact Lib.bytesWorld_below w _ t
  | Lib.NumEnd.syntax =>
    obtain ⟨te, pe, hc⟩ := hL.bad
    exact (Tryd.strconv_Atoi_syntax p hp h _ w hc (.inr ⟨te, pe, rfl⟩)).mono fun e w' ⟨N, he, _, _, hb⟩ => ⟨hb, .inr ⟨by simp, _, _, _, he⟩⟩
  | .range =>
    obtain ⟨te, pe, hc⟩ := hL.far
    exact (Tryd.strconv_Atoi_range p hp h _ w hc (.inr ⟨te, pe, rfl⟩)).mono fun e w' ⟨N, he, _, _, hb⟩ => ⟨hb, .inr ⟨by simp, _, _, _, he⟩⟩
theorem atoi_in {l : List UInt8} {v : Int} (h : Lib.atoiAll l = .ok v) : inI v := Lib.atoiAll_bounds h
/-- What read answers. -/
def ReadPost (w : World) (S : ByteArray) (e : Ending) (w' : World) : Prop :=
  Below w.heap.size w w' ∧ ∃ (k a b c : Int) (ok : Bool), e = .returned (.tuple #[.agg #[.int .i64 k, .int .i64 a, .int .i64 b, .int .i64 c], .bool ok]) ∧ (ok = true → S.data.toList ≠ [] ∧ inI a ∧ inI b ∧ inI c) ∧ ∀ k' a' b' c', IsText S.data.toList k' a' b' c' → ok = true ∧ k = k' ∧ a = a' ∧ b = b' ∧ c = c'
def setF (f : Nat → Int) (k : Nat) (v : Int) : Nat → Int := fun i => if i = k then v else f i
/-- How far read's loop is. -/
structure Reading (w wr : World) (S : ByteArray) (ps : List ByteArray) (m : Nat) (j : Nat) (f : Nat → Int) : Prop where
  res : Arr4 wr w.heap.size 25 0 0 0 0
  nums : wr.heap[w.heap.size + 1]? = some (.cells #[.int .i64 (f 0), .int .i64 (f 1), .int .i64 (f 2)] 64 (0, 0))
  words : ∀ i u, ps[i]? = some u → wr.cell? ⟨w.heap.size + 2, i, none⟩ = some (.string u)
  old : Below w.heap.size w wr
  fit : ∀ i, inI (f i)
  rest : ∀ i, j ≤ i → f i = 0
  told : ∀ k a b c, IsText S.data.toList k a b c → ∀ i, i < j → f i = numF a b c i
theorem Reading.on {w wr w1 : World} {S : ByteArray} {ps : List ByteArray} {m j : Nat} {f : Nat → Int} (h : Reading w wr S ps m j f) (hb : Below wr.heap.size wr w1) : Reading w w1 S ps m j f :=
  ⟨h.res.below hb, (hb.block _ (Array.getElem?_eq_some_iff.1 h.nums).1).trans h.nums, fun i u e => (hb.cell (p := ⟨_, i, none⟩) (lt_of_cell (h.words i u e))).trans (h.words i u e), belowOn h.old hb, h.fit, h.rest, h.told⟩
theorem Reading.at {w wr : World} {S : ByteArray} {ps : List ByteArray} {m j : Nat} {f : Nat → Int} (h : Reading w wr S ps m j f) {i : Nat} (hi : i < 3) : wr.cell? ⟨w.heap.size + 1, i, none⟩ = some (.int .i64 (f i)) := by
  have := h.nums
  obtain rfl | rfl | rfl : i = 0 ∨ i = 1 ∨ i = 2 := by omega
  all_goals simp [World.cell?, this]
theorem Reading.free {w wr : World} {S : ByteArray} {ps : List ByteArray} {m j : Nat} {f : Nat → Int} (h : Reading w wr S ps m j f) (i : Nat) : wr.frozen? ⟨w.heap.size + 1, i, none⟩ = false := by
  have := h.nums
  simp [World.frozen?, this]
theorem Reading.set {w wr : World} {S : ByteArray} {ps : List ByteArray} {m j : Nat} {f : Nat → Int} {v : Int} (h : Reading w wr S ps m j f) (hj : j < 3) (hv : inI v) (ht : ∀ k a b c, IsText S.data.toList k a b c → v = numF a b c j) :
    Reading w (wr.setCell ⟨w.heap.size + 1, j, none⟩ (.int .i64 v)) S ps m (j + 1) (setF f j v) := by
  refine ⟨h.res.other (Below.heap_setCell wr _ _ _ (by simp)), ?_, fun i u e => (World.cell?_of_block (Below.heap_setCell wr _ _ _ (by simp))).trans (h.words i u e), h.old.setCell (p := ⟨w.heap.size + 1, j, none⟩) (by simp) _, ?_, ?_, ?_⟩
  · have := h.nums
    obtain rfl | rfl | rfl : j = 0 ∨ j = 1 ∨ j = 2 := by omega
    all_goals simp [World.setCell, Array.getElem?_modify, this, setF]
  · intro i; unfold setF; split
    · exact hv
    · exact h.fit i
  · intro i hi; unfold setF; rw [if_neg (by omega)]; exact h.rest i (by omega)
  · intro k a b c hT i hi
    unfold setF
    split
    · rename_i e; subst e; exact ht k a b c hT
    · exact h.told k a b c hT i (by omega)
def rd0 (w : World) (ps : List ByteArray) (N : Nat) : World := ((w.alloc (.cells #[.int .i64 0, .int .i64 0, .int .i64 0, .int .i64 0] 25)).alloc (.cells #[.int .i64 0, .int .i64 0, .int .i64 0] 64)).alloc (.cells (Lib.cellsOf ps N) 9)
theorem Reading.first (w : World) (S : ByteArray) (ps : List ByteArray) (m N : Nat) : Reading w (rd0 w ps N) S ps m 0 (fun _ => 0) := by
  unfold rd0
  have hx : ∀ (W : World) (o : Obj), (W.alloc o).heap[W.heap.size]? = some o := fun W o => by unfold World.alloc; exact Array.getElem?_push_size
  refine ⟨((Arr4.new w _ 0 0 0 0).below (below_new _ _)).below (below_new _ _), ?_, fun i u e => ?_, below_on (below_on (below_new _ _) _) _, fun _ => by unfold inI; omega, fun _ _ => rfl, fun _ _ _ _ _ i hi => by omega⟩
  · rw [Below.heap_alloc _ _ _ (by simp)]
    have := hx (w.alloc (.cells #[.int .i64 0, .int .i64 0, .int .i64 0, .int .i64 0] 25)) (.cells #[.int .i64 0, .int .i64 0, .int .i64 0] 64)
    simpa using this
  · have e1 : (Lib.cellsOf ps N)[i]? = some (.string u) := by
      unfold Lib.cellsOf
      obtain ⟨hj, _⟩ := List.getElem?_eq_some_iff.1 e
      rw [List.getElem?_toArray, List.getElem?_append_left (by simpa using hj), List.getElem?_map, e]; rfl
    have := World.cell?_alloc_new ((w.alloc (.cells #[.int .i64 0, .int .i64 0, .int .i64 0, .int .i64 0] 25)).alloc (.cells #[.int .i64 0, .int .i64 0, .int .i64 0] 64)) (Lib.cellsOf ps N) 9 i
    rw [e1] at this
    simpa using this
set_option maxHeartbeats 6400000 in
theorem read_c (S : ByteArray) (hs : S.size ≤ 200) (w : World) (hL : LaidP w) : Calls Tryd.prog 31 #[.string S] w (ReadPost w S) := by
  have hb := below_on (below_new w (.cells #[.int .i64 0, .int .i64 0, .int .i64 0, .int .i64 0] 25)) (.cells #[.int .i64 0, .int .i64 0, .int .i64 0] 64)
  obtain ⟨mm, hm⟩ := (hL.below hb).len
  have hsp := Tryd.strings_SplitN S ⟨#[32]⟩ 4 mm _ (by omega) hm (by decide) (by decide) (by decide)
  obtain ⟨p0, r, hp⟩ := splitB_some ⟨#[32]⟩ (min 4 (S.size + 1) - 1) S
  have hle := Lib.splitB_length_le ⟨#[32]⟩ 0 (min 4 (S.size + 1) - 1) S
  have HZ : Hid (∀ p ∈ p0 :: r, p.size ≤ 281474976710656) := Lib.hid (fun p h => by have := splitB_small ⟨#[32]⟩ (min 4 (S.size + 1) - 1) S p (by rw [hp]; exact h); omega)
  have HP : Hid (∀ k a b c, IsText S.data.toList k a b c → p0.data.toList = nmL k.toNat ∧ r.length = (hsL k.toNat).length ∧ ∀ i u, r[i]? = some u → Lib.atoiAll u.data.toList = .ok (numF a b c i)) := Lib.hid (fun k a b c h => h.piece hp)
  have HZ0 : Hid (S.data.toList = [] → p0.data.toList = []) := Lib.hid (fun e => by
    have h0 := splitB_small ⟨#[32]⟩ (min 4 (S.size + 1) - 1) S p0 (by rw [hp]; simp)
    have hz : S.size = 0 := by have := congrArg List.length e; simpa using this
    have h1 : p0.size = 0 := by omega
    exact List.length_eq_zero_iff.1 (by simpa using h1))
  rw [hp] at hsp hle
  have hr3 : r.length ≤ 3 := by simp at hle; omega
  have hcap : r.length + 1 ≤ min 4 (S.size + 1) := by simp at hle; omega
  have H0 := Lib.hid (fun m => Reading.first w S (p0 :: r) m (min 4 (S.size + 1)))
  unfold rd0 at H0
  have hN : min 4 (S.size + 1) ≤ 4 := by omega
  have HN2 : Hid (S.data.toList ≠ [] → ¬ min 4 (S.size + 1) = 1) := Lib.hid (fun h => by
    have : S.size ≠ 0 := fun e => h (List.length_eq_zero_iff.1 (by simpa using e))
    omega)
  generalize min 4 (S.size + 1) = N at *
  have HSP := Lib.hid hsp; have HL := Lib.hid hL
  clear hsp hL hb hm hp
  go_enter Tryd.func31, Tryd.ntmps31
  go_wp2_with fail
  refine HSP.out.mono ?_
  rintro e W ⟨rfl, rfl⟩
  have H1 := Lib.hid (H0.out 0)
  have hw0 := H1.out.words 0 p0 rfl
  clear HSP
  go_wp2_with fail
  refine (kindOf_c p0 _ (HL.out.below H1.out.old).text.rows).mono ?_
  rintro e W ⟨rfl, ⟨m, hm1, hm2, hp0, rfl⟩ | ⟨hno, rfl⟩⟩
  · have HK : Hid (∀ k a b c, IsText S.data.toList k a b c → k = m) := Lib.hid (fun k a b c h => by
      have e := (HP.out k a b c h).1
      rw [hp0] at e
      have hk := h.kind
      unfold okK at hk
      have := nmL_inj (m := m) (m' := k.toNat) ⟨hm1, hm2⟩ (by omega) (by simpa using e)
      omega)
    have HNE : Hid (S.data.toList ≠ []) := Lib.hid (fun e => nmL_ne hm1 hm2 (by have := HZ0.out e; rw [hp0] at this; simpa using this))
    have hN1 := HN2.out HNE.out
    clear H1 hw0 HZ0 HN2
    have H1 := Lib.hid (H0.out m)
    clear H0 hp0
    generalize ((w.alloc (.cells #[.int .i64 0, .int .i64 0, .int .i64 0, .int .i64 0] 25)).alloc (.cells #[.int .i64 0, .int .i64 0, .int .i64 0] 64)).alloc (.cells (Lib.cellsOf (p0 :: r) N) 9) = U at *
    go_wp2_with fail
    go_loopw [27] (fun vi wr => ∃ (j : Nat) (f : Nat → Int), vi = .int .i64 j ∧ j ≤ r.length ∧ Hid (Reading w wr S (p0 :: r) m j f)) (fun vi _ => r.length - (intOf vi).toNat)
    case atStart => exact ⟨0, _, rfl, by omega, H1⟩
    case round =>
      clear H1
      obtain ⟨j, f, rfl, hj, HR⟩ := hrel
      by_cases hlt : j < r.length
      · obtain ⟨u, hu⟩ : ∃ u, r[j]? = some u := ⟨_, List.getElem?_eq_getElem hlt⟩
        have hw : wr.cell? ⟨w.heap.size + 2, 1 + j, none⟩ = some (.string u) := HR.out.words (1 + j) u (by rw [Nat.add_comm]; exact hu)
        have hus := HZ.out u (by simp [List.mem_of_getElem? hu])
        have HU : Hid (∀ k a b c, IsText S.data.toList k a b c → Lib.atoiAll u.data.toList = .ok (numF a b c j)) := Lib.hid (fun k a b c h => (HP.out k a b c h).2.2 j u hu)
        clear hu
        go_wp2_with fail
        refine (atoi_c u hus _ (HL.out.below HR.out.old)).mono ?_
        rintro e W1 ⟨hW, ⟨v, hv, rfl⟩ | ⟨hv, x, t, q, rfl⟩⟩
        · have HR1 := Lib.hid (HR.out.on hW)
          have hc := HR1.out.at (i := j) (by omega)
          have hf := HR1.out.free j
          have HN : Hid (Reading w (W1.setCell ⟨w.heap.size + 1, j, none⟩ (.int .i64 v)) S (p0 :: r) m (j + 1) (setF f j v)) := Lib.hid (HR1.out.set (by omega) (atoi_in hv) (fun k a b c h => by
            have h2 := HU.out k a b c h
            rw [hv] at h2
            cases h2
            rfl))
          clear HR HR1 hw hW hv HU
          go_wp2_with fail
          go_roundw
          case rel => exact ⟨j + 1, _, by go_num, by omega, HN⟩
          case measure => simp [intOf]; omega
        · have HR1 := Lib.hid (HR.out.on hW)
          obtain ⟨r0, r1, r2, r3, rf⟩ := HR1.out.res.cells
          obtain ⟨s0, s1, s2, s3, _⟩ := (HR1.out.res.set4 0 0 0 0).cells
          have HN : Hid (∀ k a b c, ¬ IsText S.data.toList k a b c) := Lib.hid (fun k a b c h => hv _ (HU.out k a b c h))
          have HO := Lib.hid (below_set4 HR1.out.old (.int .i64 0) (.int .i64 0) (.int .i64 0) (.int .i64 0))
          clear HR HR1 hw hW hv HU
          go_wp2_with fail
          refine bodyPost_ret (v := .tuple #[.agg #[.int .i64 0, .int .i64 0, .int .i64 0, .int .i64 0], .bool false]) (by simp [results, Tryd.f31, go_sem, s0, s1, s2, s3]) rfl ?_
          exact ⟨HO.out, 0, 0, 0, 0, false, rfl, by simp, fun k a b c h => absurd h (HN.out k a b c)⟩
      · obtain rfl : j = r.length := by omega
        have c0 := HR.out.at (i := 0) (by omega); have c1 := HR.out.at (i := 1) (by omega); have c2 := HR.out.at (i := 2) (by omega)
        obtain ⟨r0, r1, r2, r3, rf⟩ := HR.out.res.cells
        obtain ⟨s0, s1, s2, s3, _⟩ := (HR.out.res.set4 m (f 0) (f 1) (f 2)).cells
        have HO := Lib.hid (below_set4 HR.out.old (.int .i64 (m : Int)) (.int .i64 (f 0)) (.int .i64 (f 1)) (.int .i64 (f 2)))
        have HFI := Lib.hid HR.out.fit
        have HT : Hid (∀ k a b c, IsText S.data.toList k a b c → f 0 = a ∧ f 1 = b ∧ f 2 = c) := Lib.hid (fun k a b c h => by
          have key : ∀ i, i < 3 → f i = numF a b c i := fun i hi => by
            by_cases e : i < r.length
            · exact HR.out.told k a b c h i e
            · rw [HR.out.rest i (by omega), h.zero hi (by rw [← (HP.out k a b c h).2.1]; omega)]
          exact ⟨key 0 (by omega), key 1 (by omega), key 2 (by omega)⟩)
        have HF0 := Lib.hid (HFI.out 0); have HF1 := Lib.hid (HFI.out 1); have HF2 := Lib.hid (HFI.out 2)
        clear HR HFI HP
        generalize f 0 = f0 at *
        generalize f 1 = f1 at *
        generalize f 2 = f2 at *
        go_wp2_with fail
        refine bodyPost_ret (v := .tuple #[.agg #[.int .i64 (m : Int), .int .i64 f0, .int .i64 f1, .int .i64 f2], .bool true]) (by simp [results, Tryd.f31, go_sem, s0, s1, s2, s3]) rfl ?_
        exact ⟨HO.out, m, f0, f1, f2, true, rfl, fun _ => ⟨HNE.out, HF0.out, HF1.out, HF2.out⟩, fun k a b c h => by
          obtain ⟨e0, e1, e2⟩ := HT.out k a b c h
          exact ⟨rfl, (HK.out k a b c h).symm, e0, e1, e2⟩⟩
  · have HN : Hid (∀ k a b c, ¬ IsText S.data.toList k a b c) := Lib.hid (fun k a b c h => by
      have hk := h.kind
      unfold okK at hk
      exact hno k.toNat (by omega) (by omega) (HP.out k a b c h).1)
    obtain ⟨r0, r1, r2, r3, rf⟩ := H1.out.res.cells
    obtain ⟨s0, s1, s2, s3, _⟩ := (H1.out.res.set4 0 0 0 0).cells
    have HO := Lib.hid (below_set4 H1.out.old (.int .i64 0) (.int .i64 0) (.int .i64 0) (.int .i64 0))
    clear H0 H1 hno HP hw0
    generalize ((w.alloc (.cells #[.int .i64 0, .int .i64 0, .int .i64 0, .int .i64 0] 25)).alloc (.cells #[.int .i64 0, .int .i64 0, .int .i64 0] 64)).alloc (.cells (Lib.cellsOf (p0 :: r) N) 9) = U at *
    go_wp2_with fail
    refine bodyPost_ret (v := .tuple #[.agg #[.int .i64 0, .int .i64 0, .int .i64 0, .int .i64 0], .bool false]) (by simp [results, Tryd.f31, go_sem, s0, s1, s2, s3]) rfl ?_
    exact ⟨HO.out, 0, 0, 0, 0, false, rfl, by simp, fun k a b c h => absurd h (HN.out k a b c)⟩
end Go.Proofs.YtaiioflhkmflgaaDoor
