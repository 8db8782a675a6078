/- BarKeeps: a pick of a mutator. -/
import Derived.Test.YtjmbahdlgnobaaaDoorBarKeepsM1
import Derived.Test.YtjmbahdlgnobaaaDoorM4
import Derived.Test.YtjmbahdlgnobaaaDoorBarKeepsA
import Derived.Test.YtjmbahdlgnobaaaDoorShutPure
import Derived.Test.YtjmbahdlgnobaaaDoorBytes
import Derived.Test.YtjmbahdlgnobaaaDoorHandNew
import Derived.Deep.CutRange
import Derived.Deep.CutBlock
namespace Go.Proofs.YtjmbahdlgnobaaaDoor
open Go Go.RowKit
set_option maxRecDepth 100000
attribute [local go_sem ↓] Go.wp_at_zero Go.wp_at_succ

set_option maxHeartbeats 12800000 in
theorem bk_mut {w wr : World} {H A G R S T B k q st : Nat} {cl : Bool} {ln kd rs : Nat → Int} {s : Dy} {l j xc m xa p : Int} {fd : Bool} {tl cy : Int} (hk5 : 1 ≤ k ∧ k ≤ 5) (HS : Hid (SpansAt w)) (HQ : Hid (BkW w wr ⟨H, A, G, R, S, B, T⟩ k ln kd rs s ⟨l, j, xc, m, xa, p, fd, tl, cy⟩)) (HKS : Hid (KpSt k cl ln kd s)) (HCO : Hid (BkCo k cl ln s ⟨l, j, xc, m, xa, p, fd, tl, cy⟩)) (HXU : Hid ((⟨l, j, xc, m, xa, p, fd, tl, cy⟩ : Co).U ∧ -1000000 ≤ (⟨l, j, xc, m, xa, p, fd, tl, cy⟩ : Co).m ∧ (⟨l, j, xc, m, xa, p, fd, tl, cy⟩ : Co).m ≤ 1000000)) (HRS : Hid (∀ j, 0 ≤ rs j ∧ rs j ≤ 3)) (hst6 : st < 256) (hm : q < k) (hnr : ¬ (ln q = 24 ∧ 0 < rs q)) {b74 : Bool} (hb : b74 = false) {x0 x1 x3 x4 x5 x6 x9 x14 x16 x17 x18 x19 x20 x21 x22 x23 x24 x25 x26 x27 x28 x29 x30 x31 x32 x33 x34 x35 x36 x37 x38 x39 x40 x41 x42 x43 x44 x45 x46 x47 x48 x49 x50 x51 x52 x53 x54 x55 x56 x57 x58 x59 x60 x61 x62 x63 x64 x65 x66 x67 x68 x69 x70 x71 x72 x73 x75 x76 x77 x78 x79 x80 x81 x82 x83 x84 x85 x86 x87 x88 x89 x90 x91 x92 x93 x94 x95 x96 x97 x98 x99 x100 x101 x102 x103 x104 x105 x106 x107 x108 x109 x110 x111 x112 x113 x114 x115 x116 x117 x118 x119 x120 x121 x122 x123 x124 x125 x126 x127 x128 x129 x130 x131 x132 x133 x134 x135 x136 x137 x138 x139 x140 x141 x142 x143 x144 x145 x146 x147 x148 x149 x150 x151 x152 x153 x154 x155 x156 x157 x158 x159 x160 x161 x162 x163 x164 x165 x166 x167 x168 x169 x170 x171 x172 x173 x174 x175 x176 x177 x178 x179 x180 x181 x182 x183 x184 x185 x186 x187 x188 x189 x190 x191 x192 x193 x194 x195 x196 x197 x198 x199 x200 x201 x202 x203 x204 x205 x206 x207 x208 x209 x210 x211 x212 x213 x214 : Value} {J K' : Act → World → Prop} {Q' : Exit → Act → World → Prop} (hJ : ∀ (a' : Act) (w' : World), (∃ u6 u16 u17 u18 u19 u20 u21 u22 u58 u59 u60 u61 u62 u63 u64 u65 u66 u67 u68 u69 u70 u71 u72 u73 u74 u75 u76 u77 u78 u79 u80 u81 u82 u83 u84 u85 u86 u87 u88 u89 u90 u91 u92 u93 u94 u95 u96 u97 u98 u99 u100 u101 u102 u103 u104 u105 u106 u107 u108 u109 u110 u111 u112 u113 u114 u115 u116 u117 u118 u119 u120 u121 u122 u123 u124 u125 u126 u127 u128 u129 u130 u131 u132 u133 u134 u135 u136 u137 u138 u139 u140 u141 u142 u143 u144 u145 u146 u147 u148 u149 u150 u151 u152 u153 u154 u155 u156 u157 u158 u159 u160 u161 u162 u163 u164 u165 u166 u167 u168 u169 u170 u171 u172 u173 u174 u175 u176 u177 u178 u179 u180 u181 u182 u183 u184 u185 u186 u187 u188 u189 u190 u191 u192 u193 u194 u195 u196 u197 u198 u199 u200 u201 u202 u203 u204 u205 u206 u207 u208 u209 u210 u211 u212 u213 u214 : Value, (∃ (cl2 : Bool) (ln2 kd2 rs2 : Nat → Int) (s2 : Dy) (x2 : Co), Hid (BkW w w' ⟨H, A, G, R, S, B, T⟩ k ln2 kd2 rs2 s2 x2) ∧ Hid (KpSt k cl2 ln2 kd2 s2) ∧ Hid (BkCo k cl2 ln2 s2 x2) ∧ Hid (x2.U ∧ -1000000 ≤ x2.m ∧ x2.m ≤ 1000000) ∧ Hid (∀ j, 0 ≤ rs2 j ∧ rs2 j ≤ 3)) ∧ a' = (⟨List.toArray (x0 :: x1 :: (.int .u8 (st : Int)) :: x3 :: x4 :: x5 :: u6 :: (.int .i64 (k : Int)) :: (.pointer (some ⟨H, 0, none⟩)) :: x9 :: (.slice (some ⟨R, 0, none⟩) k k) :: (.slice (some ⟨S, 0, none⟩) k k) :: (.pointer (some ⟨B, 0, none⟩)) :: (.slice (some ⟨T, 0, none⟩) k k) :: x14 :: (.int .i64 (q : Int)) :: u16 :: u17 :: u18 :: u19 :: u20 :: u21 :: u22 :: x23 :: x24 :: x25 :: x26 :: x27 :: x28 :: x29 :: x30 :: x31 :: x32 :: x33 :: x34 :: x35 :: x36 :: x37 :: x38 :: x39 :: x40 :: x41 :: x42 :: x43 :: x44 :: x45 :: x46 :: x47 :: x48 :: x49 :: x50 :: x51 :: x52 :: x53 :: x54 :: x55 :: x56 :: x57 :: u58 :: u59 :: u60 :: u61 :: u62 :: u63 :: u64 :: u65 :: u66 :: u67 :: u68 :: u69 :: u70 :: u71 :: u72 :: u73 :: u74 :: u75 :: u76 :: u77 :: u78 :: u79 :: u80 :: u81 :: u82 :: u83 :: u84 :: u85 :: u86 :: u87 :: u88 :: u89 :: u90 :: u91 :: u92 :: u93 :: u94 :: u95 :: u96 :: u97 :: u98 :: u99 :: u100 :: u101 :: u102 :: u103 :: u104 :: u105 :: u106 :: u107 :: u108 :: u109 :: u110 :: u111 :: u112 :: u113 :: u114 :: u115 :: u116 :: u117 :: u118 :: u119 :: u120 :: u121 :: u122 :: u123 :: u124 :: u125 :: u126 :: u127 :: u128 :: u129 :: u130 :: u131 :: u132 :: u133 :: u134 :: u135 :: u136 :: u137 :: u138 :: u139 :: u140 :: u141 :: u142 :: u143 :: u144 :: u145 :: u146 :: u147 :: u148 :: u149 :: u150 :: u151 :: u152 :: u153 :: u154 :: u155 :: u156 :: u157 :: u158 :: u159 :: u160 :: u161 :: u162 :: u163 :: u164 :: u165 :: u166 :: u167 :: u168 :: u169 :: u170 :: u171 :: u172 :: u173 :: u174 :: u175 :: u176 :: u177 :: u178 :: u179 :: u180 :: u181 :: u182 :: u183 :: u184 :: u185 :: u186 :: u187 :: u188 :: u189 :: u190 :: u191 :: u192 :: u193 :: u194 :: u195 :: u196 :: u197 :: u198 :: u199 :: u200 :: u201 :: u202 :: u203 :: u204 :: u205 :: u206 :: u207 :: u208 :: u209 :: u210 :: u211 :: u212 :: u213 :: u214 :: []), []⟩ : Act)) → J a' w') (hK' : ∀ (a' : Act) (w' : World), Met J a' w' → K' a' w') :
    Code.wp Tryd.prog bkIf (Exit.then K' Q') ⟨List.toArray (x0 :: x1 :: (.int .u8 (st : Int)) :: x3 :: x4 :: x5 :: x6 :: (.int .i64 (k : Int)) :: (.pointer (some ⟨H, 0, none⟩)) :: x9 :: (.slice (some ⟨R, 0, none⟩) k k) :: (.slice (some ⟨S, 0, none⟩) k k) :: (.pointer (some ⟨B, 0, none⟩)) :: (.slice (some ⟨T, 0, none⟩) k k) :: x14 :: (.int .i64 (q : Int)) :: x16 :: x17 :: x18 :: x19 :: x20 :: x21 :: x22 :: x23 :: x24 :: x25 :: x26 :: x27 :: x28 :: x29 :: x30 :: x31 :: x32 :: x33 :: x34 :: x35 :: x36 :: x37 :: x38 :: x39 :: x40 :: x41 :: x42 :: x43 :: x44 :: x45 :: x46 :: x47 :: x48 :: x49 :: x50 :: x51 :: x52 :: x53 :: x54 :: x55 :: x56 :: x57 :: x58 :: x59 :: x60 :: x61 :: x62 :: x63 :: x64 :: x65 :: x66 :: x67 :: x68 :: x69 :: x70 :: x71 :: x72 :: x73 :: (.bool b74) :: x75 :: x76 :: x77 :: x78 :: x79 :: x80 :: x81 :: x82 :: x83 :: x84 :: x85 :: x86 :: x87 :: x88 :: x89 :: x90 :: x91 :: x92 :: x93 :: x94 :: x95 :: x96 :: x97 :: x98 :: x99 :: x100 :: x101 :: x102 :: x103 :: x104 :: x105 :: x106 :: x107 :: x108 :: x109 :: x110 :: x111 :: x112 :: x113 :: x114 :: x115 :: x116 :: x117 :: x118 :: x119 :: x120 :: x121 :: x122 :: x123 :: x124 :: x125 :: x126 :: x127 :: x128 :: x129 :: x130 :: x131 :: x132 :: x133 :: x134 :: x135 :: x136 :: x137 :: x138 :: x139 :: x140 :: x141 :: x142 :: x143 :: x144 :: x145 :: x146 :: x147 :: x148 :: x149 :: x150 :: x151 :: x152 :: x153 :: x154 :: x155 :: x156 :: x157 :: x158 :: x159 :: x160 :: x161 :: x162 :: x163 :: x164 :: x165 :: x166 :: x167 :: x168 :: x169 :: x170 :: x171 :: x172 :: x173 :: x174 :: x175 :: x176 :: x177 :: x178 :: x179 :: x180 :: x181 :: x182 :: x183 :: x184 :: x185 :: x186 :: x187 :: x188 :: x189 :: x190 :: x191 :: x192 :: x193 :: x194 :: x195 :: x196 :: x197 :: x198 :: x199 :: x200 :: x201 :: x202 :: x203 :: x204 :: x205 :: x206 :: x207 :: x208 :: x209 :: x210 :: x211 :: x212 :: x213 :: x214 :: []), []⟩ wr := by
  subst hb
  have HKS0 := HKS; have HCO0 := HCO
  unfold bkIf
  conv => arg 2; whnf
  have hnr0 := hnr
  have hqI : (q : Int) < (k : Int) := by omega
  have hq0 : (0 : Int) ≤ (q : Int) := by omega
  obtain ⟨ly, s', hg, hK, ho, hbk, hkd, g1, g2, g3, g4⟩ := bk_step hk5 HKS.out hm
  have HK2 := Lib.hid hK
  have HCO2 := Lib.hid (HCO.out.mut (ln := ln) (m := q) (ly := ly) ho g1 g2 g3 g4)
  have hsu := HKS.out.1
  obtain ⟨a0, a1, a2, a3, a4, a5, a6, a7, a8, a9, a10, a11, a12⟩ := HQ.out.row.cells hm
  dsimp only at a0 a1 a2 a3 a4 a5 a6 a7 a8 a9 a10 a11 a12
  clear hK ho hbk g1 g2 g3 g4
  generalize hLL : ln q = L at hg hkd a0 hnr0
  generalize kd q = Q at hkd a1
  obtain ⟨lx, hlx⟩ : ∃ lx, goL1 (goL0 L) = lx := ⟨_, rfl⟩
  rw [hlx] at hg
  have HG : Hid (∀ W, SpansAt W → HAt W H A G (CK k) s → Calls Tryd.prog 16 #[.pointer (some ⟨H, 0, none⟩), .int .i64 (q : Int), (mL lx).v] W (HP W H A G (CK k) s' (.tuple #[(mL ly).v, .bool true]))) := Lib.hid (fun W k1 k2 => by
    have := gate_c (w := W) k2 hsu k1 (q : Int) (mL lx) (by dsimp only; omega)
    rw [hg] at this
    exact this)
  have HBG := Lib.hid (gBegin_c 11 0 0 0)
  have hx := Mut13.new wr L 0 0 Q 0 0 0 0 0 0 0 0 0
  have HQ0 := Lib.hid (HQ.out.below (below_new wr (.cells #[.int .i64 L, .int .i64 Q, .int .i64 0, .int .i64 0, .int .i64 0, .int .u64 0, .int .u64 0, .int .u64 0, .int .u64 0, .int .u64 0, .int .u64 0, .int .i64 0, .int .i64 0] 49)))
  have hap := HQ.out.apart (Nat.le_refl wr.heap.size)
  have HM0 := Lib.hid hx
  clear hx hg hsu HKS HCO HQ
  go_upto_block 4 with fail
  clear a0 a1 a2 a3 a4 a5 a6 a7 a8 a9 a10 a11 a12
  generalize wr.alloc (.cells #[.int .i64 L, .int .i64 Q, .int .i64 0, .int .i64 0, .int .i64 0, .int .u64 0, .int .u64 0, .int .u64 0, .int .u64 0, .int .u64 0, .int .u64 0, .int .i64 0, .int .i64 0] 49) = V at *
  generalize wr.heap.size = X at *
  go_cut [] from 58 to 214 (fun wx => Hid (BkW w wx ⟨H, A, G, R, S, B, T⟩ k ln kd rs s ⟨l, j, xc, m, xa, p, fd, tl, cy⟩) ∧ Hid (MuAt wx X (mL lx)))
  case first =>
    rename_i J0 K0 hJ0 hK0
    exact bk_m1 (J := J0) (K' := K0) hm hqI hq0 hlx hkd hap hnr0 HRS HQ0 HM0 hJ0 hK0
  case rest =>
    clear HQ0 HM0 HBG hlx hkd hnr0 hnr
    obtain ⟨HQ1, HM1⟩ := hcut
    obtain ⟨a0, a1, a2, a3, a4, a5, a6, a7, a8, a9, a10, a11, a12, af⟩ := HM1.out.cells
    go_wp2_with fail
    clear a0 a1 a2 a3 a4 a5 a6 a7 a8 a9 a10 a11 a12 af
    refine (HG.out _ (HS.out.below HQ1.out.old) HQ1.out.hand).mono ?_
    rintro e V2 hp
    obtain ⟨rfl, hQ⟩ := HQ1.out.act hp
    have HQ2 := Lib.hid (hQ.below (below_new V2 (.cells #[.int .i64 ly, .int .i64 11, .int .i64 0, .int .i64 0, .int .i64 0, .int .u64 0, .int .u64 0, .int .u64 0, .int .u64 0, .int .u64 0, .int .u64 0, .int .i64 0, .int .i64 0] 49)))
    have HY2 : Hid (MuAt (V2.alloc (.cells #[.int .i64 ly, .int .i64 11, .int .i64 0, .int .i64 0, .int .i64 0, .int .u64 0, .int .u64 0, .int .u64 0, .int .u64 0, .int .u64 0, .int .u64 0, .int .i64 0, .int .i64 0] 49)) V2.heap.size (mL ly)) := Lib.hid (Mut13.new V2 ly 0 0 11 0 0 0 0 0 0 0 0 0)
    have hap2 := hQ.apart (Nat.le_refl V2.heap.size)
    clear hp hQ HQ1 HM1 HG hap
    go_upto_region 40 with fail
    generalize V2.alloc (.cells #[.int .i64 ly, .int .i64 11, .int .i64 0, .int .i64 0, .int .i64 0, .int .u64 0, .int .u64 0, .int .u64 0, .int .u64 0, .int .u64 0, .int .u64 0, .int .i64 0, .int .i64 0] 49) = V3 at *
    generalize V2.heap.size = Y at *
    have hYS : Y ≠ S := (fun e => hap2.1 (e ▸ (.inr (.inr (.inr (.inr (.inl rfl)))))))
    have hYT : Y ≠ T := (fun e => hap2.1 (e ▸ (.inr (.inr (.inr (.inr (.inr (.inr rfl))))))))
    have hYR : Y ≠ R := (fun e => hap2.1 (e ▸ (.inr (.inr (.inr (.inl rfl))))))
    have hok := HQ2.out.ok
    have hRS : R ≠ S := hok.dR.2.2.2.1
    have hRT : R ≠ T := hok.dR.2.2.2.2.2
    have hST : S ≠ T := hok.dS.2.2.2.2
    clear hap2 hok
    obtain ⟨e0, e1, e2, e3, e4, e5, e6, e7, e8, e9, e10, e11, e12, ef⟩ := HY2.out.cells
    go_upto_if 166 with fail
    clear e0 e1 e2 e3 e4 e5 e6 e7 e8 e9 e10 e11 e12 ef
    go_cut [] from 58 to 214 (fun wx => ∃ rs2 : Nat → Int, Hid (BkW w wx ⟨H, A, G, R, S, B, T⟩ k ln kd rs2 s' ⟨l, j, xc, m, xa, p, fd, tl, cy⟩) ∧ Hid (MuAt wx Y (mL ly)) ∧ Hid (∀ j, 0 ≤ rs2 j ∧ rs2 j ≤ 3))
    case first =>
      obtain ⟨c0, c1, c2, c3, c4, c5, c6, c7, c8, c9, c10, c11, c12, cf⟩ := HY2.out.cells
      by_cases h24 : ly = 24
      · subst h24
        have hst4 : (0 : Int) ≤ (st : Int) % 4 ∧ (st : Int) % 4 ≤ 3 := by omega
        have crf := HQ2.out.rest.frozen q
        have crc := HQ2.out.rest.cell hm
        dsimp only at crf crc
        have HQ3 : Hid (BkW w (V3.setCell ⟨S, q, none⟩ (.int .i64 ((st : Int) % 4))) ⟨H, A, G, R, S, B, T⟩ k ln kd (upd rs q ((st : Int) % 4)) s' ⟨l, j, xc, m, xa, p, fd, tl, cy⟩) := Lib.hid (HQ2.out.setRest q ((st : Int) % 4))
        have HY3 : Hid (MuAt (V3.setCell ⟨S, q, none⟩ (.int .i64 ((st : Int) % 4))) Y (mL 24)) := Lib.hid (Mut13.other HY2.out (Below.heap_setCell _ _ _ _ hYS))
        have HRS2 : Hid (∀ j, 0 ≤ upd rs q ((st : Int) % 4) j ∧ upd rs q ((st : Int) % 4) j ≤ 3) := Lib.hid (fun j => by unfold upd; split; exact hst4; exact HRS.out j)
        generalize upd rs q ((st : Int) % 4) = rs2 at *
        go_wp2_with fail
        generalize (V3.setCell ⟨S, q, none⟩ (.int .i64 ((st : Int) % 4))) = W6 at *
        go_meet
        case rel => exact ⟨rs2, HQ3, HY3, HRS2⟩
      have n24 : (ly == 24) = false := by simpa using h24
      clear h24
      go_wp2_with fail
      go_meet
      case rel => exact ⟨rs, HQ2, HY2, HRS⟩
    case rest =>
      clear HQ2 HY2 HRS
      obtain ⟨rs2, HQ2, HY2, HRS2⟩ := hcut
      obtain ⟨c0, c1, c2, c3, c4, c5, c6, c7, c8, c9, c10, c11, c12, cf⟩ := HY2.out.cells
      go_upto_region 42 with fail
      go_cut [180] from 58 to 214 (fun v180 wx => ∃ bw : Bool, v180 = .bool bw ∧ Hid (BkW w wx ⟨H, A, G, R, S, B, T⟩ k ln kd rs2 s' ⟨l, j, xc, m, xa, p, fd, tl, cy⟩) ∧ Hid (MuAt wx Y (mL ly)))
      case first =>
        by_cases h4 : ly = 4
        · subst h4
          go_wp2_with fail
          go_meet
          case rel => exact ⟨false, rfl, HQ2, HY2⟩
        by_cases h5 : ly = 5
        · subst h5
          go_wp2_with fail
          go_meet
          case rel => exact ⟨false, rfl, HQ2, HY2⟩
        have n4 : (ly != 4) = true := by simpa using h4
        have n5 : (ly != 5) = true := by simpa using h5
        clear h4 h5
        go_wp2_with fail
        go_meet
        case rel => exact ⟨true, rfl, HQ2, HY2⟩
      case rest =>
        clear HQ2 HY2 c0 c1 c2 c3 c4 c5 c6 c7 c8 c9 c10 c11 c12 cf
        obtain ⟨bw, rfl, HQ2, HY2⟩ := hcut
        generalize wc = WV at *
        have cwf := HQ2.out.waits.frozen q
        have cwc := HQ2.out.waits.cell hm
        dsimp only at cwf cwc
        go_upto_if 180 with fail
        go_cut [] from 58 to 214 (fun wx => Hid (BkW w wx ⟨H, A, G, R, S, B, T⟩ k ln kd rs2 s' ⟨l, j, xc, m, xa, p, fd, tl, cy⟩) ∧ Hid (MuAt wx Y (mL ly)))
        case first =>
          cases bw
          · go_wp2_with fail
            go_meet
            case rel => exact ⟨HQ2, HY2⟩
          · have HQ4 : Hid (BkW w (WV.setCell ⟨T, q, none⟩ (.int .i64 0)) ⟨H, A, G, R, S, B, T⟩ k ln kd rs2 s' ⟨l, j, xc, m, xa, p, fd, tl, cy⟩) := Lib.hid (HQ2.out.setWait q)
            have HY4 : Hid (MuAt (WV.setCell ⟨T, q, none⟩ (.int .i64 0)) Y (mL ly)) := Lib.hid (Mut13.other HY2.out (Below.heap_setCell _ _ _ _ hYT))
            go_wp2_with fail
            generalize (WV.setCell ⟨T, q, none⟩ (.int .i64 0)) = W7 at *
            go_meet
            case rel => exact ⟨HQ4, HY4⟩
        case rest =>
          clear HQ2 HY2 cwf cwc
          obtain ⟨HQ4, HY4⟩ := hcut
          generalize wc = WW at *
          obtain ⟨c0, c1, c2, c3, c4, c5, c6, c7, c8, c9, c10, c11, c12, cf⟩ := HY4.out.cells
          obtain ⟨r0, r1, r2, r3, r4, r5, r6, r7, r8, r9, r10, r11, r12⟩ := HQ4.out.row.cells hm
          have rf := HQ4.out.row.frozen
          dsimp only at rf r0 r1 r2 r3 r4 r5 r6 r7 r8 r9 r10 r11 r12
          have HQ6 : Hid (BkW w (((((((((((((WW.setCell ⟨R, q * 13, none⟩ (.int .i64 ly)).setCell ⟨R, q * 13 + 1, none⟩ (.int .i64 11)).setCell ⟨R, q * 13 + 2, none⟩ (.int .i64 0)).setCell ⟨R, q * 13 + 3, none⟩ (.int .i64 0)).setCell ⟨R, q * 13 + 4, none⟩ (.int .i64 0)).setCell ⟨R, q * 13 + 5, none⟩ (.int .u64 0)).setCell ⟨R, q * 13 + 6, none⟩ (.int .u64 0)).setCell ⟨R, q * 13 + 7, none⟩ (.int .u64 0)).setCell ⟨R, q * 13 + 8, none⟩ (.int .u64 0)).setCell ⟨R, q * 13 + 9, none⟩ (.int .u64 0)).setCell ⟨R, q * 13 + 10, none⟩ (.int .u64 0)).setCell ⟨R, q * 13 + 11, none⟩ (.int .i64 0)).setCell ⟨R, q * 13 + 12, none⟩ (.int .i64 0)) ⟨H, A, G, R, S, B, T⟩ k (upd ln q ly) (upd kd q 11) rs2 s' ⟨l, j, xc, m, xa, p, fd, tl, cy⟩) := Lib.hid (HQ4.out.putM q ly 11)
          generalize upd ln q ly = ln2 at *
          generalize upd kd q 11 = kd2 at *
          go_wp2_with fail
          generalize (((((((((((((WW.setCell ⟨R, q * 13, none⟩ (.int .i64 ly)).setCell ⟨R, q * 13 + 1, none⟩ (.int .i64 11)).setCell ⟨R, q * 13 + 2, none⟩ (.int .i64 0)).setCell ⟨R, q * 13 + 3, none⟩ (.int .i64 0)).setCell ⟨R, q * 13 + 4, none⟩ (.int .i64 0)).setCell ⟨R, q * 13 + 5, none⟩ (.int .u64 0)).setCell ⟨R, q * 13 + 6, none⟩ (.int .u64 0)).setCell ⟨R, q * 13 + 7, none⟩ (.int .u64 0)).setCell ⟨R, q * 13 + 8, none⟩ (.int .u64 0)).setCell ⟨R, q * 13 + 9, none⟩ (.int .u64 0)).setCell ⟨R, q * 13 + 10, none⟩ (.int .u64 0)).setCell ⟨R, q * 13 + 11, none⟩ (.int .i64 0)).setCell ⟨R, q * 13 + 12, none⟩ (.int .i64 0)) = W6 at *
          go_meet
          case rel => exact ⟨cl, ln2, kd2, rs2, s', ⟨l, j, xc, m, xa, p, fd, tl, cy⟩, HQ6, HK2, HCO2, HXU, HRS2⟩
end Go.Proofs.YtjmbahdlgnobaaaDoor
