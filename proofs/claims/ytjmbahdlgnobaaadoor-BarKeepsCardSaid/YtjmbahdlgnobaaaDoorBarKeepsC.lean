/- BarKeeps: a pick of the collector. -/
import Derived.Test.YtjmbahdlgnobaaaDoorBarKeepsI
import Derived.Test.YtjmbahdlgnobaaaDoorM4
import Derived.Test.YtjmbahdlgnobaaaDoorBarKeepsA
import Derived.Test.YtjmbahdlgnobaaaDoorShutPure
import Derived.Test.YtjmbahdlgnobaaaDoorBytes
import Derived.Test.YtjmbahdlgnobaaaDoorHandNew
import Derived.Deep.CutRange
import Derived.Deep.CutBlock
namespace Go.Proofs.YtjmbahdlgnobaaaDoor
open Go Go.RowKit
set_option maxRecDepth 100000
attribute [local go_sem ↓] Go.wp_at_zero Go.wp_at_succ

set_option maxHeartbeats 12800000 in
theorem bk_col {w wr : World} {H A G R S T B k q st : Nat} {cl : Bool} {ln kd rs : Nat → Int} {s : Dy} {l j xc m xa p : Int} {fd : Bool} {tl cy : Int} (hk5 : 1 ≤ k ∧ k ≤ 5) (HS : Hid (SpansAt w)) (HQ : Hid (BkW w wr ⟨H, A, G, R, S, B, T⟩ k ln kd rs s ⟨l, j, xc, m, xa, p, fd, tl, cy⟩)) (HKS : Hid (KpSt k cl ln kd s)) (HCO : Hid (BkCo k cl ln s ⟨l, j, xc, m, xa, p, fd, tl, cy⟩)) (HXU : Hid ((⟨l, j, xc, m, xa, p, fd, tl, cy⟩ : Co).U ∧ -1000000 ≤ (⟨l, j, xc, m, xa, p, fd, tl, cy⟩ : Co).m ∧ (⟨l, j, xc, m, xa, p, fd, tl, cy⟩ : Co).m ≤ 1000000)) (HRS : Hid (∀ j, 0 ≤ rs j ∧ rs j ≤ 3)) {b74 : Bool} (hb : b74 = true) {x0 x1 x3 x4 x5 x6 x9 x14 x16 x17 x18 x19 x20 x21 x22 x23 x24 x25 x26 x27 x28 x29 x30 x31 x32 x33 x34 x35 x36 x37 x38 x39 x40 x41 x42 x43 x44 x45 x46 x47 x48 x49 x50 x51 x52 x53 x54 x55 x56 x57 x58 x59 x60 x61 x62 x63 x64 x65 x66 x67 x68 x69 x70 x71 x72 x73 x75 x76 x77 x78 x79 x80 x81 x82 x83 x84 x85 x86 x87 x88 x89 x90 x91 x92 x93 x94 x95 x96 x97 x98 x99 x100 x101 x102 x103 x104 x105 x106 x107 x108 x109 x110 x111 x112 x113 x114 x115 x116 x117 x118 x119 x120 x121 x122 x123 x124 x125 x126 x127 x128 x129 x130 x131 x132 x133 x134 x135 x136 x137 x138 x139 x140 x141 x142 x143 x144 x145 x146 x147 x148 x149 x150 x151 x152 x153 x154 x155 x156 x157 x158 x159 x160 x161 x162 x163 x164 x165 x166 x167 x168 x169 x170 x171 x172 x173 x174 x175 x176 x177 x178 x179 x180 x181 x182 x183 x184 x185 x186 x187 x188 x189 x190 x191 x192 x193 x194 x195 x196 x197 x198 x199 x200 x201 x202 x203 x204 x205 x206 x207 x208 x209 x210 x211 x212 x213 x214 : Value} {J K' : Act → World → Prop} {Q' : Exit → Act → World → Prop} (hJ : ∀ (a' : Act) (w' : World), (∃ u6 u16 u17 u18 u19 u20 u21 u22 u58 u59 u60 u61 u62 u63 u64 u65 u66 u67 u68 u69 u70 u71 u72 u73 u74 u75 u76 u77 u78 u79 u80 u81 u82 u83 u84 u85 u86 u87 u88 u89 u90 u91 u92 u93 u94 u95 u96 u97 u98 u99 u100 u101 u102 u103 u104 u105 u106 u107 u108 u109 u110 u111 u112 u113 u114 u115 u116 u117 u118 u119 u120 u121 u122 u123 u124 u125 u126 u127 u128 u129 u130 u131 u132 u133 u134 u135 u136 u137 u138 u139 u140 u141 u142 u143 u144 u145 u146 u147 u148 u149 u150 u151 u152 u153 u154 u155 u156 u157 u158 u159 u160 u161 u162 u163 u164 u165 u166 u167 u168 u169 u170 u171 u172 u173 u174 u175 u176 u177 u178 u179 u180 u181 u182 u183 u184 u185 u186 u187 u188 u189 u190 u191 u192 u193 u194 u195 u196 u197 u198 u199 u200 u201 u202 u203 u204 u205 u206 u207 u208 u209 u210 u211 u212 u213 u214 : Value, (∃ (cl2 : Bool) (ln2 kd2 rs2 : Nat → Int) (s2 : Dy) (x2 : Co), Hid (BkW w w' ⟨H, A, G, R, S, B, T⟩ k ln2 kd2 rs2 s2 x2) ∧ Hid (KpSt k cl2 ln2 kd2 s2) ∧ Hid (BkCo k cl2 ln2 s2 x2) ∧ Hid (x2.U ∧ -1000000 ≤ x2.m ∧ x2.m ≤ 1000000) ∧ Hid (∀ j, 0 ≤ rs2 j ∧ rs2 j ≤ 3)) ∧ a' = (⟨List.toArray (x0 :: x1 :: (.int .u8 (st : Int)) :: x3 :: x4 :: x5 :: u6 :: (.int .i64 (k : Int)) :: (.pointer (some ⟨H, 0, none⟩)) :: x9 :: (.slice (some ⟨R, 0, none⟩) k k) :: (.slice (some ⟨S, 0, none⟩) k k) :: (.pointer (some ⟨B, 0, none⟩)) :: (.slice (some ⟨T, 0, none⟩) k k) :: x14 :: (.int .i64 (q : Int)) :: u16 :: u17 :: u18 :: u19 :: u20 :: u21 :: u22 :: x23 :: x24 :: x25 :: x26 :: x27 :: x28 :: x29 :: x30 :: x31 :: x32 :: x33 :: x34 :: x35 :: x36 :: x37 :: x38 :: x39 :: x40 :: x41 :: x42 :: x43 :: x44 :: x45 :: x46 :: x47 :: x48 :: x49 :: x50 :: x51 :: x52 :: x53 :: x54 :: x55 :: x56 :: x57 :: u58 :: u59 :: u60 :: u61 :: u62 :: u63 :: u64 :: u65 :: u66 :: u67 :: u68 :: u69 :: u70 :: u71 :: u72 :: u73 :: u74 :: u75 :: u76 :: u77 :: u78 :: u79 :: u80 :: u81 :: u82 :: u83 :: u84 :: u85 :: u86 :: u87 :: u88 :: u89 :: u90 :: u91 :: u92 :: u93 :: u94 :: u95 :: u96 :: u97 :: u98 :: u99 :: u100 :: u101 :: u102 :: u103 :: u104 :: u105 :: u106 :: u107 :: u108 :: u109 :: u110 :: u111 :: u112 :: u113 :: u114 :: u115 :: u116 :: u117 :: u118 :: u119 :: u120 :: u121 :: u122 :: u123 :: u124 :: u125 :: u126 :: u127 :: u128 :: u129 :: u130 :: u131 :: u132 :: u133 :: u134 :: u135 :: u136 :: u137 :: u138 :: u139 :: u140 :: u141 :: u142 :: u143 :: u144 :: u145 :: u146 :: u147 :: u148 :: u149 :: u150 :: u151 :: u152 :: u153 :: u154 :: u155 :: u156 :: u157 :: u158 :: u159 :: u160 :: u161 :: u162 :: u163 :: u164 :: u165 :: u166 :: u167 :: u168 :: u169 :: u170 :: u171 :: u172 :: u173 :: u174 :: u175 :: u176 :: u177 :: u178 :: u179 :: u180 :: u181 :: u182 :: u183 :: u184 :: u185 :: u186 :: u187 :: u188 :: u189 :: u190 :: u191 :: u192 :: u193 :: u194 :: u195 :: u196 :: u197 :: u198 :: u199 :: u200 :: u201 :: u202 :: u203 :: u204 :: u205 :: u206 :: u207 :: u208 :: u209 :: u210 :: u211 :: u212 :: u213 :: u214 :: []), []⟩ : Act)) → J a' w') (hK' : ∀ (a' : Act) (w' : World), Met J a' w' → K' a' w') :
    Code.wp Tryd.prog bkIf (Exit.then K' Q') ⟨List.toArray (x0 :: x1 :: (.int .u8 (st : Int)) :: x3 :: x4 :: x5 :: x6 :: (.int .i64 (k : Int)) :: (.pointer (some ⟨H, 0, none⟩)) :: x9 :: (.slice (some ⟨R, 0, none⟩) k k) :: (.slice (some ⟨S, 0, none⟩) k k) :: (.pointer (some ⟨B, 0, none⟩)) :: (.slice (some ⟨T, 0, none⟩) k k) :: x14 :: (.int .i64 (q : Int)) :: x16 :: x17 :: x18 :: x19 :: x20 :: x21 :: x22 :: x23 :: x24 :: x25 :: x26 :: x27 :: x28 :: x29 :: x30 :: x31 :: x32 :: x33 :: x34 :: x35 :: x36 :: x37 :: x38 :: x39 :: x40 :: x41 :: x42 :: x43 :: x44 :: x45 :: x46 :: x47 :: x48 :: x49 :: x50 :: x51 :: x52 :: x53 :: x54 :: x55 :: x56 :: x57 :: x58 :: x59 :: x60 :: x61 :: x62 :: x63 :: x64 :: x65 :: x66 :: x67 :: x68 :: x69 :: x70 :: x71 :: x72 :: x73 :: (.bool b74) :: x75 :: x76 :: x77 :: x78 :: x79 :: x80 :: x81 :: x82 :: x83 :: x84 :: x85 :: x86 :: x87 :: x88 :: x89 :: x90 :: x91 :: x92 :: x93 :: x94 :: x95 :: x96 :: x97 :: x98 :: x99 :: x100 :: x101 :: x102 :: x103 :: x104 :: x105 :: x106 :: x107 :: x108 :: x109 :: x110 :: x111 :: x112 :: x113 :: x114 :: x115 :: x116 :: x117 :: x118 :: x119 :: x120 :: x121 :: x122 :: x123 :: x124 :: x125 :: x126 :: x127 :: x128 :: x129 :: x130 :: x131 :: x132 :: x133 :: x134 :: x135 :: x136 :: x137 :: x138 :: x139 :: x140 :: x141 :: x142 :: x143 :: x144 :: x145 :: x146 :: x147 :: x148 :: x149 :: x150 :: x151 :: x152 :: x153 :: x154 :: x155 :: x156 :: x157 :: x158 :: x159 :: x160 :: x161 :: x162 :: x163 :: x164 :: x165 :: x166 :: x167 :: x168 :: x169 :: x170 :: x171 :: x172 :: x173 :: x174 :: x175 :: x176 :: x177 :: x178 :: x179 :: x180 :: x181 :: x182 :: x183 :: x184 :: x185 :: x186 :: x187 :: x188 :: x189 :: x190 :: x191 :: x192 :: x193 :: x194 :: x195 :: x196 :: x197 :: x198 :: x199 :: x200 :: x201 :: x202 :: x203 :: x204 :: x205 :: x206 :: x207 :: x208 :: x209 :: x210 :: x211 :: x212 :: x213 :: x214 :: []), []⟩ wr := by
  subst hb
  have HKS0 := HKS; have HCO0 := HCO
  unfold bkIf
  conv => arg 2; whnf
  obtain ⟨a0, a1, a2, a3, a4, a5, a6, a7, a8, af⟩ := HQ.out.cells9
  dsimp only at a0 a1 a2 a3 a4 a5 a6 a7 a8 af
  go_upto_region 18 with fail
  go_cut [82] from 58 to 214 (fun v82 wx => ∃ b3 : Bool, v82 = .bool b3 ∧ (b3 = true ↔ l = 3 ∨ l = 20) ∧ Hid (BkW w wx ⟨H, A, G, R, S, B, T⟩ k ln kd rs s ⟨l, j, xc, m, xa, p, fd, tl, cy⟩))
  case first =>
    by_cases h3 : l = 3
    · subst h3
      go_wp2_with fail
      go_meet
      case rel => exact ⟨true, rfl, by simp, HQ⟩
    have e3 : (l == 3) = false := by simpa using h3
    by_cases h20 : l = 20
    · subst h20
      go_wp2_with fail
      go_meet
      case rel => exact ⟨true, rfl, by simp, HQ⟩
    have e20 : (l == 20) = false := by simpa using h20
    go_wp2_with fail
    go_meet
    case rel => exact ⟨false, rfl, by simp [h3, h20], HQ⟩
  case rest =>
    clear HQ a0 a1 a2 a3 a4 a5 a6 a7 a8 af
    obtain ⟨b3, rfl, hb3, HQ⟩ := hcut
    generalize wc = wr at *
    obtain ⟨a0, a1, a2, a3, a4, a5, a6, a7, a8, af⟩ := HQ.out.cells9
    dsimp only at a0 a1 a2 a3 a4 a5 a6 a7 a8 af
    go_upto_if 82 with fail
    go_cut [] from 58 to 214 (fun wx => ∃ x0 : Co, Hid (BkW w wx ⟨H, A, G, R, S, B, T⟩ k ln kd rs s x0) ∧ Hid (BkCo k cl ln s x0) ∧ Hid ((x0 : Co).U ∧ -1000000 ≤ (x0 : Co).m ∧ (x0 : Co).m ≤ 1000000) ∧ Hid ((x0 : Co).l ≠ 3 ∧ (x0 : Co).l ≠ 20))
    case first =>
      cases b3
      · go_wp2_with fail
        go_meet
        case rel => exact ⟨⟨l, j, xc, m, xa, p, fd, tl, cy⟩, HQ, HCO, HXU, Lib.hid ⟨fun e => (by have := hb3.2 (.inl e); cases this), fun e => (by have := hb3.2 (.inr e); cases this)⟩⟩
      · have h320 := hb3.1 rfl
        have hcl : cl = false := by
          rcases HCO.out with ⟨a, _⟩ | ⟨a, _⟩ | ⟨a, _⟩ | ⟨a, _⟩ | ⟨a, _⟩ | ⟨_, a⟩
          · dsimp only at a; omega
          · dsimp only at a; omega
          · dsimp only at a; omega
          · dsimp only at a; omega
          · dsimp only at a; omega
          · exact a
        have HQ1 : Hid (BkW w ((wr.setCell ⟨B, 0, none⟩ (.int .i64 10)).setCell ⟨B, 3, none⟩ (.int .i64 0)) ⟨H, A, G, R, S, B, T⟩ k ln kd rs s ⟨10, j, xc, 0, xa, p, fd, tl, cy⟩) := Lib.hid HQ.out.anew
        have HCO1 : Hid (BkCo k cl ln s ⟨10, j, xc, 0, xa, p, fd, tl, cy⟩) := Lib.hid (.inl ⟨rfl, hcl, Int.le_refl 0, by show (0 : Int) < k; omega, fun j hj => absurd hj (by show ¬ (j : Int) < 0; omega)⟩)
        have HXU1 : Hid ((⟨10, j, xc, 0, xa, p, fd, tl, cy⟩ : Co).U ∧ -1000000 ≤ (⟨10, j, xc, 0, xa, p, fd, tl, cy⟩ : Co).m ∧ (⟨10, j, xc, 0, xa, p, fd, tl, cy⟩ : Co).m ≤ 1000000) := Lib.hid ⟨HXU.out.1, by dsimp only; omega⟩
        clear HCO HXU hcl HQ
        go_wp2_with fail
        generalize ((wr.setCell ⟨B, 0, none⟩ (.int .i64 10)).setCell ⟨B, 3, none⟩ (.int .i64 0)) = W9 at *
        go_meet
        case rel => exact ⟨⟨10, j, xc, 0, xa, p, fd, tl, cy⟩, HQ1, HCO1, HXU1, Lib.hid (by dsimp only; omega)⟩
    case rest =>
      clear HQ HCO HXU HKS0 HCO0 hb3 a0 a1 a2 a3 a4 a5 a6 a7 a8 af
      obtain ⟨⟨l, j, xc, m, xa, p, fd, tl, cy⟩, HQ1, HCO1, HXU1, hl10⟩ := hcut
      have hl10 := hl10.out
      try dsimp only at HQ1
      obtain ⟨a0, a1, a2, a3, a4, a5, a6, a7, a8, af⟩ := HQ1.out.cells9
      dsimp only at a0 a1 a2 a3 a4 a5 a6 a7 a8 af
      by_cases h11 : l = 11
      · subst h11
        obtain ⟨s', x', fl, cl', hst, hK, hCO, hw⟩ := BkCo.col hk5 HKS.out HCO1.out hl10
        have hsu := HKS.out.1
        have hcb : -1000000000000 ≤ (⟨11, j, xc, m, xa, p, fd, tl, cy⟩ : Co).m ∧ (⟨11, j, xc, m, xa, p, fd, tl, cy⟩ : Co).m ≤ 1000000000000 := by have := HXU1.out.2; omega
        have HST : Hid (∀ W, BkW w W ⟨H, A, G, R, S, B, T⟩ k ln kd rs s ⟨11, j, xc, m, xa, p, fd, tl, cy⟩ → Calls Tryd.prog 11 #[.pointer (some ⟨H, 0, none⟩), (colV 11 j xc m xa p fd tl cy)] W (HP W H A G (CK k) s' (.tuple #[x'.v, .bool fl, .bool true]))) := Lib.hid (fun W h => by
          have := bar17_c (w := W) h.hand hsu (HS.out.below h.old) (rightK hk5) (by dsimp only; omega) ⟨11, j, xc, m, xa, p, fd, tl, cy⟩ HXU1.out.1 hcb
          rw [hst] at this
          exact this)
        have hu2 := (shutS_U hsu (C := CK k) ⟨11, j, xc, m, xa, p, fd, tl, cy⟩ HXU1.out.1).2
        have hm2 := shutS_m (C := CK k) (s := s) (x := ⟨11, j, xc, m, xa, p, fd, tl, cy⟩) HXU1.out.2 (by dsimp only; omega)
        rw [hst] at hu2 hm2
        have HXU2 := Lib.hid (And.intro hu2 hm2)
        have HK2 := Lib.hid hK
        have HCO2 := Lib.hid hCO
        have HRS2 := HRS
        have HWn := Lib.hid (hw rfl)
        clear hst hK hCO hw hsu hcb hu2 hm2 HKS HCO1 HXU1 hl10 HRS
        obtain ⟨l', j', xc', m', xa', p', fd', tl', cy'⟩ := x'
        try dsimp only at HST
        go_wp2_with fail
        clear a0 a1 a2 a3 a4 a5 a6 a7 a8 af
        refine (HST.out _ HQ1.out).mono ?_
        rintro e V hp
        obtain ⟨rfl, hQ⟩ := HQ1.out.act hp
        have hBl : B < V.heap.size := hQ.lt (.inr (.inr (.inr (.inr (.inr (.inl rfl))))))
        have hBn : B ≠ V.heap.size := by omega
        have HQ2 := Lib.hid (hQ.below (below_new V (.cells #[.int .i64 l', .int .i64 j', .int .i64 xc', .int .i64 m', .int .u64 xa', .int .u64 p', .bool fd', .int .i64 tl', .int .i64 cy'] 28)))
        have HY2 : Hid (CoAt (V.alloc (.cells #[.int .i64 l', .int .i64 j', .int .i64 xc', .int .i64 m', .int .u64 xa', .int .u64 p', .bool fd', .int .i64 tl', .int .i64 cy'] 28)) V.heap.size ⟨l', j', xc', m', xa', p', fd', tl', cy'⟩) := Lib.hid (Col9.new V l' j' xc' m' xa' p' fd' tl' cy')
        have hap := hQ.apart (Nat.le_refl V.heap.size)
        clear hp hQ HQ1 HST
        obtain ⟨b0, b1, b2, b3, b4, b5, b6, b7, b8, bf⟩ := HQ2.out.cells9
        dsimp only at b0 b1 b2 b3 b4 b5 b6 b7 b8 bf
        go_wp2_with fail
        clear b0 b1 b2 b3 b4 b5 b6 b7 b8 bf hBl hBn
        generalize V.alloc (.cells #[.int .i64 l', .int .i64 j', .int .i64 xc', .int .i64 m', .int .u64 xa', .int .u64 p', .bool fd', .int .i64 tl', .int .i64 cy'] 28) = V3 at *
        generalize V.heap.size = Y at *
        go_loopw [19] (fun vj wr => ∃ jj : Nat, vj = .int .i64 jj ∧ jj ≤ k ∧ Hid (BkW w wr ⟨H, A, G, R, S, B, T⟩ k ln kd rs s' ⟨11, j, xc, m, xa, p, fd, tl, cy⟩) ∧ Hid (CoAt wr Y ⟨l', j', xc', m', xa', p', fd', tl', cy'⟩)) (fun vj _ => k - (intOf vj).toNat)
        case atStart => exact ⟨0, rfl, by omega, HQ2, HY2⟩
        case round =>
          clear HQ2 HY2
          obtain ⟨jj, rfl, hj, HQ4, HY4⟩ := hrel
          by_cases hjk : jj < k
          · have hno := HWn.out jj hjk
            have h4 : (ln jj == 4) = false := by simp; omega
            have h5 : (ln jj == 5) = false := by simp; omega
            have a0 := (HQ4.out.row.cells hjk).1
            dsimp only at a0
            clear hno
            generalize ln jj = lj at a0 h4 h5
            have hjI : (jj : Int) < (k : Int) := by omega
            have hj0 : (0 : Int) ≤ (jj : Int) := by omega
            have hj1 : IntKind.i64.wrap ((jj : Int) + 1) = (jj : Int) + 1 := IntWalk.i64_in _ (by omega)
            go_wp2_with fail
            go_roundw
            case rel => exact ⟨jj + 1, by go_num, by omega, HQ4, HY4⟩
            case measure => simp [intOf]; omega
          have hjf : decide ((jj : Int) < (k : Int)) = false := decide_eq_false (by omega)
          have hYB : Y ≠ B := fun e => hap.1 (e ▸ .inr (.inr (.inr (.inr (.inr (.inl rfl))))))
          obtain ⟨b0, b1, b2, b3, b4, b5, b6, b7, b8, bf⟩ := HQ4.out.cells9
          dsimp only at b0 b1 b2 b3 b4 b5 b6 b7 b8 bf
          obtain ⟨c0, c1, c2, c3, c4, c5, c6, c7, c8, cf⟩ := HY4.out.cells
          dsimp only at c0 c1 c2 c3 c4 c5 c6 c7 c8 cf
          go_wp2_with fail
          have HQ3 : Hid (BkW w (((((((((wr.setCell ⟨B, 0, none⟩ (.int .i64 l')).setCell ⟨B, 1, none⟩ (.int .i64 j')).setCell ⟨B, 2, none⟩ (.int .i64 xc')).setCell ⟨B, 3, none⟩ (.int .i64 m')).setCell ⟨B, 4, none⟩ (.int .u64 xa')).setCell ⟨B, 5, none⟩ (.int .u64 p')).setCell ⟨B, 6, none⟩ (.bool fd')).setCell ⟨B, 7, none⟩ (.int .i64 tl')).setCell ⟨B, 8, none⟩ (.int .i64 cy')) ⟨H, A, G, R, S, B, T⟩ k ln kd rs s' ⟨l', j', xc', m', xa', p', fd', tl', cy'⟩) := Lib.hid (HQ4.out.putX ⟨l', j', xc', m', xa', p', fd', tl', cy'⟩)
          clear HQ4 HY4 HWn hap hYB hjf hjk hj b0 b1 b2 b3 b4 b5 b6 b7 b8 bf c0 c1 c2 c3 c4 c5 c6 c7 c8 cf
          generalize (((((((((wr.setCell ⟨B, 0, none⟩ (.int .i64 l')).setCell ⟨B, 1, none⟩ (.int .i64 j')).setCell ⟨B, 2, none⟩ (.int .i64 xc')).setCell ⟨B, 3, none⟩ (.int .i64 m')).setCell ⟨B, 4, none⟩ (.int .u64 xa')).setCell ⟨B, 5, none⟩ (.int .u64 p')).setCell ⟨B, 6, none⟩ (.bool fd')).setCell ⟨B, 7, none⟩ (.int .i64 tl')).setCell ⟨B, 8, none⟩ (.int .i64 cy')) = W6 at *
          go_meet
          case rel => exact ⟨cl', ln, kd, rs, s', ⟨l', j', xc', m', xa', p', fd', tl', cy'⟩, HQ3, HK2, HCO2, HXU2, HRS2⟩
      have e11 : (l == 11) = false := by simpa using h11
      clear h11
      obtain ⟨s', x', fl, cl', hst, hK, hCO, hw⟩ := BkCo.col hk5 HKS.out HCO1.out hl10
      have hsu := HKS.out.1
      have hcb : -1000000000000 ≤ (⟨l, j, xc, m, xa, p, fd, tl, cy⟩ : Co).m ∧ (⟨l, j, xc, m, xa, p, fd, tl, cy⟩ : Co).m ≤ 1000000000000 := by have := HXU1.out.2; omega
      have HST : Hid (∀ W, BkW w W ⟨H, A, G, R, S, B, T⟩ k ln kd rs s ⟨l, j, xc, m, xa, p, fd, tl, cy⟩ → Calls Tryd.prog 11 #[.pointer (some ⟨H, 0, none⟩), (colV l j xc m xa p fd tl cy)] W (HP W H A G (CK k) s' (.tuple #[x'.v, .bool fl, .bool true]))) := Lib.hid (fun W h => by
        have := bar17_c (w := W) h.hand hsu (HS.out.below h.old) (rightK hk5) (by dsimp only; omega) ⟨l, j, xc, m, xa, p, fd, tl, cy⟩ HXU1.out.1 hcb
        rw [hst] at this
        exact this)
      have hu2 := (shutS_U hsu (C := CK k) ⟨l, j, xc, m, xa, p, fd, tl, cy⟩ HXU1.out.1).2
      have hm2 := shutS_m (C := CK k) (s := s) (x := ⟨l, j, xc, m, xa, p, fd, tl, cy⟩) HXU1.out.2 (by dsimp only; omega)
      rw [hst] at hu2 hm2
      have HXU2 := Lib.hid (And.intro hu2 hm2)
      have HK2 := Lib.hid hK
      have HCO2 := Lib.hid hCO
      have HRS2 := HRS
      have HWn := Lib.hid hw
      clear hst hK hCO hw hsu hcb hu2 hm2 HKS HCO1 HXU1 hl10 HRS
      obtain ⟨l', j', xc', m', xa', p', fd', tl', cy'⟩ := x'
      try dsimp only at HST
      go_wp2_with fail
      clear a0 a1 a2 a3 a4 a5 a6 a7 a8 af
      refine (HST.out _ HQ1.out).mono ?_
      rintro e V hp
      obtain ⟨rfl, hQ⟩ := HQ1.out.act hp
      have hBl : B < V.heap.size := hQ.lt (.inr (.inr (.inr (.inr (.inr (.inl rfl))))))
      have hBn : B ≠ V.heap.size := by omega
      have HQ2 := Lib.hid hQ
      clear hp hQ HQ1 HST HWn
      obtain ⟨b0, b1, b2, b3, b4, b5, b6, b7, b8, bf⟩ := HQ2.out.cells9
      dsimp only at b0 b1 b2 b3 b4 b5 b6 b7 b8 bf
      go_wp2_with fail
      have HQ3 : Hid (BkW w ((((((((((V.setCell ⟨B, 0, none⟩ (.int .i64 l')).setCell ⟨B, 1, none⟩ (.int .i64 j')).setCell ⟨B, 2, none⟩ (.int .i64 xc')).setCell ⟨B, 3, none⟩ (.int .i64 m')).setCell ⟨B, 4, none⟩ (.int .u64 xa')).setCell ⟨B, 5, none⟩ (.int .u64 p')).setCell ⟨B, 6, none⟩ (.bool fd')).setCell ⟨B, 7, none⟩ (.int .i64 tl')).setCell ⟨B, 8, none⟩ (.int .i64 cy')).alloc (.cells #[.int .i64 l', .int .i64 j', .int .i64 xc', .int .i64 m', .int .u64 xa', .int .u64 p', .bool fd', .int .i64 tl', .int .i64 cy'] 28)) ⟨H, A, G, R, S, B, T⟩ k ln kd rs s' ⟨l', j', xc', m', xa', p', fd', tl', cy'⟩) := Lib.hid ((HQ2.out.putX ⟨l', j', xc', m', xa', p', fd', tl', cy'⟩).below (below_new _ (.cells #[.int .i64 l', .int .i64 j', .int .i64 xc', .int .i64 m', .int .u64 xa', .int .u64 p', .bool fd', .int .i64 tl', .int .i64 cy'] 28)))
      clear HQ2 b0 b1 b2 b3 b4 b5 b6 b7 b8 bf
      generalize (((((((((V.setCell ⟨B, 0, none⟩ (.int .i64 l')).setCell ⟨B, 1, none⟩ (.int .i64 j')).setCell ⟨B, 2, none⟩ (.int .i64 xc')).setCell ⟨B, 3, none⟩ (.int .i64 m')).setCell ⟨B, 4, none⟩ (.int .u64 xa')).setCell ⟨B, 5, none⟩ (.int .u64 p')).setCell ⟨B, 6, none⟩ (.bool fd')).setCell ⟨B, 7, none⟩ (.int .i64 tl')).setCell ⟨B, 8, none⟩ (.int .i64 cy')).alloc (.cells #[.int .i64 l', .int .i64 j', .int .i64 xc', .int .i64 m', .int .u64 xa', .int .u64 p', .bool fd', .int .i64 tl', .int .i64 cy'] 28) = W6 at *
      go_meet
      case rel => exact ⟨cl', ln, kd, rs, s', ⟨l', j', xc', m', xa', p', fd', tl', cy'⟩, HQ3, HK2, HCO2, HXU2, HRS2⟩
end Go.Proofs.YtjmbahdlgnobaaaDoor
