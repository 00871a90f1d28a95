/-
  DERIVED. THE WALKS of the law's Bytes: its loops (made by mkscrbytes.py).
-/
import Derived.Test.YtbbfmlehddfneaaGreatPkBytR
import Derived.Test.YtbbfmlehddfneaaGreatPkBytC
import Derived.Test.YtbbfmlehddfneaaGreatPkChk
import Derived.Test.YtbbfmlehddfneaaGreatPkAt
import Derived.Deep.CutBlock
namespace Go.Proofs.YtbbfmlehddfneaaGreat
open Go.RowKit
set_option linter.unusedVariables false
set_option maxRecDepth 100000 in
set_option maxHeartbeats 4000000 in
theorem byt_b8 (f0 f1 f2 f4 f5 f6 f7 f8 f9 f10 f11 f12 f13 f14 f15 f16 f17 f18 f19 f20 f21 f22 f23 f24 f25 f26 f27 f28 f29 f30 f31 f32 f33 f34 f35 f36 f37 f38 f39 f40 f41 f42 f43 f44 f45 f46 f47 f48 f49 f50 f51 f52 f53 f54 f55 f56 f57 f58 f59 f60 f61 f62 f63 f64 f65 f66 f67 f68 f69 f70 f71 f72 f73 f74 f75 f76 f77 f78 f79 f80 f81 f82 f83 f84 f85 f86 f87 f88 f89 f93 f94 f95 f96 f97 f98 f99 f100 f101 f102 f103 f104 f105 f106 f107 f108 f109 f110 f111 f112 f113 f114 f115 f116 f117 f118 f119 f120 f121 f122 f123 f124 f125 f126 f127 f128 f129 f130 f131 f132 f133 f134 f135 f136 f137 f138 f139 f140 f141 f142 f143 f144 f145 f146 f147 f148 f149 f150 f151 f152 f153 f154 f155 f156 f157 f158 f159 f160 f161 f162 f163 f164 f165 f166 f167 f168 f169 f170 f171 f172 f173 f174 f175 f176 f177 f178 f179 f180 f181 f182 f183 f184 f185 f186 f187 f188 f189 : Value) (w0 : World) (xa : Option Addr) (xc : Nat) (xs : List In) (w : World) (base p : Nat) (l : List Int) (F : List Nat) (hP : Buf w base p l F) (hl : l.length ≤ 790000) (h0 : w0.heap.size ≤ base) (hx : Ext w0 w) (hA : PArr w0 (.slice xa xs.length xc) xs) (hok : ∀ x ∈ xs, x.ok) (hxs : xs.length ≤ 24) {Q : Exit → Act → World → Prop}
    (hQ : ∀ (c15 c92 c93 c94 c95 c96 c97 c98 c99 c100 c101 c102 c103 c104 c105 c106 c107 c108 c109 c110 c111 c112 : Value) (F' : List Nat) (wx : World), Buf wx base p (l ++ xs.flatMap encI) F' → Step F F' w wx → Q .normal ⟨(f0 :: f1 :: f2 :: Value.pointer (some ⟨p, 0, none⟩) :: f4 :: f5 :: f6 :: f7 :: f8 :: f9 :: f10 :: f11 :: f12 :: f13 :: f14 :: c15 :: f16 :: f17 :: f18 :: f19 :: f20 :: f21 :: f22 :: f23 :: f24 :: f25 :: f26 :: f27 :: f28 :: f29 :: f30 :: f31 :: f32 :: f33 :: f34 :: f35 :: f36 :: f37 :: f38 :: f39 :: f40 :: f41 :: f42 :: f43 :: f44 :: f45 :: f46 :: f47 :: f48 :: f49 :: f50 :: f51 :: f52 :: f53 :: f54 :: f55 :: f56 :: f57 :: f58 :: f59 :: f60 :: f61 :: f62 :: f63 :: f64 :: f65 :: f66 :: f67 :: f68 :: f69 :: f70 :: f71 :: f72 :: f73 :: f74 :: f75 :: f76 :: f77 :: f78 :: f79 :: f80 :: f81 :: f82 :: f83 :: f84 :: f85 :: f86 :: f87 :: f88 :: f89 :: Value.slice xa xs.length xc :: Value.int .i64 (xs.length : Int) :: c92 :: c93 :: c94 :: c95 :: c96 :: c97 :: c98 :: c99 :: c100 :: c101 :: c102 :: c103 :: c104 :: c105 :: c106 :: c107 :: c108 :: c109 :: c110 :: c111 :: c112 :: f113 :: f114 :: f115 :: f116 :: f117 :: f118 :: f119 :: f120 :: f121 :: f122 :: f123 :: f124 :: f125 :: f126 :: f127 :: f128 :: f129 :: f130 :: f131 :: f132 :: f133 :: f134 :: f135 :: f136 :: f137 :: f138 :: f139 :: f140 :: f141 :: f142 :: f143 :: f144 :: f145 :: f146 :: f147 :: f148 :: f149 :: f150 :: f151 :: f152 :: f153 :: f154 :: f155 :: f156 :: f157 :: f158 :: f159 :: f160 :: f161 :: f162 :: f163 :: f164 :: f165 :: f166 :: f167 :: f168 :: f169 :: f170 :: f171 :: f172 :: f173 :: f174 :: f175 :: f176 :: f177 :: f178 :: f179 :: f180 :: f181 :: f182 :: f183 :: f184 :: f185 :: f186 :: f187 :: f188 :: f189 :: List.nil).toArray, []⟩ wx) :
    Code.wp Tryz.prog (.block 8 (blockOf Tryz.f11 8)) Q ⟨(f0 :: f1 :: f2 :: Value.pointer (some ⟨p, 0, none⟩) :: f4 :: f5 :: f6 :: f7 :: f8 :: f9 :: f10 :: f11 :: f12 :: f13 :: f14 :: f15 :: f16 :: f17 :: f18 :: f19 :: f20 :: f21 :: f22 :: f23 :: f24 :: f25 :: f26 :: f27 :: f28 :: f29 :: f30 :: f31 :: f32 :: f33 :: f34 :: f35 :: f36 :: f37 :: f38 :: f39 :: f40 :: f41 :: f42 :: f43 :: f44 :: f45 :: f46 :: f47 :: f48 :: f49 :: f50 :: f51 :: f52 :: f53 :: f54 :: f55 :: f56 :: f57 :: f58 :: f59 :: f60 :: f61 :: f62 :: f63 :: f64 :: f65 :: f66 :: f67 :: f68 :: f69 :: f70 :: f71 :: f72 :: f73 :: f74 :: f75 :: f76 :: f77 :: f78 :: f79 :: f80 :: f81 :: f82 :: f83 :: f84 :: f85 :: f86 :: f87 :: f88 :: f89 :: Value.slice xa xs.length xc :: Value.int .i64 (xs.length : Int) :: Value.int .i64 0 :: f93 :: f94 :: f95 :: f96 :: f97 :: f98 :: f99 :: f100 :: f101 :: f102 :: f103 :: f104 :: f105 :: f106 :: f107 :: f108 :: f109 :: f110 :: f111 :: f112 :: f113 :: f114 :: f115 :: f116 :: f117 :: f118 :: f119 :: f120 :: f121 :: f122 :: f123 :: f124 :: f125 :: f126 :: f127 :: f128 :: f129 :: f130 :: f131 :: f132 :: f133 :: f134 :: f135 :: f136 :: f137 :: f138 :: f139 :: f140 :: f141 :: f142 :: f143 :: f144 :: f145 :: f146 :: f147 :: f148 :: f149 :: f150 :: f151 :: f152 :: f153 :: f154 :: f155 :: f156 :: f157 :: f158 :: f159 :: f160 :: f161 :: f162 :: f163 :: f164 :: f165 :: f166 :: f167 :: f168 :: f169 :: f170 :: f171 :: f172 :: f173 :: f174 :: f175 :: f176 :: f177 :: f178 :: f179 :: f180 :: f181 :: f182 :: f183 :: f184 :: f185 :: f186 :: f187 :: f188 :: f189 :: List.nil).toArray, []⟩ w := by
  have hFb : ∀ b ∈ F, w0.heap.size ≤ b := fun b hb => Nat.le_trans h0 (hP.lt b hb).1
  have HFb := Lib.hid hFb
  have HQ := Lib.hid hQ
  clear hFb hQ
  change Code.wp Tryz.prog (.block 8 (Code.loop _)) _ _ _
  go_wp2_with fail
  have HA := Lib.hid hA
  have HOK := Lib.hid hok
  clear hA hok
  have hfl := fun (j : Nat) => flat_len (e := encI) (b := 14) (l := xs.take j) (fun x hx => Nat.le_trans (encI_len (HOK.out x (List.mem_of_mem_take hx))) (by omega))
  go_loopg [92] xs.length (fun k iv wr => ∃ (j : Nat) (F' : List Nat), j + k = xs.length ∧ iv = .int .i64 j ∧ Buf wr base p (l ++ (xs.take j).flatMap encI) F' ∧ Step F F' w wr)
  case atStart => exact ⟨0, F, by omega, by simp, by simpa using hP, Step.refl _ _⟩
  case round =>
    obtain ⟨j, F8, hjk, rfl, P8, s8⟩ := hrel
    have e8 := s8.ext hx HFb.out
    have hflj := hfl j
    have htl : (xs.take j).length ≤ 24 := by simp; omega
    by_cases hj : j < xs.length
    · have hjI : (j : Int) < (xs.length : Int) := by omega
      obtain ⟨g, off, x, e0, -, hxj, c0, c1, c2, c3, c4⟩ := (HA.out.ext e8).nth j hj
      cases e0
      have hxo := HOK.out x (List.mem_of_getElem? hxj)
      have HX := Lib.hid (show (xs.take (j + 1)).flatMap encI = (xs.take j).flatMap encI ++ encI x by rw [List.take_add_one, hxj]; simp)
      have R3 : wr.rangeAt g (off + j * 5) x.cells := fun i u hu => by
        match i, hu with
        | 0, hu => simpa [In.cells] using c0.trans (by simpa [In.cells] using hu)
        | 1, hu => simpa [In.cells] using c1.trans (by simpa [In.cells] using hu)
        | 2, hu => simpa [In.cells] using c2.trans (by simpa [In.cells] using hu)
        | 3, hu => simpa [In.cells] using c3.trans (by simpa [In.cells] using hu)
        | 4, hu => simpa [In.cells] using c4.trans (by simpa [In.cells] using hu)
        | i + 5, hu => simp [In.cells] at hu
      have Bz := Blk.new wr #[.int .u8 0, .int .u8 0, .int .u8 0, .int .u8 0, .int .i16 0] 54
      have Bs := Bz.setRow x.cells.toArray
      have e2 : Ext wr ((wr.alloc (.cells #[.int .u8 0, .int .u8 0, .int .u8 0, .int .u8 0, .int .i16 0] 54)).setRow wr.heap.size x.cells.toArray) := ((Ext.refl wr).alloc _ _).setRow (Nat.le_refl _) _
      have hone : x.cells.toArray.all (·.oneCell') = true := by simp [In.cells, Value.oneCell']
      have hzl : x.cells.length = 5 := rfl
      clear hxj c0 c1 c2 c3 c4
      go_upto_region 28 with (first
        | refine wpList_load_mid rfl 54 (.tmp 94) rfl g (off + j * 5) rfl x.cells _ R3 Tryz.underlying54 rfl (by kernel_rfl) ?_
        | ((with_reducible refine wpList_store_blk (op := ⟨none, .store 54 (.tmp 15) (.tmp 95), _, _, _, _⟩) ?_ 54 (.tmp 15) (.tmp 95) ?_ wr.heap.size ?_ (cs := x.cells.toArray) ?_ (z := #[.int .u8 0, .int .u8 0, .int .u8 0, .int .u8 0, .int .i16 0]) (T := 54) ?_ ?_ ?_ ?_ ?_); rfl; rfl; rfl; rfl; exact Bz; (rw [List.size_toArray, hzl]; kernel_rfl); exact hone; (simp [hzl]))
        | fail)
      have hn7 : wr.heap.size ∉ F8 := fun h => by have := (P8.lt _ h).2; omega
      have P9 := P8.ext e2
      have s9 := s8.trans (Step.of_ext (F := F8) e2)
      clear R3 Bz hone hzl P8 s8 e2 e8
      generalize (wr.alloc (.cells #[.int .u8 0, .int .u8 0, .int .u8 0, .int .u8 0, .int .i16 0] 54)).setRow wr.heap.size x.cells.toArray = w9 at *
      generalize wr.heap.size = b15 at *
      refine byt_r28 _ _ _ _ _ _ _ _ _ _ _ _ _ _ _ _ _ _ _ _ _ _ _ _ _ _ _ _ _ _ _ _ _ _ _ _ _ _ _ _ _ _ _ _ _ _ _ _ _ _ _ _ _ _ _ _ _ _ _ _ _ _ _ _ _ _ _ _ _ _ _ _ _ _ _ _ _ _ _ _ _ _ _ _ _ _ _ _ _ _ _ _ _ _ _ _ _ _ _ _ _ _ _ _ _ _ _ _ _ _ _ _ _ _ _ _ _ _ _ _ _ _ _ _ _ _ _ _ _ _ _ _ _ _ _ _ _ _ _ _ _ _ _ _ _ _ _ _ _ _ _ _ _ _ _ _ _ _ _ _ _ _ _ _ _ _ _ _ _ _ _ _ _ _ _ _ _ _ _ _ _ _ _ _ _ _ _ _ b15 x _ _ _ _ _ P9 (by simp only [List.length_append]; omega) Bs hxo hn7 ?_
      intro d96 d97 d98 d99 d100 d101 d102 d103 d104 d105 d106 d107 d108 d109 d110 d111 F10 w10 P10 s10
      go_wp2
      go_roundg (gk - 1)
      case measure => omega
      case rel => exact ⟨j + 1, F10, by omega, by simp, by rw [HX.out, ← List.append_assoc]; exact P10, s9.trans s10⟩
    · obtain rfl : j = xs.length := by omega
      rw [List.take_length] at P8
      go_wp2
      exact HQ.out _ _ _ _ _ _ _ _ _ _ _ _ _ _ _ _ _ _ _ _ _ _ _ _ P8 s8
set_option maxRecDepth 100000 in
set_option maxHeartbeats 4000000 in
theorem byt_b12 (f0 f1 f2 f4 f6 f7 f8 f9 f10 f11 f12 f13 f14 f15 f16 f17 f18 f19 f20 f21 f22 f23 f24 f25 f26 f27 f28 f29 f30 f31 f32 f33 f34 f35 f36 f37 f38 f39 f40 f41 f42 f43 f44 f45 f46 f47 f48 f49 f50 f51 f52 f53 f54 f55 f56 f57 f58 f59 f60 f61 f62 f63 f64 f65 f66 f67 f68 f69 f70 f71 f72 f73 f74 f75 f76 f77 f78 f79 f80 f81 f82 f83 f84 f85 f86 f87 f88 f89 f90 f91 f92 f93 f94 f95 f96 f97 f98 f99 f100 f101 f102 f103 f104 f105 f106 f107 f108 f109 f110 f111 f112 f113 f114 f115 f116 f117 f118 f119 f120 f121 f122 f123 f124 f125 f126 f127 f128 f129 f130 f131 f132 f133 f134 f135 f136 f137 f138 f139 f140 f141 f142 f143 f144 f145 f146 f147 f148 f149 f150 f151 f152 f153 f154 f155 f156 f157 f158 f159 f160 f161 f162 f163 f164 f165 f166 f167 f168 f169 f170 f171 f172 f173 f174 f175 f176 f177 f181 f182 f183 f184 f185 f186 f187 f188 f189 : Value) (w0 : World) (xa : Option Addr) (xc : Nat) (xs : List Int) (w : World) (base p : Nat) (l : List Int) (F : List Nat) (hP : Buf w base p l F) (hl : l.length ≤ 750000) (h0 : w0.heap.size ≤ base) (hx : Ext w0 w) (hA : Arr w0 .i64 (.slice xa xs.length xc) xs) (hok : ∀ y ∈ xs, 0 ≤ y ∧ y ≤ 64) (hxs : xs.length ≤ 96) {Q : Exit → Act → World → Prop}
    (hQ : ∀ (c20 c180 c181 c182 c183 c184 c185 c186 c187 : Value) (F' : List Nat) (wx : World), Buf wx base p (l ++ xs.flatMap encN) F' → Step F F' w wx → Q .normal ⟨(f0 :: f1 :: f2 :: Value.pointer (some ⟨p, 0, none⟩) :: f4 :: Value.func (Fn.func 32) #[] #[.pointer (some ⟨p, 0, none⟩)] :: f6 :: f7 :: f8 :: f9 :: f10 :: f11 :: f12 :: f13 :: f14 :: f15 :: f16 :: f17 :: f18 :: f19 :: c20 :: f21 :: f22 :: f23 :: f24 :: f25 :: f26 :: f27 :: f28 :: f29 :: f30 :: f31 :: f32 :: f33 :: f34 :: f35 :: f36 :: f37 :: f38 :: f39 :: f40 :: f41 :: f42 :: f43 :: f44 :: f45 :: f46 :: f47 :: f48 :: f49 :: f50 :: f51 :: f52 :: f53 :: f54 :: f55 :: f56 :: f57 :: f58 :: f59 :: f60 :: f61 :: f62 :: f63 :: f64 :: f65 :: f66 :: f67 :: f68 :: f69 :: f70 :: f71 :: f72 :: f73 :: f74 :: f75 :: f76 :: f77 :: f78 :: f79 :: f80 :: f81 :: f82 :: f83 :: f84 :: f85 :: f86 :: f87 :: f88 :: f89 :: f90 :: f91 :: f92 :: f93 :: f94 :: f95 :: f96 :: f97 :: f98 :: f99 :: f100 :: f101 :: f102 :: f103 :: f104 :: f105 :: f106 :: f107 :: f108 :: f109 :: f110 :: f111 :: f112 :: f113 :: f114 :: f115 :: f116 :: f117 :: f118 :: f119 :: f120 :: f121 :: f122 :: f123 :: f124 :: f125 :: f126 :: f127 :: f128 :: f129 :: f130 :: f131 :: f132 :: f133 :: f134 :: f135 :: f136 :: f137 :: f138 :: f139 :: f140 :: f141 :: f142 :: f143 :: f144 :: f145 :: f146 :: f147 :: f148 :: f149 :: f150 :: f151 :: f152 :: f153 :: f154 :: f155 :: f156 :: f157 :: f158 :: f159 :: f160 :: f161 :: f162 :: f163 :: f164 :: f165 :: f166 :: f167 :: f168 :: f169 :: f170 :: f171 :: f172 :: f173 :: f174 :: f175 :: f176 :: f177 :: Value.slice xa xs.length xc :: Value.int .i64 (xs.length : Int) :: c180 :: c181 :: c182 :: c183 :: c184 :: c185 :: c186 :: c187 :: f188 :: f189 :: List.nil).toArray, []⟩ wx) :
    Code.wp Tryz.prog (.block 12 (blockOf Tryz.f11 12)) Q ⟨(f0 :: f1 :: f2 :: Value.pointer (some ⟨p, 0, none⟩) :: f4 :: Value.func (Fn.func 32) #[] #[.pointer (some ⟨p, 0, none⟩)] :: f6 :: f7 :: f8 :: f9 :: f10 :: f11 :: f12 :: f13 :: f14 :: f15 :: f16 :: f17 :: f18 :: f19 :: f20 :: f21 :: f22 :: f23 :: f24 :: f25 :: f26 :: f27 :: f28 :: f29 :: f30 :: f31 :: f32 :: f33 :: f34 :: f35 :: f36 :: f37 :: f38 :: f39 :: f40 :: f41 :: f42 :: f43 :: f44 :: f45 :: f46 :: f47 :: f48 :: f49 :: f50 :: f51 :: f52 :: f53 :: f54 :: f55 :: f56 :: f57 :: f58 :: f59 :: f60 :: f61 :: f62 :: f63 :: f64 :: f65 :: f66 :: f67 :: f68 :: f69 :: f70 :: f71 :: f72 :: f73 :: f74 :: f75 :: f76 :: f77 :: f78 :: f79 :: f80 :: f81 :: f82 :: f83 :: f84 :: f85 :: f86 :: f87 :: f88 :: f89 :: f90 :: f91 :: f92 :: f93 :: f94 :: f95 :: f96 :: f97 :: f98 :: f99 :: f100 :: f101 :: f102 :: f103 :: f104 :: f105 :: f106 :: f107 :: f108 :: f109 :: f110 :: f111 :: f112 :: f113 :: f114 :: f115 :: f116 :: f117 :: f118 :: f119 :: f120 :: f121 :: f122 :: f123 :: f124 :: f125 :: f126 :: f127 :: f128 :: f129 :: f130 :: f131 :: f132 :: f133 :: f134 :: f135 :: f136 :: f137 :: f138 :: f139 :: f140 :: f141 :: f142 :: f143 :: f144 :: f145 :: f146 :: f147 :: f148 :: f149 :: f150 :: f151 :: f152 :: f153 :: f154 :: f155 :: f156 :: f157 :: f158 :: f159 :: f160 :: f161 :: f162 :: f163 :: f164 :: f165 :: f166 :: f167 :: f168 :: f169 :: f170 :: f171 :: f172 :: f173 :: f174 :: f175 :: f176 :: f177 :: Value.slice xa xs.length xc :: Value.int .i64 (xs.length : Int) :: Value.int .i64 0 :: f181 :: f182 :: f183 :: f184 :: f185 :: f186 :: f187 :: f188 :: f189 :: List.nil).toArray, []⟩ w := by
  have hFb : ∀ b ∈ F, w0.heap.size ≤ b := fun b hb => Nat.le_trans h0 (hP.lt b hb).1
  have HFb := Lib.hid hFb
  have HQ := Lib.hid hQ
  clear hFb hQ
  change Code.wp Tryz.prog (.block 12 (Code.loop _)) _ _ _
  go_wp2_with fail
  have HA := Lib.hid hA
  have HOK := Lib.hid hok
  clear hA hok
  have hfl := fun (j : Nat) => flat_len (e := encN) (b := 10) (l := xs.take j) (fun y hy => encN_len (by have := HOK.out y (List.mem_of_mem_take hy); unfold I64; omega))
  go_loopg [180] xs.length (fun k iv wr => ∃ (j : Nat) (F' : List Nat), j + k = xs.length ∧ iv = .int .i64 j ∧ Buf wr base p (l ++ (xs.take j).flatMap encN) F' ∧ Step F F' w wr)
  case atStart => exact ⟨0, F, by omega, by simp, by simpa using hP, Step.refl _ _⟩
  case round =>
    obtain ⟨j, F8, hjk, rfl, P8, s8⟩ := hrel
    have e8 := s8.ext hx HFb.out
    have hflj := hfl j
    have htl : (xs.take j).length ≤ 96 := by simp; omega
    by_cases hj : j < xs.length
    · have hjI : (j : Int) < (xs.length : Int) := by omega
      obtain ⟨g, off, e0, -, hc⟩ := (HA.out.ext e8).at j hj
      cases e0
      have c0 := hc j hj
      have hlj : xs[j]? = some (xs.getD j 0) := by simp [List.getD, hj]
      have hyb := HOK.out _ (List.mem_of_getElem? hlj)
      have HX := Lib.hid (show (xs.take (j + 1)).flatMap encN = (xs.take j).flatMap encN ++ encN (xs.getD j 0) by rw [List.take_add_one, hlj]; simp)
      obtain ⟨y, hy⟩ : ∃ y : Nat, xs.getD j 0 = (y : Int) := ⟨(xs.getD j 0).toNat, by omega⟩
      rw [hy] at c0 hyb
      have HY := Lib.hid hy
      clear hlj hc hy
      go_wp2_with fail
      refine (bcount_any y (by omega) _ _ _ _ _ P8 (by simp only [List.length_append]; omega)).mono ?_
      rintro e w9 ⟨rfl, F9, P9, s9⟩
      have s10 := s8.trans s9
      clear P8 s8 s9 c0
      go_wp2
      go_roundg (gk - 1)
      case measure => omega
      case rel => exact ⟨j + 1, F9, by omega, by simp, by rw [HX.out, ← List.append_assoc, HY.out]; simpa [encN] using P9, s10⟩
    · obtain rfl : j = xs.length := by omega
      rw [List.take_length] at P8
      go_wp2
      exact HQ.out _ _ _ _ _ _ _ _ _ _ _ P8 s8
set_option maxRecDepth 100000 in
set_option maxHeartbeats 4000000 in
theorem byt_b6 (f0 f1 f2 f4 f6 f7 f8 f9 f10 f11 f12 f13 f14 f15 f16 f17 f18 f19 f20 f21 f22 f23 f24 f25 f26 f27 f28 f29 f30 f31 f32 f33 f34 f35 f36 f37 f38 f39 f40 f41 f42 f43 f44 f45 f46 f47 f48 f49 f50 f51 f52 f53 f54 f55 f56 f57 f58 f59 f60 f61 f62 f63 f64 f65 f66 f67 f68 f69 f70 f71 f72 f73 f74 f75 f76 f77 f78 f79 f83 f84 f85 f86 f87 f88 f89 f90 f91 f92 f93 f94 f95 f96 f97 f98 f99 f100 f101 f102 f103 f104 f105 f106 f107 f108 f109 f110 f111 f112 f113 f114 f115 f116 f117 f118 f119 f120 f121 f122 f123 f124 f125 f126 f127 f128 f129 f130 f131 f132 f133 f134 f135 f136 f137 f138 f139 f140 f141 f142 f143 f144 f145 f146 f147 f148 f149 f150 f151 f152 f153 f154 f155 f156 f157 f158 f159 f160 f161 f162 f163 f164 f165 f166 f167 f168 f169 f170 f171 f172 f173 f174 f175 f176 f177 f178 f179 f180 f181 f182 f183 f184 f185 f186 f187 f188 f189 : Value) (w0 : World) (d : Bool) (xa : Option Addr) (xc : Nat) (ps : List (List In)) (w : World) (base p : Nat) (l : List Int) (F : List Nat) (hP : Buf w base p l F) (hl : l.length ≤ 780000) (h0 : w0.heap.size ≤ base) (hx : Ext w0 w) (hA : PRd w0 (.slice xa ps.length xc) ps) (hok : ∀ p ∈ ps, ∀ x ∈ p, x.ok) (hck : ∀ p ∈ ps, chk d p = 0) (hxs : ps.length ≤ 4) {Q : Exit → Act → World → Prop}
    (hQ : ∀ (c13 c15 c82 c83 c84 c85 c86 c87 c88 c89 c90 c91 c92 c93 c94 c95 c96 c97 c98 c99 c100 c101 c102 c103 c104 c105 c106 c107 c108 c109 c110 c111 c112 c113 : Value) (F' : List Nat) (wx : World), Buf wx base p (l ++ ps.flatMap enc) F' → Step F F' w wx → Q .normal ⟨(f0 :: f1 :: f2 :: Value.pointer (some ⟨p, 0, none⟩) :: f4 :: Value.func (Fn.func 32) #[] #[.pointer (some ⟨p, 0, none⟩)] :: f6 :: f7 :: f8 :: f9 :: f10 :: f11 :: f12 :: c13 :: f14 :: c15 :: f16 :: f17 :: f18 :: f19 :: f20 :: f21 :: f22 :: f23 :: f24 :: f25 :: f26 :: f27 :: f28 :: f29 :: f30 :: f31 :: f32 :: f33 :: f34 :: f35 :: f36 :: f37 :: f38 :: f39 :: f40 :: f41 :: f42 :: f43 :: f44 :: f45 :: f46 :: f47 :: f48 :: f49 :: f50 :: f51 :: f52 :: f53 :: f54 :: f55 :: f56 :: f57 :: f58 :: f59 :: f60 :: f61 :: f62 :: f63 :: f64 :: f65 :: f66 :: f67 :: f68 :: f69 :: f70 :: f71 :: f72 :: f73 :: f74 :: f75 :: f76 :: f77 :: f78 :: f79 :: Value.slice xa ps.length xc :: Value.int .i64 (ps.length : Int) :: c82 :: c83 :: c84 :: c85 :: c86 :: c87 :: c88 :: c89 :: c90 :: c91 :: c92 :: c93 :: c94 :: c95 :: c96 :: c97 :: c98 :: c99 :: c100 :: c101 :: c102 :: c103 :: c104 :: c105 :: c106 :: c107 :: c108 :: c109 :: c110 :: c111 :: c112 :: c113 :: f114 :: f115 :: f116 :: f117 :: f118 :: f119 :: f120 :: f121 :: f122 :: f123 :: f124 :: f125 :: f126 :: f127 :: f128 :: f129 :: f130 :: f131 :: f132 :: f133 :: f134 :: f135 :: f136 :: f137 :: f138 :: f139 :: f140 :: f141 :: f142 :: f143 :: f144 :: f145 :: f146 :: f147 :: f148 :: f149 :: f150 :: f151 :: f152 :: f153 :: f154 :: f155 :: f156 :: f157 :: f158 :: f159 :: f160 :: f161 :: f162 :: f163 :: f164 :: f165 :: f166 :: f167 :: f168 :: f169 :: f170 :: f171 :: f172 :: f173 :: f174 :: f175 :: f176 :: f177 :: f178 :: f179 :: f180 :: f181 :: f182 :: f183 :: f184 :: f185 :: f186 :: f187 :: f188 :: f189 :: List.nil).toArray, []⟩ wx) :
    Code.wp Tryz.prog (.block 6 (blockOf Tryz.f11 6)) Q ⟨(f0 :: f1 :: f2 :: Value.pointer (some ⟨p, 0, none⟩) :: f4 :: Value.func (Fn.func 32) #[] #[.pointer (some ⟨p, 0, none⟩)] :: f6 :: f7 :: f8 :: f9 :: f10 :: f11 :: f12 :: f13 :: f14 :: f15 :: f16 :: f17 :: f18 :: f19 :: f20 :: f21 :: f22 :: f23 :: f24 :: f25 :: f26 :: f27 :: f28 :: f29 :: f30 :: f31 :: f32 :: f33 :: f34 :: f35 :: f36 :: f37 :: f38 :: f39 :: f40 :: f41 :: f42 :: f43 :: f44 :: f45 :: f46 :: f47 :: f48 :: f49 :: f50 :: f51 :: f52 :: f53 :: f54 :: f55 :: f56 :: f57 :: f58 :: f59 :: f60 :: f61 :: f62 :: f63 :: f64 :: f65 :: f66 :: f67 :: f68 :: f69 :: f70 :: f71 :: f72 :: f73 :: f74 :: f75 :: f76 :: f77 :: f78 :: f79 :: Value.slice xa ps.length xc :: Value.int .i64 (ps.length : Int) :: Value.int .i64 0 :: f83 :: f84 :: f85 :: f86 :: f87 :: f88 :: f89 :: f90 :: f91 :: f92 :: f93 :: f94 :: f95 :: f96 :: f97 :: f98 :: f99 :: f100 :: f101 :: f102 :: f103 :: f104 :: f105 :: f106 :: f107 :: f108 :: f109 :: f110 :: f111 :: f112 :: f113 :: f114 :: f115 :: f116 :: f117 :: f118 :: f119 :: f120 :: f121 :: f122 :: f123 :: f124 :: f125 :: f126 :: f127 :: f128 :: f129 :: f130 :: f131 :: f132 :: f133 :: f134 :: f135 :: f136 :: f137 :: f138 :: f139 :: f140 :: f141 :: f142 :: f143 :: f144 :: f145 :: f146 :: f147 :: f148 :: f149 :: f150 :: f151 :: f152 :: f153 :: f154 :: f155 :: f156 :: f157 :: f158 :: f159 :: f160 :: f161 :: f162 :: f163 :: f164 :: f165 :: f166 :: f167 :: f168 :: f169 :: f170 :: f171 :: f172 :: f173 :: f174 :: f175 :: f176 :: f177 :: f178 :: f179 :: f180 :: f181 :: f182 :: f183 :: f184 :: f185 :: f186 :: f187 :: f188 :: f189 :: List.nil).toArray, []⟩ w := by
  have hFb : ∀ b ∈ F, w0.heap.size ≤ b := fun b hb => Nat.le_trans h0 (hP.lt b hb).1
  have HFb := Lib.hid hFb
  have HQ := Lib.hid hQ
  clear hFb hQ
  change Code.wp Tryz.prog (.block 6 (Code.loop _)) _ _ _
  go_wp2_with fail
  have HOK := Lib.hid hok
  have HCK := Lib.hid hck
  have hfl := progs_len hxs hok hck
  obtain ⟨svs, hA1, hA2, hA3⟩ := hA
  have HA := Lib.hid hA1
  have HA3 := Lib.hid hA3
  have HA2 := Lib.hid hA2
  clear hA1 hA3 hA2 hok hck
  go_loopg [82] ps.length (fun k iv wr => ∃ (j : Nat) (F' : List Nat), j + k = ps.length ∧ iv = .int .i64 j ∧ Buf wr base p (l ++ (ps.take j).flatMap enc) F' ∧ Step F F' w wr)
  case atStart => exact ⟨0, F, by omega, by simp, by simpa using hP, Step.refl _ _⟩
  case round =>
    obtain ⟨j, F8, hjk, rfl, P8, s8⟩ := hrel
    have e8 := s8.ext hx HFb.out
    have hflj := hfl j
    by_cases hj : j < ps.length
    · have hjI : (j : Int) < (ps.length : Int) := by omega
      obtain ⟨g, off, s, e0, -, hsj, hc⟩ := (HA.out.ext e8).nth j (by rw [HA2.out]; exact hj)
      cases e0
      obtain ⟨xs, hpj, hPA, -⟩ := HA3.out j s hsj
      have c0 := hc 0 s.v (by simp [LP])
      have hmem := List.mem_of_getElem? hpj
      have hz := (chk_zero (HCK.out xs hmem)).1
      have hxo := HOK.out xs hmem
      have HX := Lib.hid (show (ps.take (j + 1)).flatMap enc = (ps.take j).flatMap enc ++ enc xs by rw [List.take_add_one, hpj]; simp)
      obtain ⟨ya, yn, yc⟩ := s
      obtain ⟨_, _, ey, -, -⟩ := hPA.slice
      cases ey
      simp only [LP, Nat.mul_one, Nat.add_zero] at c0
      have h10 : (leb xs.length).length ≤ 10 := leb_len10 (by omega)
      clear hsj hc hpj
      go_wp2_with fail
      refine (bcount_any xs.length (by omega) _ _ _ _ _ P8 (by simp only [List.length_append]; omega)).mono ?_
      rintro e w9 ⟨rfl, F9, P9, s9⟩
      have s10 := s8.trans s9
      have e10 := s10.ext hx HFb.out
      clear P8 s8 s9 c0 e8
      go_upto_block 8 with fail
      refine byt_b8 _ _ _ _ _ _ _ _ _ _ _ _ _ _ _ _ _ _ _ _ _ _ _ _ _ _ _ _ _ _ _ _ _ _ _ _ _ _ _ _ _ _ _ _ _ _ _ _ _ _ _ _ _ _ _ _ _ _ _ _ _ _ _ _ _ _ _ _ _ _ _ _ _ _ _ _ _ _ _ _ _ _ _ _ _ _ _ _ _ _ _ _ _ _ _ _ _ _ _ _ _ _ _ _ _ _ _ _ _ _ _ _ _ _ _ _ _ _ _ _ _ _ _ _ _ _ _ _ _ _ _ _ _ _ _ _ _ _ _ _ _ _ _ _ _ _ _ _ _ _ _ _ _ _ _ _ _ _ _ _ _ _ _ _ _ _ _ _ _ _ _ _ _ _ _ _ _ _ _ _ _ _ _ _ _ _ w0 ya yc xs _ _ _ _ _ P9 (by simp only [List.length_append]; omega) h0 e10 hPA hxo hz ?_
      intro d15 d92 d93 d94 d95 d96 d97 d98 d99 d100 d101 d102 d103 d104 d105 d106 d107 d108 d109 d110 d111 d112 F11 w11 P11 s11
      go_wp2
      go_roundg (gk - 1)
      case measure => omega
      case rel => exact ⟨j + 1, F11, by omega, by simp, by rw [HX.out, enc_seqE]; simpa [seqE] using P11, s10.trans s11⟩
    · obtain rfl : j = ps.length := by omega
      rw [List.take_length] at P8
      go_wp2
      exact HQ.out _ _ _ _ _ _ _ _ _ _ _ _ _ _ _ _ _ _ _ _ _ _ _ _ _ _ _ _ _ _ _ _ _ _ _ _ P8 s8
set_option maxRecDepth 100000 in
set_option maxHeartbeats 4000000 in
theorem byt_b2 (f0 f1 f2 f5 f6 f7 f8 f9 f10 f11 f12 f13 f14 f15 f16 f17 f18 f19 f20 f21 f22 f23 f24 f25 f26 f27 f28 f29 f30 f31 f32 f33 f34 f35 f36 f37 f38 f39 f40 f41 f42 f43 f44 f45 f46 f47 f48 f49 f50 f54 f55 f56 f57 f58 f59 f60 f61 f62 f63 f64 f65 f66 f67 f68 f69 f70 f71 f72 f73 f74 f75 f76 f77 f78 f79 f80 f81 f82 f83 f84 f85 f86 f87 f88 f89 f90 f91 f92 f93 f94 f95 f96 f97 f98 f99 f100 f101 f102 f103 f104 f105 f106 f107 f108 f109 f110 f111 f112 f113 f114 f115 f116 f117 f118 f119 f120 f121 f122 f123 f124 f125 f126 f127 f128 f129 f130 f131 f132 f133 f134 f135 f136 f137 f138 f139 f140 f141 f142 f143 f144 f145 f146 f147 f148 f149 f150 f151 f152 f153 f154 f155 f156 f157 f158 f159 f160 f161 f162 f163 f164 f165 f166 f167 f168 f169 f170 f171 f172 f173 f174 f175 f176 f177 f178 f179 f180 f181 f182 f183 f184 f185 f186 f187 f188 f189 : Value) (w0 : World) (xa : Option Addr) (xc : Nat) (xs : List V8) (w : World) (base p : Nat) (l : List Int) (F : List Nat) (hP : Buf w base p l F) (hl : l.length ≤ 780000) (h0 : w0.heap.size ≤ base) (hx : Ext w0 w) (hA : PArrG LV w0 (.slice xa xs.length xc) xs) (hok : ∀ v ∈ xs, v.fit) (hxs : xs.length ≤ 64) {Q : Exit → Act → World → Prop}
    (hQ : ∀ (c9 c53 c54 c55 c56 c57 c58 c59 c60 c61 c62 c63 c64 c65 : Value) (F' : List Nat) (wx : World), Buf wx base p (l ++ xs.flatMap encV) F' → Step F F' w wx → Q .normal ⟨(f0 :: f1 :: f2 :: Value.pointer (some ⟨p, 0, none⟩) :: Value.func (Fn.func 30) #[] #[.pointer (some ⟨p, 0, none⟩)] :: f5 :: f6 :: f7 :: f8 :: c9 :: f10 :: f11 :: f12 :: f13 :: f14 :: f15 :: f16 :: f17 :: f18 :: f19 :: f20 :: f21 :: f22 :: f23 :: f24 :: f25 :: f26 :: f27 :: f28 :: f29 :: f30 :: f31 :: f32 :: f33 :: f34 :: f35 :: f36 :: f37 :: f38 :: f39 :: f40 :: f41 :: f42 :: f43 :: f44 :: f45 :: f46 :: f47 :: f48 :: f49 :: f50 :: Value.slice xa xs.length xc :: Value.int .i64 (xs.length : Int) :: c53 :: c54 :: c55 :: c56 :: c57 :: c58 :: c59 :: c60 :: c61 :: c62 :: c63 :: c64 :: c65 :: f66 :: f67 :: f68 :: f69 :: f70 :: f71 :: f72 :: f73 :: f74 :: f75 :: f76 :: f77 :: f78 :: f79 :: f80 :: f81 :: f82 :: f83 :: f84 :: f85 :: f86 :: f87 :: f88 :: f89 :: f90 :: f91 :: f92 :: f93 :: f94 :: f95 :: f96 :: f97 :: f98 :: f99 :: f100 :: f101 :: f102 :: f103 :: f104 :: f105 :: f106 :: f107 :: f108 :: f109 :: f110 :: f111 :: f112 :: f113 :: f114 :: f115 :: f116 :: f117 :: f118 :: f119 :: f120 :: f121 :: f122 :: f123 :: f124 :: f125 :: f126 :: f127 :: f128 :: f129 :: f130 :: f131 :: f132 :: f133 :: f134 :: f135 :: f136 :: f137 :: f138 :: f139 :: f140 :: f141 :: f142 :: f143 :: f144 :: f145 :: f146 :: f147 :: f148 :: f149 :: f150 :: f151 :: f152 :: f153 :: f154 :: f155 :: f156 :: f157 :: f158 :: f159 :: f160 :: f161 :: f162 :: f163 :: f164 :: f165 :: f166 :: f167 :: f168 :: f169 :: f170 :: f171 :: f172 :: f173 :: f174 :: f175 :: f176 :: f177 :: f178 :: f179 :: f180 :: f181 :: f182 :: f183 :: f184 :: f185 :: f186 :: f187 :: f188 :: f189 :: List.nil).toArray, []⟩ wx) :
    Code.wp Tryz.prog (.block 2 (blockOf Tryz.f11 2)) Q ⟨(f0 :: f1 :: f2 :: Value.pointer (some ⟨p, 0, none⟩) :: Value.func (Fn.func 30) #[] #[.pointer (some ⟨p, 0, none⟩)] :: f5 :: f6 :: f7 :: f8 :: f9 :: f10 :: f11 :: f12 :: f13 :: f14 :: f15 :: f16 :: f17 :: f18 :: f19 :: f20 :: f21 :: f22 :: f23 :: f24 :: f25 :: f26 :: f27 :: f28 :: f29 :: f30 :: f31 :: f32 :: f33 :: f34 :: f35 :: f36 :: f37 :: f38 :: f39 :: f40 :: f41 :: f42 :: f43 :: f44 :: f45 :: f46 :: f47 :: f48 :: f49 :: f50 :: Value.slice xa xs.length xc :: Value.int .i64 (xs.length : Int) :: Value.int .i64 0 :: f54 :: f55 :: f56 :: f57 :: f58 :: f59 :: f60 :: f61 :: f62 :: f63 :: f64 :: f65 :: f66 :: f67 :: f68 :: f69 :: f70 :: f71 :: f72 :: f73 :: f74 :: f75 :: f76 :: f77 :: f78 :: f79 :: f80 :: f81 :: f82 :: f83 :: f84 :: f85 :: f86 :: f87 :: f88 :: f89 :: f90 :: f91 :: f92 :: f93 :: f94 :: f95 :: f96 :: f97 :: f98 :: f99 :: f100 :: f101 :: f102 :: f103 :: f104 :: f105 :: f106 :: f107 :: f108 :: f109 :: f110 :: f111 :: f112 :: f113 :: f114 :: f115 :: f116 :: f117 :: f118 :: f119 :: f120 :: f121 :: f122 :: f123 :: f124 :: f125 :: f126 :: f127 :: f128 :: f129 :: f130 :: f131 :: f132 :: f133 :: f134 :: f135 :: f136 :: f137 :: f138 :: f139 :: f140 :: f141 :: f142 :: f143 :: f144 :: f145 :: f146 :: f147 :: f148 :: f149 :: f150 :: f151 :: f152 :: f153 :: f154 :: f155 :: f156 :: f157 :: f158 :: f159 :: f160 :: f161 :: f162 :: f163 :: f164 :: f165 :: f166 :: f167 :: f168 :: f169 :: f170 :: f171 :: f172 :: f173 :: f174 :: f175 :: f176 :: f177 :: f178 :: f179 :: f180 :: f181 :: f182 :: f183 :: f184 :: f185 :: f186 :: f187 :: f188 :: f189 :: List.nil).toArray, []⟩ w := by
  have hFb : ∀ b ∈ F, w0.heap.size ≤ b := fun b hb => Nat.le_trans h0 (hP.lt b hb).1
  have HFb := Lib.hid hFb
  have HQ := Lib.hid hQ
  clear hFb hQ
  change Code.wp Tryz.prog (.block 2 (Code.loop _)) _ _ _
  go_wp2_with fail
  have HA := Lib.hid hA
  have HOK := Lib.hid hok
  clear hA hok
  have hfl := fun (j : Nat) => flat_len (e := encV) (b := 80) (l := xs.take j) (fun y hy => encV_len (HOK.out y (List.mem_of_mem_take hy)))
  go_loopg [53] xs.length (fun k iv wr => ∃ (j : Nat) (F' : List Nat), j + k = xs.length ∧ iv = .int .i64 j ∧ Buf wr base p (l ++ (xs.take j).flatMap encV) F' ∧ Step F F' w wr)
  case atStart => exact ⟨0, F, by omega, by simp, by simpa using hP, Step.refl _ _⟩
  case round =>
    obtain ⟨j, F8, hjk, rfl, P8, s8⟩ := hrel
    have e8 := s8.ext hx HFb.out
    have hflj := hfl j
    have htl : (xs.take j).length ≤ 64 := by simp; omega
    by_cases hj : j < xs.length
    · have hjI : (j : Int) < (xs.length : Int) := by omega
      obtain ⟨g, off, v, e0, -, hvx, hc⟩ := (HA.out.ext e8).nth j hj
      cases e0
      have hf8 := HOK.out v (List.mem_of_getElem? hvx)
      have HX := Lib.hid (show (xs.take (j + 1)).flatMap encV = (xs.take j).flatMap encV ++ encV v by rw [List.take_add_one, hvx]; simp)
      have R3 : wr.rangeAt g (off + j * 8) v.l := hc
      have Bz := Blk.new wr #[.int .i64 0, .int .i64 0, .int .i64 0, .int .i64 0, .int .i64 0, .int .i64 0, .int .i64 0, .int .i64 0] 51
      have Bs := Bz.setRow v.l.toArray
      have e2 : Ext wr ((wr.alloc (.cells #[.int .i64 0, .int .i64 0, .int .i64 0, .int .i64 0, .int .i64 0, .int .i64 0, .int .i64 0, .int .i64 0] 51)).setRow wr.heap.size v.l.toArray) := ((Ext.refl wr).alloc _ _).setRow (Nat.le_refl _) _
      have hone : v.l.toArray.all (·.oneCell') = true := by
        simp only [List.all_toArray, List.all_eq_true]
        exact LV.one _
      have hzl : v.l.length = 8 := rfl
      clear hc hvx
      go_upto_region 14 with (first
        | refine wpList_load_mid rfl 51 (.tmp 55) rfl g (off + j * 8) rfl v.l _ R3 Tryz.underlying51 rfl (by kernel_rfl) ?_
        | ((with_reducible refine wpList_store_blk (op := ⟨none, .store 51 (.tmp 9) (.tmp 56), _, _, _, _⟩) ?_ 51 (.tmp 9) (.tmp 56) ?_ wr.heap.size ?_ (cs := v.l.toArray) ?_ (z := #[.int .i64 0, .int .i64 0, .int .i64 0, .int .i64 0, .int .i64 0, .int .i64 0, .int .i64 0, .int .i64 0]) (T := 51) ?_ ?_ ?_ ?_ ?_); rfl; rfl; rfl; rfl; exact Bz; (rw [List.size_toArray, hzl]; kernel_rfl); exact hone; (simp [hzl]))
        | fail)
      have hn7 : wr.heap.size ∉ F8 := fun h => by have := (P8.lt _ h).2; omega
      have P9 := P8.ext e2
      have s9 := s8.trans (Step.of_ext (F := F8) e2)
      clear R3 Bz hone hzl P8 s8 e2 e8
      generalize (wr.alloc (.cells #[.int .i64 0, .int .i64 0, .int .i64 0, .int .i64 0, .int .i64 0, .int .i64 0, .int .i64 0, .int .i64 0] 51)).setRow wr.heap.size v.l.toArray = w9 at *
      generalize wr.heap.size = b9 at *
      obtain ⟨p0, p1, p2, p3, q0, q1, q2, q3⟩ := v
      obtain ⟨⟨k0, k1, k2, k3⟩, k4, k5, k6, k7⟩ := hf8
      simp only at k0 k1 k2 k3 k4 k5 k6 k7
      have HVV := Lib.hid (show encV ⟨p0, p1, p2, p3, q0, q1, q2, q3⟩ = [p0, p1, p2, p3].flatMap encZ ++ [q0, q1, q2, q3].flatMap encZ by simp [encV])
      have hv4 : ([p0, p1, p2, p3].flatMap encZ).length ≤ 40 := by
        have := flat_len (e := encZ) (b := 10) (l := [p0, p1, p2, p3]) (fun y hy => encZ_len (by simp at hy; rcases hy with rfl | rfl | rfl | rfl <;> assumption))
        simpa using this
      have R9 := Bs.mid 0 [.int .i64 p0, .int .i64 p1, .int .i64 p2, .int .i64 p3] rfl
      go_wp2_with (first
        | refine wpList_load_mid rfl 31 (.tmp 58) rfl b9 0 rfl [.int .i64 p0, .int .i64 p1, .int .i64 p2, .int .i64 p3] _ R9 Tryz.underlying31 rfl (by kernel_rfl) ?_
        | fail)
      refine (bnums_any p0 p1 p2 p3 k0 k1 k2 k3 _ _ _ _ _ P9 (by simp only [List.length_append]; omega)).mono ?_
      rintro e w10 ⟨rfl, F10, P10, s10⟩
      have B10 := Bs.calm s10.1 hn7
      have s11 := s9.trans s10
      clear P9 s9 s10 Bs R9
      have R10 := B10.mid 4 [.int .i64 q0, .int .i64 q1, .int .i64 q2, .int .i64 q3] rfl
      go_wp2_with (first
        | refine wpList_load_mid rfl 31 (.tmp 62) rfl b9 4 rfl [.int .i64 q0, .int .i64 q1, .int .i64 q2, .int .i64 q3] _ R10 Tryz.underlying31 rfl (by kernel_rfl) ?_
        | fail)
      refine (bnums_any q0 q1 q2 q3 k4 k5 k6 k7 _ _ _ _ _ P10 (by simp only [List.length_append]; omega)).mono ?_
      rintro e w12 ⟨rfl, F12, P12, s12⟩
      go_wp2
      go_roundg (gk - 1)
      case measure => omega
      case rel => exact ⟨j + 1, F12, by omega, by simp, by rw [HX.out, HVV.out]; simpa using P12, s11.trans s12⟩
    · obtain rfl : j = xs.length := by omega
      rw [List.take_length] at P8
      go_wp2
      exact HQ.out _ _ _ _ _ _ _ _ _ _ _ _ _ _ _ _ P8 s8
end Go.Proofs.YtbbfmlehddfneaaGreat

