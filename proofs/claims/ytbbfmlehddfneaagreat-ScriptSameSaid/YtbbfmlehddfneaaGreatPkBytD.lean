/-
  DERIVED. THE WALKS of the law's Bytes: the two lists of programs; the draws (made by mkscrbytes.py).
-/
import Derived.Test.YtbbfmlehddfneaaGreatPkBytB
import Derived.Deep.CutBlock
namespace Go.Proofs.YtbbfmlehddfneaaGreat
open Go.RowKit
set_option linter.unusedVariables false
/-- what may be of a draw -/
theorem chkD_clear {ns np nv : Nat} {d : Dr} (h : chkD ns np nv d = 0) (hc : d.clears = true) : 0 ≤ d.cl.dep ∧ d.cl.dep ≤ 65535 := by
  unfold chkD at h
  split at h
  · rename_i h1
    exact absurd h h1
  · unfold chkC at h
    split at h
    · cases h
    · omega
theorem chkD_tri {ns np nv : Nat} {d : Dr} (h : chkD ns np nv d = 0) (hc : d.clears = false) : (0 ≤ d.vx ∧ d.vx < ns) ∧ (0 ≤ d.fr ∧ d.fr < np) ∧ chkM d.kind d.idx nv = 0 := by
  unfold chkD at h
  split at h
  · rename_i h1
    exact absurd h h1
  · rw [hc] at h
    simp only [Bool.false_eq_true, if_false] at h
    split at h
    · rename_i h2
      exact ⟨h2.1, h2.2, h⟩
    · cases h
theorem chkM_idx {k v : Int} {l : List Int} (h : chkM k l v = 0) : ∀ y ∈ l, 0 ≤ y ∧ y < v := by
  unfold chkM at h
  split at h
  · rename_i h1
    exact absurd h h1
  · split at h
    · rename_i h2
      intro y hy
      have := List.all_eq_true.1 h2 y hy
      simp only [okIdx, Bool.and_eq_true, decide_eq_true_eq] at this
      exact this
    · cases h
theorem Step.new {F F' O : List Nat} {w a b : World} (h : Step F F' w a) (c : Calm O a b) (hO : ∀ g ∈ O, w.heap.size ≤ g) : Step F F' w b := ⟨h.1.new_trans c (fun g hg => .inl (hO g hg)), h.2⟩
set_option maxRecDepth 100000 in
set_option maxHeartbeats 4000000 in
theorem byt_r42 (f0 f1 f2 f4 f5 f6 f7 f8 f9 f10 f11 f12 f13 f14 f15 f16 f18 f19 f20 f21 f22 f23 f24 f25 f26 f27 f28 f29 f30 f31 f32 f33 f34 f35 f36 f37 f38 f39 f40 f41 f42 f43 f44 f45 f46 f47 f48 f49 f50 f51 f52 f53 f54 f55 f56 f57 f58 f59 f60 f61 f62 f63 f64 f65 f66 f67 f68 f69 f70 f71 f72 f73 f74 f75 f76 f77 f78 f79 f80 f81 f82 f83 f84 f85 f86 f87 f88 f89 f90 f91 f92 f93 f94 f95 f96 f97 f98 f99 f100 f101 f102 f103 f104 f105 f106 f107 f108 f109 f110 f111 f112 f113 f114 f115 f116 f117 f118 f119 f120 f121 f122 f123 f124 f125 f126 f127 f128 f129 f130 f131 f132 f133 f134 f135 f136 f137 f138 f139 f140 f141 f142 f143 f144 f145 f146 f147 f148 f149 f150 f151 f152 f153 f154 f155 f156 f157 f158 f159 f160 f161 f162 f163 f164 f165 f166 f167 f168 f169 f170 f171 f172 f173 f174 f175 f176 f177 f178 f179 f180 f181 f182 f183 f184 f185 f186 f187 f188 f189 : Value) (w0 : World) (b17 : Nat) (z : Array Value) (n : Int) (w : World) (base p : Nat) (l : List Int) (F : List Nat) (hP : Buf w base p l F) (hl : l.length ≤ 800000) (h0 : w0.heap.size ≤ base) (hx : Ext w0 w) (B17 : Blk w b17 z 71) (e25 : z[25]? = some (.int .u8 n)) (hn0 : b17 ∉ F) {Q : Exit → Act → World → Prop}
    (hQ : ∀ (c159 c160 c161 c162 c163 : Value) (F' : List Nat) (wx : World), Buf wx base p (l ++ [n]) F' → Step F F' w wx → Q .normal ⟨(f0 :: f1 :: f2 :: Value.pointer (some ⟨p, 0, none⟩) :: f4 :: f5 :: f6 :: f7 :: f8 :: f9 :: f10 :: f11 :: f12 :: f13 :: f14 :: f15 :: f16 :: Value.pointer (some ⟨b17, 0, none⟩) :: f18 :: f19 :: f20 :: f21 :: f22 :: f23 :: f24 :: f25 :: f26 :: f27 :: f28 :: f29 :: f30 :: f31 :: f32 :: f33 :: f34 :: f35 :: f36 :: f37 :: f38 :: f39 :: f40 :: f41 :: f42 :: f43 :: f44 :: f45 :: f46 :: f47 :: f48 :: f49 :: f50 :: f51 :: f52 :: f53 :: f54 :: f55 :: f56 :: f57 :: f58 :: f59 :: f60 :: f61 :: f62 :: f63 :: f64 :: f65 :: f66 :: f67 :: f68 :: f69 :: f70 :: f71 :: f72 :: f73 :: f74 :: f75 :: f76 :: f77 :: f78 :: f79 :: f80 :: f81 :: f82 :: f83 :: f84 :: f85 :: f86 :: f87 :: f88 :: f89 :: f90 :: f91 :: f92 :: f93 :: f94 :: f95 :: f96 :: f97 :: f98 :: f99 :: f100 :: f101 :: f102 :: f103 :: f104 :: f105 :: f106 :: f107 :: f108 :: f109 :: f110 :: f111 :: f112 :: f113 :: f114 :: f115 :: f116 :: f117 :: f118 :: f119 :: f120 :: f121 :: f122 :: f123 :: f124 :: f125 :: f126 :: f127 :: f128 :: f129 :: f130 :: f131 :: f132 :: f133 :: f134 :: f135 :: f136 :: f137 :: f138 :: f139 :: f140 :: f141 :: f142 :: f143 :: f144 :: f145 :: f146 :: f147 :: f148 :: f149 :: f150 :: f151 :: f152 :: f153 :: f154 :: f155 :: f156 :: f157 :: f158 :: c159 :: c160 :: c161 :: c162 :: c163 :: f164 :: f165 :: f166 :: f167 :: f168 :: f169 :: f170 :: f171 :: f172 :: f173 :: f174 :: f175 :: f176 :: f177 :: f178 :: f179 :: f180 :: f181 :: f182 :: f183 :: f184 :: f185 :: f186 :: f187 :: f188 :: f189 :: List.nil).toArray, []⟩ wx) :
    Code.wp Tryz.prog (regionOf Tryz.f11 42) Q ⟨(f0 :: f1 :: f2 :: Value.pointer (some ⟨p, 0, none⟩) :: f4 :: f5 :: f6 :: f7 :: f8 :: f9 :: f10 :: f11 :: f12 :: f13 :: f14 :: f15 :: f16 :: Value.pointer (some ⟨b17, 0, none⟩) :: f18 :: f19 :: f20 :: f21 :: f22 :: f23 :: f24 :: f25 :: f26 :: f27 :: f28 :: f29 :: f30 :: f31 :: f32 :: f33 :: f34 :: f35 :: f36 :: f37 :: f38 :: f39 :: f40 :: f41 :: f42 :: f43 :: f44 :: f45 :: f46 :: f47 :: f48 :: f49 :: f50 :: f51 :: f52 :: f53 :: f54 :: f55 :: f56 :: f57 :: f58 :: f59 :: f60 :: f61 :: f62 :: f63 :: f64 :: f65 :: f66 :: f67 :: f68 :: f69 :: f70 :: f71 :: f72 :: f73 :: f74 :: f75 :: f76 :: f77 :: f78 :: f79 :: f80 :: f81 :: f82 :: f83 :: f84 :: f85 :: f86 :: f87 :: f88 :: f89 :: f90 :: f91 :: f92 :: f93 :: f94 :: f95 :: f96 :: f97 :: f98 :: f99 :: f100 :: f101 :: f102 :: f103 :: f104 :: f105 :: f106 :: f107 :: f108 :: f109 :: f110 :: f111 :: f112 :: f113 :: f114 :: f115 :: f116 :: f117 :: f118 :: f119 :: f120 :: f121 :: f122 :: f123 :: f124 :: f125 :: f126 :: f127 :: f128 :: f129 :: f130 :: f131 :: f132 :: f133 :: f134 :: f135 :: f136 :: f137 :: f138 :: f139 :: f140 :: f141 :: f142 :: f143 :: f144 :: f145 :: f146 :: f147 :: f148 :: f149 :: f150 :: f151 :: f152 :: f153 :: f154 :: f155 :: f156 :: f157 :: f158 :: f159 :: f160 :: f161 :: f162 :: f163 :: f164 :: f165 :: f166 :: f167 :: f168 :: f169 :: f170 :: f171 :: f172 :: f173 :: f174 :: f175 :: f176 :: f177 :: f178 :: f179 :: f180 :: f181 :: f182 :: f183 :: f184 :: f185 :: f186 :: f187 :: f188 :: f189 :: List.nil).toArray, []⟩ w := by
  have hFb : ∀ b ∈ F, w0.heap.size ≤ b := fun b hb => Nat.le_trans h0 (hP.lt b hb).1
  have HFb := Lib.hid hFb
  have HQ := Lib.hid hQ
  clear hFb hQ
  change Code.wp Tryz.prog (Code.region _ _ false) _ _ _
  obtain ⟨v, B, ho, hbp, rfl, hne⟩ := hP
  have hn17 : b17 ∉ v.ownBlock.toList := fun h => hn0 (List.mem_cons_of_mem _ h)
  have hp17 : p ≠ b17 := fun h => hn0 (by simp [h])
  have cB := B.cell
  have hp := B.lt
  have c17 := B17.cell 25
  rw [e25] at c17
  go_wp2_with (at_builtin; refine wpList_append_byte rfl _ _ rfl base _ l rfl (ho.alloc _) w.heap.size 1 n rfl (by simp [go_sem]) (by omega) (by simp; omega) ?_)
  intro v' w' ho' hc' hk'
  have B' : Blk w' p #[v] 40 := (B.alloc _).calm hc' (fun hm => hne p (Option.mem_toList.1 hm) rfl)
  have cB' := B'.cell
  have fB' := B'.frozen
  have hz := hc'.size
  obtain ⟨ao, c', rfl, -, -⟩ := ho'.slice
  have el : (l ++ [n]).length = l.length + 1 := by simp
  rw [el] at ho' hk'
  simp at hz
  go_wp2
  have hne' : ∀ k, (Value.slice ao (l.length + 1) c').ownBlock = some k → k ≠ p := fun k hk => by
    rcases hk' k hk with x | x
    · exact hne k x
    · first | omega | (simp at x; omega)
  refine HQ.out _ _ _ _ _ (p :: (Value.slice ao (l.length + 1) c').ownBlock.toList) _ ⟨_, B'.set 0 _, ho'.kept (fun k hk => Below.heap_setCell _ _ _ _ (hne' k hk)), hbp, rfl, hne'⟩ ⟨⟨hc'.os, hc'.tape, hc'.output, by simp; omega, fun k hk hO => ?_⟩, fun b hm => ?_⟩
  · simp only [List.mem_cons, not_or] at hO
    rw [Below.heap_setCell _ _ _ _ hO.1, hc'.block k (by simp; omega) hO.2, Below.heap_alloc _ _ _ hk]
  · rcases List.mem_cons.1 hm with rfl | hm
    · exact .inl (by simp)
    · rcases hk' b (Option.mem_toList.1 hm) with x | x
      · exact .inl (by simp [x])
      · exact .inr (by first | omega | (simp at x; omega))
set_option maxRecDepth 100000 in
set_option maxHeartbeats 4000000 in
theorem byt_b4 (f0 f1 f2 f4 f6 f7 f8 f9 f10 f11 f12 f13 f14 f15 f16 f17 f18 f19 f20 f21 f22 f23 f24 f25 f26 f27 f28 f29 f30 f31 f32 f33 f34 f35 f36 f37 f38 f39 f40 f41 f42 f43 f44 f45 f46 f47 f48 f49 f50 f51 f52 f53 f54 f55 f56 f57 f58 f59 f60 f61 f62 f63 f64 f65 f66 f67 f68 f69 f73 f74 f75 f76 f77 f78 f79 f80 f81 f82 f83 f84 f85 f86 f87 f88 f89 f90 f91 f92 f93 f94 f95 f96 f97 f98 f99 f100 f101 f102 f103 f104 f105 f106 f107 f108 f109 f110 f111 f112 f113 f114 f115 f116 f117 f118 f119 f120 f121 f122 f123 f124 f125 f126 f127 f128 f129 f130 f131 f132 f133 f134 f135 f136 f137 f138 f139 f140 f141 f142 f143 f144 f145 f146 f147 f148 f149 f150 f151 f152 f153 f154 f155 f156 f157 f158 f159 f160 f161 f162 f163 f164 f165 f166 f167 f168 f169 f170 f171 f172 f173 f174 f175 f176 f177 f178 f179 f180 f181 f182 f183 f184 f185 f186 f187 f188 f189 : Value) (w0 : World) (g7 : Nat) (saa paa : Option Addr) (sac pac : Nat) (Sh Pa : List (List In)) (w : World) (base p : Nat) (l : List Int) (F : List Nat) (hP : Buf w base p l F) (hl : l.length ≤ 700000) (h0 : w0.heap.size ≤ base) (hx : Ext w0 w) (B1 : Blk w g7 #[.slice saa Sh.length sac, .slice paa Pa.length pac] 35) (hn1 : g7 ∉ F) (hS : PRd w0 (.slice saa Sh.length sac) Sh) (hPa : PRd w0 (.slice paa Pa.length pac) Pa) (hoS : ∀ p ∈ Sh, ∀ x ∈ p, x.ok) (hoP : ∀ p ∈ Pa, ∀ x ∈ p, x.ok) (hcS : ∀ p ∈ Sh, chk false p = 0) (hcP : ∀ p ∈ Pa, chk true p = 0) (hlS : Sh.length ≤ 4) (hlP : Pa.length ≤ 4) {Q : Exit → Act → World → Prop}
    (hQ : ∀ (c11 c13 c15 c72 c73 c74 c75 c76 c77 c78 c79 c80 c81 c82 c83 c84 c85 c86 c87 c88 c89 c90 c91 c92 c93 c94 c95 c96 c97 c98 c99 c100 c101 c102 c103 c104 c105 c106 c107 c108 c109 c110 c111 c112 c113 c114 : Value) (F' : List Nat) (wx : World), Buf wx base p (l ++ (seqE enc Sh ++ seqE enc Pa)) F' → Step F F' w wx → Q .normal ⟨(f0 :: f1 :: f2 :: Value.pointer (some ⟨p, 0, none⟩) :: f4 :: Value.func (Fn.func 32) #[] #[.pointer (some ⟨p, 0, none⟩)] :: f6 :: f7 :: f8 :: f9 :: f10 :: c11 :: f12 :: c13 :: f14 :: c15 :: f16 :: f17 :: f18 :: f19 :: f20 :: f21 :: f22 :: f23 :: f24 :: f25 :: f26 :: f27 :: f28 :: f29 :: f30 :: f31 :: f32 :: f33 :: f34 :: f35 :: f36 :: f37 :: f38 :: f39 :: f40 :: f41 :: f42 :: f43 :: f44 :: f45 :: f46 :: f47 :: f48 :: f49 :: f50 :: f51 :: f52 :: f53 :: f54 :: f55 :: f56 :: f57 :: f58 :: f59 :: f60 :: f61 :: f62 :: f63 :: f64 :: f65 :: f66 :: f67 :: f68 :: f69 :: Value.slice (some ⟨g7, 0, none⟩) 2 2 :: Value.int .i64 2 :: c72 :: c73 :: c74 :: c75 :: c76 :: c77 :: c78 :: c79 :: c80 :: c81 :: c82 :: c83 :: c84 :: c85 :: c86 :: c87 :: c88 :: c89 :: c90 :: c91 :: c92 :: c93 :: c94 :: c95 :: c96 :: c97 :: c98 :: c99 :: c100 :: c101 :: c102 :: c103 :: c104 :: c105 :: c106 :: c107 :: c108 :: c109 :: c110 :: c111 :: c112 :: c113 :: c114 :: f115 :: f116 :: f117 :: f118 :: f119 :: f120 :: f121 :: f122 :: f123 :: f124 :: f125 :: f126 :: f127 :: f128 :: f129 :: f130 :: f131 :: f132 :: f133 :: f134 :: f135 :: f136 :: f137 :: f138 :: f139 :: f140 :: f141 :: f142 :: f143 :: f144 :: f145 :: f146 :: f147 :: f148 :: f149 :: f150 :: f151 :: f152 :: f153 :: f154 :: f155 :: f156 :: f157 :: f158 :: f159 :: f160 :: f161 :: f162 :: f163 :: f164 :: f165 :: f166 :: f167 :: f168 :: f169 :: f170 :: f171 :: f172 :: f173 :: f174 :: f175 :: f176 :: f177 :: f178 :: f179 :: f180 :: f181 :: f182 :: f183 :: f184 :: f185 :: f186 :: f187 :: f188 :: f189 :: List.nil).toArray, []⟩ wx) :
    Code.wp Tryz.prog (.block 4 (blockOf Tryz.f11 4)) Q ⟨(f0 :: f1 :: f2 :: Value.pointer (some ⟨p, 0, none⟩) :: f4 :: Value.func (Fn.func 32) #[] #[.pointer (some ⟨p, 0, none⟩)] :: f6 :: f7 :: f8 :: f9 :: f10 :: f11 :: f12 :: f13 :: f14 :: f15 :: f16 :: f17 :: f18 :: f19 :: f20 :: f21 :: f22 :: f23 :: f24 :: f25 :: f26 :: f27 :: f28 :: f29 :: f30 :: f31 :: f32 :: f33 :: f34 :: f35 :: f36 :: f37 :: f38 :: f39 :: f40 :: f41 :: f42 :: f43 :: f44 :: f45 :: f46 :: f47 :: f48 :: f49 :: f50 :: f51 :: f52 :: f53 :: f54 :: f55 :: f56 :: f57 :: f58 :: f59 :: f60 :: f61 :: f62 :: f63 :: f64 :: f65 :: f66 :: f67 :: f68 :: f69 :: Value.slice (some ⟨g7, 0, none⟩) 2 2 :: Value.int .i64 2 :: Value.int .i64 0 :: f73 :: f74 :: f75 :: f76 :: f77 :: f78 :: f79 :: f80 :: f81 :: f82 :: f83 :: f84 :: f85 :: f86 :: f87 :: f88 :: f89 :: f90 :: f91 :: f92 :: f93 :: f94 :: f95 :: f96 :: f97 :: f98 :: f99 :: f100 :: f101 :: f102 :: f103 :: f104 :: f105 :: f106 :: f107 :: f108 :: f109 :: f110 :: f111 :: f112 :: f113 :: f114 :: f115 :: f116 :: f117 :: f118 :: f119 :: f120 :: f121 :: f122 :: f123 :: f124 :: f125 :: f126 :: f127 :: f128 :: f129 :: f130 :: f131 :: f132 :: f133 :: f134 :: f135 :: f136 :: f137 :: f138 :: f139 :: f140 :: f141 :: f142 :: f143 :: f144 :: f145 :: f146 :: f147 :: f148 :: f149 :: f150 :: f151 :: f152 :: f153 :: f154 :: f155 :: f156 :: f157 :: f158 :: f159 :: f160 :: f161 :: f162 :: f163 :: f164 :: f165 :: f166 :: f167 :: f168 :: f169 :: f170 :: f171 :: f172 :: f173 :: f174 :: f175 :: f176 :: f177 :: f178 :: f179 :: f180 :: f181 :: f182 :: f183 :: f184 :: f185 :: f186 :: f187 :: f188 :: f189 :: List.nil).toArray, []⟩ w := by
  have hFb : ∀ b ∈ F, w0.heap.size ≤ b := fun b hb => Nat.le_trans h0 (hP.lt b hb).1
  have HFb := Lib.hid hFb
  have HQ := Lib.hid hQ
  clear hFb hQ
  change Code.wp Tryz.prog (.block 4 (Code.loop _)) _ _ _
  go_wp2_with fail
  have HSh := Lib.hid hS
  have HPa := Lib.hid hPa
  have HOSh := Lib.hid hoS
  have HOPa := Lib.hid hoP
  have HCSh := Lib.hid hcS
  have HCPa := Lib.hid hcP
  have k1 : (leb Sh.length).length ≤ 10 := leb_len10 (by omega)
  have k2 : (leb Pa.length).length ≤ 10 := leb_len10 (by omega)
  have k3 := progs_len hlS hoS hcS Sh.length
  rw [List.take_length] at k3
  clear hS hPa hoS hoP hcS hcP
  have P1 := hP
  have S1 := Step.refl F w
  clear hP
  refine wp_loop_rounds 3 ?_
  rw [rounds_succ]
  have cB2 := B1.cell
  go_wp2_with fail
  refine (bcount_any Sh.length (by omega) _ _ _ _ _ P1 (by first | omega | (simp only [List.length_append]; omega))).mono ?_
  rintro e w2 ⟨rfl, F2, P2, s2⟩
  have S2 := S1.trans s2
  have B2 := B1.calm s2.1 hn1
  have hn2 : g7 ∉ F2 := fun h => by rcases s2.2 _ h with h | h; exact hn1 h; (have := B1.lt; omega)
  have E2 := S2.ext hx HFb.out
  clear P1 S1 B1 s2 cB2 hn1
  go_upto_block 6 with fail
  refine byt_b6 _ _ _ _ _ _ _ _ _ _ _ _ _ _ _ _ _ _ _ _ _ _ _ _ _ _ _ _ _ _ _ _ _ _ _ _ _ _ _ _ _ _ _ _ _ _ _ _ _ _ _ _ _ _ _ _ _ _ _ _ _ _ _ _ _ _ _ _ _ _ _ _ _ _ _ _ _ _ _ _ _ _ _ _ _ _ _ _ _ _ _ _ _ _ _ _ _ _ _ _ _ _ _ _ _ _ _ _ _ _ _ _ _ _ _ _ _ _ _ _ _ _ _ _ _ _ _ _ _ _ _ _ _ _ _ _ _ _ _ _ _ _ _ _ _ _ _ _ _ _ _ _ _ _ _ _ _ _ _ _ _ _ _ _ _ _ _ _ _ _ _ _ _ _ _ _ _ _ _ _ _ _ _ _ _ w0 false saa sac Sh _ _ _ _ _ P2 (by simp only [List.length_append]; omega) h0 E2 HSh.out HOSh.out HCSh.out (by omega) ?_
  intro d13 d15 d82 d83 d84 d85 d86 d87 d88 d89 d90 d91 d92 d93 d94 d95 d96 d97 d98 d99 d100 d101 d102 d103 d104 d105 d106 d107 d108 d109 d110 d111 d112 d113 F3 w3 P3 s3
  have S3 := S2.trans s3
  have B3 := B2.calm s3.1 hn2
  have hn3 : g7 ∉ F3 := fun h => by rcases s3.2 _ h with h | h; exact hn2 h; (have := B2.lt; omega)
  clear P2 S2 B2 s3 hn2 E2
  go_wp2
  rw [rounds_succ]
  have cB4 := B3.cell
  go_wp2_with fail
  refine (bcount_any Pa.length (by omega) _ _ _ _ _ P3 (by first | omega | (simp only [List.length_append]; omega))).mono ?_
  rintro e w4 ⟨rfl, F4, P4, s4⟩
  have S4 := S3.trans s4
  have B4 := B3.calm s4.1 hn3
  have hn4 : g7 ∉ F4 := fun h => by rcases s4.2 _ h with h | h; exact hn3 h; (have := B3.lt; omega)
  have E4 := S4.ext hx HFb.out
  clear P3 S3 B3 s4 cB4 hn3
  go_upto_block 6 with fail
  refine byt_b6 _ _ _ _ _ _ _ _ _ _ _ _ _ _ _ _ _ _ _ _ _ _ _ _ _ _ _ _ _ _ _ _ _ _ _ _ _ _ _ _ _ _ _ _ _ _ _ _ _ _ _ _ _ _ _ _ _ _ _ _ _ _ _ _ _ _ _ _ _ _ _ _ _ _ _ _ _ _ _ _ _ _ _ _ _ _ _ _ _ _ _ _ _ _ _ _ _ _ _ _ _ _ _ _ _ _ _ _ _ _ _ _ _ _ _ _ _ _ _ _ _ _ _ _ _ _ _ _ _ _ _ _ _ _ _ _ _ _ _ _ _ _ _ _ _ _ _ _ _ _ _ _ _ _ _ _ _ _ _ _ _ _ _ _ _ _ _ _ _ _ _ _ _ _ _ _ _ _ _ _ _ _ _ _ _ w0 true paa pac Pa _ _ _ _ _ P4 (by simp only [List.length_append]; omega) h0 E4 HPa.out HOPa.out HCPa.out (by omega) ?_
  intro d13 d15 d82 d83 d84 d85 d86 d87 d88 d89 d90 d91 d92 d93 d94 d95 d96 d97 d98 d99 d100 d101 d102 d103 d104 d105 d106 d107 d108 d109 d110 d111 d112 d113 F5 w5 P5 s5
  have S5 := S4.trans s5
  have B5 := B4.calm s5.1 hn4
  have hn5 : g7 ∉ F5 := fun h => by rcases s5.2 _ h with h | h; exact hn4 h; (have := B4.lt; omega)
  clear P4 S4 B4 s5 hn4 E4
  go_wp2
  rw [rounds_succ]
  go_wp2
  refine HQ.out _ _ _ _ _ _ _ _ _ _ _ _ _ _ _ _ _ _ _ _ _ _ _ _ _ _ _ _ _ _ _ _ _ _ _ _ _ _ _ _ _ _ _ _ _ _ _ _ ?_ S5
  simpa [seqE] using P5
set_option maxRecDepth 100000 in
set_option maxHeartbeats 4000000 in
theorem byt_b10 (f0 f1 f2 f4 f6 f7 f8 f9 f10 f11 f12 f13 f14 f15 f16 f17 f18 f19 f20 f21 f22 f23 f24 f25 f26 f27 f28 f29 f30 f31 f32 f33 f34 f35 f36 f37 f38 f39 f40 f41 f42 f43 f44 f45 f46 f47 f48 f49 f50 f51 f52 f53 f54 f55 f56 f57 f58 f59 f60 f61 f62 f63 f64 f65 f66 f67 f68 f69 f70 f71 f72 f73 f74 f75 f76 f77 f78 f79 f80 f81 f82 f83 f84 f85 f86 f87 f88 f89 f90 f91 f92 f93 f94 f95 f96 f97 f98 f99 f100 f101 f102 f103 f104 f105 f106 f107 f108 f109 f110 f111 f112 f113 f114 f115 f116 f117 f118 f119 f120 f124 f125 f126 f127 f128 f129 f130 f131 f132 f133 f134 f135 f136 f137 f138 f139 f140 f141 f142 f143 f144 f145 f146 f147 f148 f149 f150 f151 f152 f153 f154 f155 f156 f157 f158 f159 f160 f161 f162 f163 f164 f165 f166 f167 f168 f169 f170 f171 f172 f173 f174 f175 f176 f177 f178 f179 f180 f181 f182 f183 f184 f185 f186 f187 f188 f189 : Value) (w0 : World) (da : Option Addr) (dc : Nat) (dms : List DrM) (Ds : List Dr) (ns np nv : Nat) (w : World) (base p : Nat) (l : List Int) (F : List Nat) (hP : Buf w base p l F) (hl : l.length ≤ 700000) (h0 : w0.heap.size ≤ base) (hx : Ext w0 w) (hA : PArrG LD w0 (.slice da dms.length dc) dms) (hDl : dms.length = Ds.length) (hDi : ∀ (i : Nat) (m : DrM), dms[i]? = some m → ∃ d, Ds[i]? = some d ∧ m.is d ∧ Arr w0 .i64 m.ix.v d.idx) (hok : ∀ d ∈ Ds, d.fit ∧ chkD ns np nv d = 0) (hns : ns ≤ 64) (hnp : np ≤ 64) (hnv : nv ≤ 64) (hd32 : dms.length ≤ 32) {Q : Exit → Act → World → Prop}
    (hQ : ∀ (c17 c18 c20 c123 c124 c125 c126 c127 c128 c129 c130 c131 c132 c133 c134 c135 c136 c137 c138 c139 c140 c141 c142 c143 c144 c145 c146 c147 c148 c149 c150 c151 c152 c153 c154 c155 c156 c157 c158 c159 c160 c161 c162 c163 c164 c165 c166 c167 c168 c169 c170 c171 c172 c173 c174 c175 c176 c177 c178 c179 c180 c181 c182 c183 c184 c185 c186 c187 c188 : Value) (F' : List Nat) (wx : World), Buf wx base p (l ++ Ds.flatMap encD) F' → Step F F' w wx → Q .normal ⟨(f0 :: f1 :: f2 :: Value.pointer (some ⟨p, 0, none⟩) :: f4 :: Value.func (Fn.func 32) #[] #[.pointer (some ⟨p, 0, none⟩)] :: f6 :: f7 :: f8 :: f9 :: f10 :: f11 :: f12 :: f13 :: f14 :: f15 :: f16 :: c17 :: c18 :: f19 :: c20 :: f21 :: f22 :: f23 :: f24 :: f25 :: f26 :: f27 :: f28 :: f29 :: f30 :: f31 :: f32 :: f33 :: f34 :: f35 :: f36 :: f37 :: f38 :: f39 :: f40 :: f41 :: f42 :: f43 :: f44 :: f45 :: f46 :: f47 :: f48 :: f49 :: f50 :: f51 :: f52 :: f53 :: f54 :: f55 :: f56 :: f57 :: f58 :: f59 :: f60 :: f61 :: f62 :: f63 :: f64 :: f65 :: f66 :: f67 :: f68 :: f69 :: f70 :: f71 :: f72 :: f73 :: f74 :: f75 :: f76 :: f77 :: f78 :: f79 :: f80 :: f81 :: f82 :: f83 :: f84 :: f85 :: f86 :: f87 :: f88 :: f89 :: f90 :: f91 :: f92 :: f93 :: f94 :: f95 :: f96 :: f97 :: f98 :: f99 :: f100 :: f101 :: f102 :: f103 :: f104 :: f105 :: f106 :: f107 :: f108 :: f109 :: f110 :: f111 :: f112 :: f113 :: f114 :: f115 :: f116 :: f117 :: f118 :: f119 :: f120 :: Value.slice da dms.length dc :: Value.int .i64 (dms.length : Int) :: c123 :: c124 :: c125 :: c126 :: c127 :: c128 :: c129 :: c130 :: c131 :: c132 :: c133 :: c134 :: c135 :: c136 :: c137 :: c138 :: c139 :: c140 :: c141 :: c142 :: c143 :: c144 :: c145 :: c146 :: c147 :: c148 :: c149 :: c150 :: c151 :: c152 :: c153 :: c154 :: c155 :: c156 :: c157 :: c158 :: c159 :: c160 :: c161 :: c162 :: c163 :: c164 :: c165 :: c166 :: c167 :: c168 :: c169 :: c170 :: c171 :: c172 :: c173 :: c174 :: c175 :: c176 :: c177 :: c178 :: c179 :: c180 :: c181 :: c182 :: c183 :: c184 :: c185 :: c186 :: c187 :: c188 :: f189 :: List.nil).toArray, []⟩ wx) :
    Code.wp Tryz.prog (.block 10 (blockOf Tryz.f11 10)) Q ⟨(f0 :: f1 :: f2 :: Value.pointer (some ⟨p, 0, none⟩) :: f4 :: Value.func (Fn.func 32) #[] #[.pointer (some ⟨p, 0, none⟩)] :: f6 :: f7 :: f8 :: f9 :: f10 :: f11 :: f12 :: f13 :: f14 :: f15 :: f16 :: f17 :: f18 :: f19 :: f20 :: f21 :: f22 :: f23 :: f24 :: f25 :: f26 :: f27 :: f28 :: f29 :: f30 :: f31 :: f32 :: f33 :: f34 :: f35 :: f36 :: f37 :: f38 :: f39 :: f40 :: f41 :: f42 :: f43 :: f44 :: f45 :: f46 :: f47 :: f48 :: f49 :: f50 :: f51 :: f52 :: f53 :: f54 :: f55 :: f56 :: f57 :: f58 :: f59 :: f60 :: f61 :: f62 :: f63 :: f64 :: f65 :: f66 :: f67 :: f68 :: f69 :: f70 :: f71 :: f72 :: f73 :: f74 :: f75 :: f76 :: f77 :: f78 :: f79 :: f80 :: f81 :: f82 :: f83 :: f84 :: f85 :: f86 :: f87 :: f88 :: f89 :: f90 :: f91 :: f92 :: f93 :: f94 :: f95 :: f96 :: f97 :: f98 :: f99 :: f100 :: f101 :: f102 :: f103 :: f104 :: f105 :: f106 :: f107 :: f108 :: f109 :: f110 :: f111 :: f112 :: f113 :: f114 :: f115 :: f116 :: f117 :: f118 :: f119 :: f120 :: Value.slice da dms.length dc :: Value.int .i64 (dms.length : Int) :: Value.int .i64 0 :: f124 :: f125 :: f126 :: f127 :: f128 :: f129 :: f130 :: f131 :: f132 :: f133 :: f134 :: f135 :: f136 :: f137 :: f138 :: f139 :: f140 :: f141 :: f142 :: f143 :: f144 :: f145 :: f146 :: f147 :: f148 :: f149 :: f150 :: f151 :: f152 :: f153 :: f154 :: f155 :: f156 :: f157 :: f158 :: f159 :: f160 :: f161 :: f162 :: f163 :: f164 :: f165 :: f166 :: f167 :: f168 :: f169 :: f170 :: f171 :: f172 :: f173 :: f174 :: f175 :: f176 :: f177 :: f178 :: f179 :: f180 :: f181 :: f182 :: f183 :: f184 :: f185 :: f186 :: f187 :: f188 :: f189 :: List.nil).toArray, []⟩ w := by
  have hFb : ∀ b ∈ F, w0.heap.size ≤ b := fun b hb => Nat.le_trans h0 (hP.lt b hb).1
  have HFb := Lib.hid hFb
  have HQ := Lib.hid hQ
  clear hFb hQ
  change Code.wp Tryz.prog (.block 10 (Code.loop _)) _ _ _
  go_wp2_with fail
  have HA := Lib.hid hA
  have HDi := Lib.hid hDi
  have HDl := Lib.hid hDl
  have HOK := Lib.hid hok
  have hd32' : Ds.length ≤ 32 := by omega
  clear hA hDi hDl hok
  have hidx : ∀ d ∈ Ds, ∀ y ∈ d.idx, I64 y := fun d hd y hy => by
    by_cases hc : d.clears = true
    · obtain ⟨i, hi, rfl⟩ := List.mem_iff_getElem.1 hd
      have hi2 : i < dms.length := by rw [HDl.out]; exact hi
      obtain ⟨d', h1, -, h3⟩ := HDi.out i dms[i] (List.getElem?_eq_getElem hi2)
      rw [List.getElem?_eq_getElem hi] at h1
      cases h1
      obtain ⟨_, _, hwf⟩ := h3
      exact bounds_i64 (hwf y hy)
    · have := chkM_idx (chkD_tri (HOK.out d hd).2 (by simpa using hc)).2.2 y hy
      unfold I64
      omega
  have hfd := fun (j : Nat) => flat_len (e := encD) (b := 1006) (l := Ds.take j) (fun d hd => encD_len (HOK.out d (List.mem_of_mem_take hd)).1 (chkD_good (HOK.out d (List.mem_of_mem_take hd)).2) (hidx d (List.mem_of_mem_take hd)))
  have HIX := Lib.hid hidx
  clear hidx
  go_loopg [123] dms.length (fun k iv wr => ∃ (j : Nat) (F' : List Nat), j + k = dms.length ∧ iv = .int .i64 j ∧ Buf wr base p (l ++ (Ds.take j).flatMap encD) F' ∧ Step F F' w wr)
  case atStart => exact ⟨0, F, by omega, by simp, by simpa using hP, Step.refl _ _⟩
  case round =>
    obtain ⟨j, F8, hjk, rfl, P8, s8⟩ := hrel
    have e8 := s8.ext hx HFb.out
    have hfdj := hfd j
    have htl : (Ds.take j).length ≤ 32 := by simp; omega
    by_cases hj : j < dms.length
    · have hjI : (j : Int) < (dms.length : Int) := by omega
      obtain ⟨g, off, m, e0, -, hmx, hc⟩ := (HA.out.ext e8).nth j hj
      cases e0
      obtain ⟨d, hdx, hmd, hAd⟩ := HDi.out j m hmx
      obtain ⟨hdf, hck⟩ := HOK.out d (List.mem_of_getElem? hdx)
      have hdi := HIX.out d (List.mem_of_getElem? hdx)
      have HX := Lib.hid (show (Ds.take (j + 1)).flatMap encD = (Ds.take j).flatMap encD ++ encD d by rw [List.take_add_one, hdx]; simp)
      have R3 : wr.rangeAt g (off + j * 27) m.l := hc
      have Bz := Blk.new wr #[.int .u8 0, .bool false, .int .u8 0, .int .u8 0, .int .u8 0, .int .u8 0, .int .u8 0, .int .u8 0, .int .u8 0, .int .u8 0, .int .u8 0, .int .i64 0, .int .i64 0, .int .i64 0, .int .i64 0, .bool false, .int .u8 0, .int .u8 0, .int .u8 0, .int .u8 0, .int .i64 0, .int .u8 0, .int .u8 0, .int .i64 0, .int .i64 0, .int .u8 0, .slice none 0 0] 71
      have Bs := Bz.setRow m.l.toArray
      have e2 : Ext wr ((wr.alloc (.cells #[.int .u8 0, .bool false, .int .u8 0, .int .u8 0, .int .u8 0, .int .u8 0, .int .u8 0, .int .u8 0, .int .u8 0, .int .u8 0, .int .u8 0, .int .i64 0, .int .i64 0, .int .i64 0, .int .i64 0, .bool false, .int .u8 0, .int .u8 0, .int .u8 0, .int .u8 0, .int .i64 0, .int .u8 0, .int .u8 0, .int .i64 0, .int .i64 0, .int .u8 0, .slice none 0 0] 71)).setRow wr.heap.size m.l.toArray) := ((Ext.refl wr).alloc _ _).setRow (Nat.le_refl _) _
      have hone : m.l.toArray.all (·.oneCell') = true := by
        simp only [List.all_toArray, List.all_eq_true]
        exact LD.one _
      have hzl : m.l.length = 27 := rfl
      clear hc hmx hdx
      go_upto_region 36 with (first
        | refine wpList_load_mid rfl 71 (.tmp 125) rfl g (off + j * 27) rfl m.l _ R3 Tryz.underlying71 rfl (by kernel_rfl) ?_
        | ((with_reducible refine wpList_store_blk (op := ⟨none, .store 71 (.tmp 17) (.tmp 126), _, _, _, _⟩) ?_ 71 (.tmp 17) (.tmp 126) ?_ wr.heap.size ?_ (cs := m.l.toArray) ?_ (z := #[.int .u8 0, .bool false, .int .u8 0, .int .u8 0, .int .u8 0, .int .u8 0, .int .u8 0, .int .u8 0, .int .u8 0, .int .u8 0, .int .u8 0, .int .i64 0, .int .i64 0, .int .i64 0, .int .i64 0, .bool false, .int .u8 0, .int .u8 0, .int .u8 0, .int .u8 0, .int .i64 0, .int .u8 0, .int .u8 0, .int .i64 0, .int .i64 0, .int .u8 0, .slice none 0 0]) (T := 71) ?_ ?_ ?_ ?_ ?_); rfl; rfl; rfl; rfl; exact Bz; (rw [List.size_toArray, hzl]; kernel_rfl); exact hone; (simp))
        | fail)
      have hn9 : wr.heap.size ∉ F8 := fun h => by have := (P8.lt _ h).2; omega
      have P9 := P8.ext e2
      have S9 := s8.trans (Step.of_ext (F := F8) e2)
      have hw9 : w.heap.size ≤ wr.heap.size := s8.1.size
      clear R3 Bz hone hzl P8 s8 e2 e8
      generalize (wr.alloc (.cells #[.int .u8 0, .bool false, .int .u8 0, .int .u8 0, .int .u8 0, .int .u8 0, .int .u8 0, .int .u8 0, .int .u8 0, .int .u8 0, .int .u8 0, .int .i64 0, .int .i64 0, .int .i64 0, .int .i64 0, .bool false, .int .u8 0, .int .u8 0, .int .u8 0, .int .u8 0, .int .i64 0, .int .u8 0, .int .u8 0, .int .i64 0, .int .i64 0, .int .u8 0, .slice none 0 0] 71)).setRow wr.heap.size m.l.toArray = w9 at *
      generalize wr.heap.size = b17 at *
      obtain ⟨⟨dep, wr', ste, ref, msk, fai, hid, pas, ble, cha, cul, x0, y0, x1, y1⟩, clears, ⟨r, gg, b, a, cdep, sten, want⟩, vx, fr, kind, ⟨xa, xn, xc⟩⟩ := m
      obtain ⟨st, clears', cl, vx', fr', kind', idx⟩ := d
      obtain ⟨h1, h2, h3, h4, h5, h6⟩ := hmd
      simp only at h1 h2 h3 h4 h5 h6 hAd hdi
      subst h1 h2 h3 h4 h5 h6
      obtain ⟨⟨_, _, e, -⟩, -, -⟩ := id hAd
      cases e
      have hgd := (chkD_good hck).st
      have f1 := hdf.st
      have f2 := hdf.cl
      have f6 := hdf.kind
      simp only at f1 f2 f6 hgd
      have hbx := Stt.chk_box hgd
      have HEN := Lib.hid (by simp [Stt.enc] : (Stt.enc ⟨dep, wr', ste, ref, msk, fai, hid, pas, ble, cha, cul, x0, y0, x1, y1⟩).length = 15)
      have HBY := Lib.hid (Stt.enc_bd f1 hbx)
      have W9 := Pen.new (w := w9) (base := w9.heap.size) (Nat.le_refl _)
      have y9 : Ext w9 (w9.alloc (.cells #[.slice none 0 0] 87)) := (Ext.refl w9).alloc _ _
      have P10 := P9.ext y9
      have S10 := S9.trans (Step.of_ext (F := F8) y9)
      have B10 := Bs.ext y9
      have hz9 : w.heap.size ≤ w9.heap.size := S9.1.size
      have hnW : ∀ b ∈ F8, b ∉ [w9.heap.size] := fun b hb hin => by have := (P9.lt b hb).2; simp at hin; omega
      have hbW : b17 ∉ [w9.heap.size] := fun hin => by have := Bs.lt; simp at hin; omega
      have R10 := B10.mid 0 [.int .u8 dep, .bool wr', .int .u8 ste, .int .u8 ref, .int .u8 msk, .int .u8 fai, .int .u8 hid, .int .u8 pas, .int .u8 ble, .int .u8 cha, .int .u8 cul, .int .i64 x0, .int .i64 y0, .int .i64 x1, .int .i64 y1] rfl
      go_upto_region 37 with fail
      clear P9 S9 Bs y9
      generalize w9.alloc (.cells #[.slice none 0 0] 87) = w10 at *
      generalize w9.heap.size = pw at *
      go_wp2_with (first
        | refine wpList_load_mid rfl 64 (.tmp 129) rfl b17 0 rfl [.int .u8 dep, .bool wr', .int .u8 ste, .int .u8 ref, .int .u8 msk, .int .u8 fai, .int .u8 hid, .int .u8 pas, .int .u8 ble, .int .u8 cha, .int .u8 cul, .int .i64 x0, .int .i64 y0, .int .i64 x1, .int .i64 y1] _ R10 Tryz.underlying64 rfl (by kernel_rfl) ?_
        | fail)
      refine (sput_any ⟨dep, wr', ste, ref, msk, fai, hid, pas, ble, cha, cul, x0, y0, x1, y1⟩ f1 hbx _ _ _ _ _ W9 (by simp) (by have := (W9.lt pw (by simp)).2; omega)).mono ?_
      rintro e w11 ⟨rfl, Fw, W11, s11⟩
      have hen := HEN.out
      have P11 := P10.kept s11.1 hnW
      have S11 := S10.new s11.1 (fun g hg => by simp at hg; omega)
      have B11 := B10.calm s11.1 hbW
      rw [List.nil_append] at W11
      clear P10 S10 B10 R10 s11 W9 hnW hbW
      go_upto_region 38 with fail
      refine byt_r38 _ _ _ _ _ _ _ _ _ _ _ _ _ _ _ _ _ _ _ _ _ _ _ _ _ _ _ _ _ _ _ _ _ _ _ _ _ _ _ _ _ _ _ _ _ _ _ _ _ _ _ _ _ _ _ _ _ _ _ _ _ _ _ _ _ _ _ _ _ _ _ _ _ _ _ _ _ _ _ _ _ _ _ _ _ _ _ _ _ _ _ _ _ _ _ _ _ _ _ _ _ _ _ _ _ _ _ _ _ _ _ _ _ _ _ _ _ _ _ _ _ _ _ _ _ _ _ _ _ _ _ _ _ _ _ _ _ _ _ _ _ _ _ _ _ _ _ _ _ _ _ _ _ _ _ _ _ _ _ _ _ _ _ _ _ _ _ _ _ _ _ _ _ _ _ _ _ _ _ _ _ _ _ _ _ _ _ _ pw pw (Stt.enc ⟨dep, wr', ste, ref, msk, fai, hid, pas, ble, cha, cul, x0, y0, x1, y1⟩) Fw _ _ _ _ _ P11 (by simp only [List.length_append]; omega) W11 HBY.out (by omega) (by omega) ?_
      intro d133 d134 d135 d136 F12 w12 P12 s12
      have S12 := S11.trans s12
      have B12 := B11.calm s12.1 hn9
      have hn12 : b17 ∉ F12 := fun h => by rcases s12.2 _ h with h | h; exact hn9 h; (have := B11.lt; omega)
      have cB12 := B12.cell
      have hw12 : w.heap.size ≤ w12.heap.size := S12.1.size
      clear P11 S11 B11 s12 W11 hn9
      cases clears
      · obtain ⟨hv1, hv2, hv3⟩ := chkD_tri hck rfl
        have hv4 := chkM_idx hv3
        have hv5 := chkM_len hv3
        simp only at hv1 hv2 hv4 hv5
        obtain ⟨VX, rfl⟩ : ∃ n : Nat, vx = n := ⟨vx.toNat, by omega⟩
        obtain ⟨FR, rfl⟩ : ∃ n : Nat, fr = n := ⟨fr.toNat, by omega⟩
        have kv : (leb VX).length ≤ 10 := leb_len10 (by omega)
        have kf : (leb FR).length ≤ 10 := leb_len10 (by omega)
        have ki : (leb idx.length).length ≤ 10 := leb_len10 (by omega)
        have HV4 := Lib.hid hv4
        have HAD := Lib.hid hAd
        clear hck hdi hv3 hv4 hAd
        go_upto_region 42 with fail
        refine byt_r42 _ _ _ _ _ _ _ _ _ _ _ _ _ _ _ _ _ _ _ _ _ _ _ _ _ _ _ _ _ _ _ _ _ _ _ _ _ _ _ _ _ _ _ _ _ _ _ _ _ _ _ _ _ _ _ _ _ _ _ _ _ _ _ _ _ _ _ _ _ _ _ _ _ _ _ _ _ _ _ _ _ _ _ _ _ _ _ _ _ _ _ _ _ _ _ _ _ _ _ _ _ _ _ _ _ _ _ _ _ _ _ _ _ _ _ _ _ _ _ _ _ _ _ _ _ _ _ _ _ _ _ _ _ _ _ _ _ _ _ _ _ _ _ _ _ _ _ _ _ _ _ _ _ _ _ _ _ _ _ _ _ _ _ _ _ _ _ _ _ _ _ _ _ _ _ _ _ _ _ _ _ _ _ _ _ _ _ _ w0 b17 _ kind _ _ _ _ _ P12 (by simp only [List.length_append]; omega) h0 (S12.ext hx HFb.out) B12 rfl hn12 ?_
        intro d159 d160 d161 d162 d163 F13 w13 P13 s13
        have S13 := S12.trans s13
        have B13 := B12.calm s13.1 hn12
        have hn13 : b17 ∉ F13 := fun h => by rcases s13.2 _ h with h | h; exact hn12 h; (have := B12.lt; omega)
        have cB13 := B13.cell
        clear P12 S12 B12 s13 hn12 cB12
        go_wp2_with fail
        refine (bcount_any VX (by omega) _ _ _ _ _ P13 (by simp only [List.length_append, List.length_cons, List.length_nil]; omega)).mono ?_
        rintro e w14 ⟨rfl, F14, P14, s14⟩
        have S14 := S13.trans s14
        have B14 := B13.calm s14.1 hn13
        have hn14 : b17 ∉ F14 := fun h => by rcases s14.2 _ h with h | h; exact hn13 h; (have := B13.lt; omega)
        have cB14 := B14.cell
        clear P13 S13 B13 s14 hn13 cB13
        go_wp2_with fail
        refine (bcount_any FR (by omega) _ _ _ _ _ P14 (by simp only [List.length_append, List.length_cons, List.length_nil]; omega)).mono ?_
        rintro e w15 ⟨rfl, F15, P15, s15⟩
        have S15 := S14.trans s15
        have B15 := B14.calm s15.1 hn14
        have hn15 : b17 ∉ F15 := fun h => by rcases s15.2 _ h with h | h; exact hn14 h; (have := B14.lt; omega)
        have cB15 := B15.cell
        clear P14 S14 B14 s15 hn14 cB14
        go_wp2_with fail
        refine (bcount_any idx.length (by omega) _ _ _ _ _ P15 (by simp only [List.length_append, List.length_cons, List.length_nil]; omega)).mono ?_
        rintro e w16 ⟨rfl, F16, P16, s16⟩
        have S16 := S15.trans s16
        have B16 := B15.calm s16.1 hn15
        have hn16 : b17 ∉ F16 := fun h => by rcases s16.2 _ h with h | h; exact hn15 h; (have := B15.lt; omega)
        have cB16 := B16.cell
        clear P15 S15 B15 s16 hn15 cB15
        have e16 := S16.ext hx HFb.out
        go_upto_block 12 with fail
        refine byt_b12 _ _ _ _ _ _ _ _ _ _ _ _ _ _ _ _ _ _ _ _ _ _ _ _ _ _ _ _ _ _ _ _ _ _ _ _ _ _ _ _ _ _ _ _ _ _ _ _ _ _ _ _ _ _ _ _ _ _ _ _ _ _ _ _ _ _ _ _ _ _ _ _ _ _ _ _ _ _ _ _ _ _ _ _ _ _ _ _ _ _ _ _ _ _ _ _ _ _ _ _ _ _ _ _ _ _ _ _ _ _ _ _ _ _ _ _ _ _ _ _ _ _ _ _ _ _ _ _ _ _ _ _ _ _ _ _ _ _ _ _ _ _ _ _ _ _ _ _ _ _ _ _ _ _ _ _ _ _ _ _ _ _ _ _ _ _ _ _ _ _ _ _ _ _ _ _ _ _ _ _ _ _ _ _ _ w0 xa xc idx _ _ _ _ _ P16 (by simp only [List.length_append, List.length_cons, List.length_nil]; omega) h0 e16 HAD.out (fun y hy => by have := HV4.out y hy; omega) hv5 ?_
        intro d20 d180 d181 d182 d183 d184 d185 d186 d187 F17 w17 P17 s17
        have S17 := S16.trans s17
        clear P16 S16 B16 s17 hn16 cB16 e16
        go_wp2
        go_roundg (gk - 1)
        case measure => omega
        case rel => exact ⟨j + 1, F17, by omega, by simp, by rw [HX.out]; simpa [encD, seqE, encN] using P17, S17⟩
      · obtain ⟨hv1, hv2⟩ := chkD_clear hck rfl
        simp only at hv1 hv2
        obtain ⟨DP, rfl⟩ : ∃ n : Nat, cdep = n := ⟨cdep.toNat, by omega⟩
        clear hck hdi hAd
        go_upto_region 40 with fail
        refine byt_r40 _ _ _ _ _ _ _ _ _ _ _ _ _ _ _ _ _ _ _ _ _ _ _ _ _ _ _ _ _ _ _ _ _ _ _ _ _ _ _ _ _ _ _ _ _ _ _ _ _ _ _ _ _ _ _ _ _ _ _ _ _ _ _ _ _ _ _ _ _ _ _ _ _ _ _ _ _ _ _ _ _ _ _ _ _ _ _ _ _ _ _ _ _ _ _ _ _ _ _ _ _ _ _ _ _ _ _ _ _ _ _ _ _ _ _ _ _ _ _ _ _ _ _ _ _ _ _ _ _ _ _ _ _ _ _ _ _ _ _ _ _ _ _ _ _ _ _ _ _ _ _ _ _ _ _ _ _ _ _ _ _ _ _ _ _ _ _ _ _ _ _ _ _ _ _ _ _ _ _ _ _ _ _ _ _ _ _ _ b17 _ r gg b a sten want _ _ _ _ _ P12 (by simp only [List.length_append]; omega) B12 rfl rfl rfl rfl rfl rfl hn12 ?_
        intro d139 d140 d141 d142 d143 d144 d145 d146 d147 d148 d149 d150 d151 d152 d153 F13 w13 P13 s13
        have S13 := S12.trans s13
        have B13 := B12.calm s13.1 hn12
        have hn13 : b17 ∉ F13 := fun h => by rcases s13.2 _ h with h | h; exact hn12 h; (have := B12.lt; omega)
        have cB13 := B13.cell
        clear P12 S12 B12 s13 hn12 cB12
        go_wp2_with fail
        refine (bcount_any DP (by omega) _ _ _ _ _ P13 (by simp only [List.length_append, List.length_cons, List.length_nil]; omega)).mono ?_
        rintro e w14 ⟨rfl, F14, P14, s14⟩
        have S14 := S13.trans s14
        have B14 := B13.calm s14.1 hn13
        have hn14 : b17 ∉ F14 := fun h => by rcases s14.2 _ h with h | h; exact hn13 h; (have := B13.lt; omega)
        have cB14 := B14.cell
        clear P13 S13 B13 s14 hn13 cB13
        go_wp2
        go_roundg (gk - 1)
        case measure => omega
        case rel => exact ⟨j + 1, F14, by omega, by simp, by rw [HX.out]; simpa [encD, encN] using P14, S14⟩
    · obtain rfl : j = dms.length := by omega
      rw [HDl.out, List.take_length] at P8
      go_wp2
      exact HQ.out _ _ _ _ _ _ _ _ _ _ _ _ _ _ _ _ _ _ _ _ _ _ _ _ _ _ _ _ _ _ _ _ _ _ _ _ _ _ _ _ _ _ _ _ _ _ _ _ _ _ _ _ _ _ _ _ _ _ _ _ _ _ _ _ _ _ _ _ _ _ _ P8 s8
end Go.Proofs.YtbbfmlehddfneaaGreat

