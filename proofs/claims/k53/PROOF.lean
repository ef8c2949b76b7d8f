import PyProof.Rows.All
import Wide.All
import OpenK.AllK
import Wide.FinOn
import PyProof.EqAt
import PyProof.EqKinds
import PyProof.TupleCall
import Lean
import PySem.Challenge.RW_gapwords_k53_ties_and_no_answer
set_option Elab.async false
set_option linter.all false
set_option maxRecDepth 100000
section
set_option hygiene false
local macro_rules
|`(tactic|show 123)=>`(tactic|try walk_at "ev")
|`(tactic|show 124)=>`(tactic|exact h.elim)
|`(tactic|show 125)=>`(tactic|rfl)
|`(tactic|show 126)=>`(tactic|walk_at "ev")
|`(tactic|show 127)=>`(tactic|dsimp only)
|`(tactic|show 128)=>`(tactic|cases h)
|`(tactic|show 129)=>`(tactic|exact rfl)
|`(tactic|show 130)=>`(tactic|refine Ya ?_ ?_)
|`(tactic|show 131)=>`(tactic|split)
|`(tactic|show 132)=>`(tactic|exact Yc)
|`(tactic|show 133)=>`(tactic|subst e)
|`(tactic|show 134)=>`(tactic|exact ⟨rfl, rfl, rfl, by decide +kernel, rfl, by decide +kernel, by decide +kernel⟩)
|`(tactic|show 135)=>`(tactic|exact (jv 0))
|`(tactic|show 136)=>`(tactic|exact Yf)
|`(tactic|show 137)=>`(tactic|exact h1.elim)
|`(tactic|show 138)=>`(tactic|refine ZAA ?_)
|`(tactic|show 139)=>`(tactic|intro pins s σ H Q I h)
|`(tactic|show 140)=>`(tactic|exact (jv 4))
|`(tactic|show 141)=>`(tactic|exact (jv 1))
|`(tactic|show 142)=>`(tactic|cases rx)
local macro_rules
|`(tactic|show 143)=>`(tactic|rw [this])
|`(tactic|show 144)=>`(tactic|exact (jv 2))
|`(tactic|show 145)=>`(tactic|exact h'.elim)
|`(tactic|show 146)=>`(tactic|exact (jv 3))
|`(tactic|show 147)=>`(tactic|exact YW)
|`(tactic|show 148)=>`(tactic|rw [q] at h; exact h)
|`(tactic|show 149)=>`(tactic|cases ry)
|`(tactic|show 150)=>`(tactic|refine ZAB ?_)
|`(tactic|show 151)=>`(tactic|refine YM ?_)
|`(tactic|show 152)=>`(tactic|rw [q] at h; cases h)
|`(tactic|show 153)=>`(tactic|exact (jv 5))
|`(tactic|show 154)=>`(tactic|exact q)
|`(tactic|show 155)=>`(tactic|subst hP hw hK)
|`(tactic|show 156)=>`(tactic|refine Ye ?_)
|`(tactic|show 157)=>`(tactic|intro pins s σ H D I h)
|`(tactic|show 158)=>`(tactic|refine Yb ?_ ?_)
|`(tactic|show 159)=>`(tactic|repeat (any_goals (first | assumption | wp_step)))
|`(tactic|show 160)=>`(tactic|exact (fun _ => rfl))
|`(tactic|show 161)=>`(tactic|refine ⟨_, rfl, ?_⟩)
|`(tactic|show 162)=>`(tactic|refine Zt ?_ ?_)
local macro_rules
|`(tactic|show 163)=>`(tactic|intro pins s σ H x y v u Q I rx ry h)
|`(tactic|show 164)=>`(tactic|exact (fun _ _ => rfl))
|`(tactic|show 165)=>`(tactic|obtain ⟨t, rfl⟩ := rx)
|`(tactic|show 166)=>`(tactic|exact (nomark _))
|`(tactic|show 167)=>`(tactic|simpa using this)
|`(tactic|show 168)=>`(tactic|have hl := rv.length)
|`(tactic|show 169)=>`(tactic|exact YY)
|`(tactic|show 170)=>`(tactic|refine Zg ?_ ?_ ?_ ?_)
|`(tactic|show 171)=>`(tactic|exact XOk.ext x h)
|`(tactic|show 172)=>`(tactic|obtain ⟨f0, f1, f2, f3, f4, f5⟩ := hf it (by simp))
|`(tactic|show 173)=>`(tactic|refine Y4 ?_)
|`(tactic|show 174)=>`(tactic|subst q1)
|`(tactic|show 175)=>`(tactic|exact (jv 8))
|`(tactic|show 176)=>`(tactic|rw [z] at h; cases h)
|`(tactic|show 177)=>`(tactic|obtain ⟨vs, h1, h2⟩ := ob)
|`(tactic|show 178)=>`(tactic|have hn := line63)
|`(tactic|show 179)=>`(tactic|exact hu)
|`(tactic|show 180)=>`(tactic|by_cases hb : b = a)
|`(tactic|show 181)=>`(tactic|rw [ZAG (by decide)])
|`(tactic|show 182)=>`(tactic|obtain ⟨o', e1⟩ := I.base.there b o e hx)
local macro_rules
|`(tactic|show 183)=>`(tactic|by_cases e : p.1 = k)
|`(tactic|show 184)=>`(tactic|refine Yi ?_ ?_ ?_)
|`(tactic|show 185)=>`(tactic|rw [ZAF z] at h'; exact h'.elim)
|`(tactic|show 186)=>`(tactic|rw [q] at h'; exact h'.elim)
|`(tactic|show 187)=>`(tactic|have z_range := O.z_range)
|`(tactic|show 188)=>`(tactic|have z_len := O.z_len)
|`(tactic|show 189)=>`(tactic|obtain ⟨t, rfl⟩ := r; rfl)
|`(tactic|show 190)=>`(tactic|subst hT)
|`(tactic|show 191)=>`(tactic|intro pins s σ H xs us Q I r h)
|`(tactic|show 192)=>`(tactic|exact h' as H _ Ext.refl rp .bl)
|`(tactic|show 193)=>`(tactic|rw [q] at e; cases e)
|`(tactic|show 194)=>`(tactic|unfold pyNext)
|`(tactic|show 195)=>`(tactic|rcases hq with hq | hq)
|`(tactic|show 196)=>`(tactic|obtain ⟨x, rfl, dx⟩ := d.one)
|`(tactic|show 197)=>`(tactic|obtain ⟨sl, e1⟩ := I.base.slot b o e n hb hx)
|`(tactic|show 198)=>`(tactic|refine ZAA (ZAB ?_))
|`(tactic|show 199)=>`(tactic|obtain ⟨e, n, ne, nf, d⟩ := I.pin p hp)
|`(tactic|show 200)=>`(tactic|try with_reducible refine ZAd ?_)
|`(tactic|show 201)=>`(tactic|simp only [z] at h'; exact h'.elim)
|`(tactic|show 202)=>`(tactic|obtain ⟨os, hos, hcs, hds⟩ := id hs)
local macro_rules
|`(tactic|show 203)=>`(tactic|exact (show False from r).elim)
|`(tactic|show 204)=>`(tactic|exact absurd (show false = true from fx) ZAN)
|`(tactic|show 205)=>`(tactic|have fz := hf z (by simp))
|`(tactic|show 206)=>`(tactic|rw [q1, q2] at e'; cases e')
|`(tactic|show 207)=>`(tactic|show wpAny _ _ (Builtin.SmallTypes.nextOf (.ref i1) >>= _) _ _ _)
|`(tactic|show 208)=>`(tactic|exact h' as H _ Ext.refl rp .int)
|`(tactic|show 209)=>`(tactic|obtain ⟨as, ρ, st, en, rp, h⟩ := h)
|`(tactic|show 210)=>`(tactic|have z_isinstance := O.z_isinstance)
|`(tactic|show 211)=>`(tactic|rw [w] at h'; exact h'.elim)
|`(tactic|show 212)=>`(tactic|simp only [List.mem_cons, List.not_mem_nil, or_false, not_or] at hc; exact hc)
|`(tactic|show 213)=>`(tactic|intro value slice pins s σ H x y v u Q I rx ry h hs)
|`(tactic|show 214)=>`(tactic|simp only [List.mem_cons, List.not_mem_nil, or_false] at hb)
|`(tactic|show 215)=>`(tactic|intro wh pins s σ H Q I h)
|`(tactic|show 216)=>`(tactic|rw [r1, r2] at ez; cases ez)
|`(tactic|show 217)=>`(tactic|intro pins s σ H x v R I rx h)
|`(tactic|show 218)=>`(tactic|rw [h1] at k1; cases k1; rw [h2] at k2; exact absurd k2 (by decide))
|`(tactic|show 219)=>`(tactic|exact hQ h' s.toks fun b o hb e => b' b o (fun z => hb (by simp [z])) e)
|`(tactic|show 220)=>`(tactic|simp only [Bool.false_eq_true, if_false])
|`(tactic|show 221)=>`(tactic|intro pins s σ H R I ⟨as, ρ, st, en, rp, h⟩)
|`(tactic|show 222)=>`(tactic|refine ZAA (ZAA (ZB8 ?_)))
local macro_rules
|`(tactic|show 223)=>`(tactic|exact (jv 9))
|`(tactic|show 224)=>`(tactic|obtain ⟨t1, t2, t3, t4⟩ := tr e; exact hk _ v t1 t2 t3 t4 q)
|`(tactic|show 225)=>`(tactic|intro pins s σ H x v vl vu lo hi sl Q I rx hs pl pu h)
|`(tactic|show 226)=>`(tactic|exact (jv 6))
|`(tactic|show 227)=>`(tactic|rcases ZAf.mp hd with z | z)
|`(tactic|show 228)=>`(tactic|obtain ⟨u, rfl, t, rfl⟩ := vals1 r)
|`(tactic|show 229)=>`(tactic|rcases g with ⟨kvs, k, e, ey, l⟩ | ⟨kvs, k, b, e, ey, eb, l⟩)
|`(tactic|show 230)=>`(tactic|obtain ⟨h1, h2⟩ := h)
|`(tactic|show 231)=>`(tactic|exact Option.some.inj h1)
|`(tactic|show 232)=>`(tactic|rw [q] at h; exact h.elim)
|`(tactic|show 233)=>`(tactic|simp only [w] at h'; exact h'.elim)
|`(tactic|show 234)=>`(tactic|simp only [List.mem_cons, List.not_mem_nil, or_false] at hm)
|`(tactic|show 235)=>`(tactic|rcases hc' with rfl | z1)
|`(tactic|show 236)=>`(tactic|obtain ⟨v, rfl, d1⟩ := d.one)
|`(tactic|show 237)=>`(tactic|exact ZAB ⟨rfl, rfl⟩)
|`(tactic|show 238)=>`(tactic|rw [q1] at e'; cases e')
|`(tactic|show 239)=>`(tactic|obtain ⟨t', rfl⟩ := ry)
|`(tactic|show 240)=>`(tactic|refine Yl ?_ ?_ ?_)
|`(tactic|show 241)=>`(tactic|exact (Ze Zz))
|`(tactic|show 242)=>`(tactic|exact Zq)
local macro_rules
|`(tactic|show 243)=>`(tactic|refine WH ?_)
|`(tactic|show 244)=>`(tactic|exact Z8)
|`(tactic|show 245)=>`(tactic|simp only [List.mem_cons, List.not_mem_nil, or_false] at hc)
|`(tactic|show 246)=>`(tactic|exact PassesOwn.never)
|`(tactic|show 247)=>`(tactic|rw [ZAJ])
|`(tactic|show 248)=>`(tactic|refine je_B (id := "len") ?_ ?_ ?_ ?_ ?_)
|`(tactic|show 249)=>`(tactic|refine wpAny_bind (wpAny_setField_rec hI (by simp) fun h1 g1 b1 => ?_))
|`(tactic|show 250)=>`(tactic|obtain ⟨z, hd, vs, rel, dd⟩ := Jc I.hok e)
|`(tactic|show 251)=>`(tactic|subst ey)
|`(tactic|show 252)=>`(tactic|refine Zn ?_ ?_ ?_)
|`(tactic|show 253)=>`(tactic|cases (show u = Value.ref b from ry))
|`(tactic|show 254)=>`(tactic|refine Yx ?_ ?_)
|`(tactic|show 255)=>`(tactic|refine J2 ?_ ?_ ?_ ?_ ?_ ?_ ?_ ?_)
|`(tactic|show 256)=>`(tactic|rcases hc with rfl | rfl | rfl | rfl | rfl)
|`(tactic|show 257)=>`(tactic|have hT : s.TypeIs (.ref z) "zip" := ⟨_, hz, rfl⟩)
|`(tactic|show 258)=>`(tactic|exact ⟨o, e, fun v z => by rw [d] at z; cases z⟩)
|`(tactic|show 259)=>`(tactic|exact WD)
|`(tactic|show 260)=>`(tactic|have f1 := hf i1 (by simp))
|`(tactic|show 261)=>`(tactic|refine Z4 ?_)
|`(tactic|show 262)=>`(tactic|show wpAny _ _ (field (.ref z) 2 >>= _) _ _ _)
local macro_rules
|`(tactic|show 263)=>`(tactic|obtain ⟨i, j, rfl, rfl, q⟩ := h)
|`(tactic|show 264)=>`(tactic|rcases hc with rfl | rfl | rfl | rfl <;> assumption)
|`(tactic|show 265)=>`(tactic|exact Yr)
|`(tactic|show 266)=>`(tactic|rw [show its.toArray.any (eqU x) = its.any (eqU x) by simp, Vn r fs])
|`(tactic|show 267)=>`(tactic|obtain ⟨z, hd, xs, rel, dd⟩ := Yah I.hok e)
|`(tactic|show 268)=>`(tactic|exact PySem.F.plainAttrs_list)
|`(tactic|show 269)=>`(tactic|exact z_range)
|`(tactic|show 270)=>`(tactic|show wpAny _ _ (field (.ref z) 3 >>= _) _ _ _)
|`(tactic|show 271)=>`(tactic|show wpAny _ _ (Builtin.SmallTypes.ownedTupleIsFree (.ref z) >>= _) _ _ _)
|`(tactic|show 272)=>`(tactic|have f2 := hf i2 (by simp))
|`(tactic|show 273)=>`(tactic|intro C s₀ H₀ ex)
|`(tactic|show 274)=>`(tactic|exact PySem.F.type_list_append)
|`(tactic|show 275)=>`(tactic|exact F__law_cell_at)
|`(tactic|show 276)=>`(tactic|exact ZX)
|`(tactic|show 277)=>`(tactic|exact YF)
|`(tactic|show 278)=>`(tactic|exact sc.nd)
|`(tactic|show 279)=>`(tactic|exact (hr.mono (by decide)))
|`(tactic|show 280)=>`(tactic|exact PySem.F.slot_list_append)
|`(tactic|show 281)=>`(tactic|refine Yn ?_)
|`(tactic|show 282)=>`(tactic|have fTO := hf TO (by simp))
local macro_rules
|`(tactic|show 283)=>`(tactic|exact I.fpOk (ZAI _) (I.hok.fresh (ZAI _)))
|`(tactic|show 284)=>`(tactic|exact (YH (by decide)))
|`(tactic|show 285)=>`(tactic|refine Zl ?_ ?_ ?_ ?_)
|`(tactic|show 286)=>`(tactic|have hu8 := Yu hr)
|`(tactic|show 287)=>`(tactic|have : its.toArray.size = i := by simp; omega)
|`(tactic|show 288)=>`(tactic|refine Y3 ?_ ?_ ?_ ?_ ?_)
|`(tactic|show 289)=>`(tactic|have e : b = it := by simpa using hb)
|`(tactic|show 290)=>`(tactic|refine WE ?_)
|`(tactic|show 291)=>`(tactic|exact Wh)
|`(tactic|show 292)=>`(tactic|exact z_len)
|`(tactic|show 293)=>`(tactic|intro X hP hw hK hc i pins s σ H E I hf st hg)
|`(tactic|show 294)=>`(tactic|obtain ⟨h1, h2, ⟨u0, v0, h3⟩, h4, h5⟩ := st)
|`(tactic|show 295)=>`(tactic|refine WW ?_ ?_)
|`(tactic|show 296)=>`(tactic|exact ZD)
|`(tactic|show 297)=>`(tactic|first | exact Or.inl rfl | exact Or.inr rfl)
|`(tactic|show 298)=>`(tactic|refine Zf ?_ ?_ ?_ ?_)
|`(tactic|show 299)=>`(tactic|rw [f1, f2])
|`(tactic|show 300)=>`(tactic|refine Ys (ps := ["_law_script", "_law_k"]) (k := 1) ?_ ?_ ?_ ?_)
|`(tactic|show 301)=>`(tactic|exact VB)
|`(tactic|show 302)=>`(tactic|refine ZAA (ZAl hz rfl (x := .bool false) rfl ?_))
local macro_rules
|`(tactic|show 303)=>`(tactic|have e : b = s.heap.objs.size := by simpa using hb)
|`(tactic|show 304)=>`(tactic|have hu := YI hr)
|`(tactic|show 305)=>`(tactic|obtain ⟨o, e, c, d⟩ := st)
|`(tactic|show 306)=>`(tactic|refine je_M (T := "list") (id := "list.append") ?_ ?_ ?_ ?_ ?_ ?_ ?_)
|`(tactic|show 307)=>`(tactic|refine ⟨?_, ?_, ?_⟩)
|`(tactic|show 308)=>`(tactic|intro f cdv A outer s H E hr)
|`(tactic|show 309)=>`(tactic|refine Ym ?_ ?_ ?_ ?_)
|`(tactic|show 310)=>`(tactic|exact Ve)
|`(tactic|show 311)=>`(tactic|refine ZAA (ZAl hz rfl (x := .ref TI) rfl (ZAA (ZAy hTI rfl ?_))))
local macro_rules|`(tactic|show $n:num)=>do
 let some l:=("308 110;158 109;156 281;279 129 130;184 277;284 74 240;17 132;129 297;184 265;132 132;240 72;293 155;136 164;18 132;285 179;3 135;7 242;130 141;130 144;158 252;165 239;299 123;136 136;27 8;19 170;130 136;158 73;156 109;2 310;8 136;248 296 112;126 190;174 161;163 263 20;241 10;8 135;114 306 117 280 274;1 147;4 113;173 261;184 276;151 135;156 252;1 39;14 141;251 250;245 256;245 264;266 154;162 255;254 240;243 8;257 194;303 133 283;287 143;132 1;166 120;164 136;128 177;282 260 272;251 253 267;119 25;3 146;77 305 258;40 136 175;2 146;2 144;26 41;15 132;11 294;11 172;262 302 270 311 271;278 7;288 246 129;273 307;295 129;298 129 269;289 133;130 135;179 141;116 76;115 132;75 111 111 244;126 247;123 190;123 247;143 125;130 140;130 29;179 135;132 136;226 81;140 226;140 160;146 140;127 131;127 249;142 149;82 42;79 146;3 121;118 118;44 4;43 80;30 78;179 144 226;130 153 9;122 12;4 14;309 72;304 286;254 10;129 292 291;184 259;156 290;130 146;132 26;301 268;25 25;300 275 15;28 169;223 130;14 144".splitOn ";")[n.getNat]?|Lean.Macro.throwUnsupported
 let a:=(l.splitOn " ").toArray.map fun s=>Lean.Syntax.mkNumLit s
 `(tactic|($[show $a:num];*))
set_option hygiene true
abbrev VSP := PySem.Value -> PySem.Shared -> Prop
abbrev LAO := List (PySem.Addr × PySem.Obj)
abbrev SOV := PySem.Str -> Option PySem.Value
open PySem.W (Frag fnOf nsIn)
section
open PySem PySem.Spec PyProof.Rows
def ZAA := @wpAny_bind
def ZAB := @wpAny_pure
def ZAC := @Heap.get?_push_of_some
def ZAD := @List.getElem?_eq_some_iff
def ZAE := @Heap.lt_size
def ZAF := @if_neg
def ZAG := @if_pos
def ZAH := @List.length_append
def ZAI := @Nat.le_refl
def ZAJ := @List.length_map
def ZAK := @Heap.get?_push_size
def ZAL := @Nat.ne_of_lt
def ZAM := @Nat.lt_of_lt_of_le
def ZAN := @Bool.false_ne_true
def ZAO := @List.getElem?_eq_getElem
def ZAP := @List.getElem?_set_ne
def ZAQ := @List.mem_cons_self
def ZAR := @Nat.le_trans
def ZAS := @List.map_append
def ZAT := @List.mem_cons_of_mem
def ZAU := @List.getElem?_set_self
def ZAV := @List.length_singleton
def ZAW := @decide_eq_false
def ZAX := @List.getElem?_map
def ZAY := @List.map_cons
def ZAZ := @List.mem_cons
def ZAa := @Heap.size_push
def ZAb := @List.mem_map
def ZAc := @List.mem_append_right
def ZAd := @wpAny_holding
def ZAe := @wpAny_call_entry
def ZAf := @List.mem_append
def ZAg := @List.mem_singleton
def ZAh := @decide_eq_true
def ZAi := @Bool.and_eq_true
def ZAj := @List.size_toArray
def ZAk := @wpAny_newObj_type
def ZAl := @wpAny_field
def ZAm := @List.length_take
def ZAn := @List.getElem?_eq_none_iff
def ZAo := @List.take_succ_eq_append_getElem
def ZAq := @List.map_map
def ZAr := @List.getElem?_eq_none
def ZAs := @List.take_length
def ZAt := @Heap.get?_update_other
def ZAu := @List.getElem_mem
def ZAv := @List.take_add_one
def ZAw := @Nat.lt_succ_of_lt
def ZAx := @List.flatMap_cons
def ZAy := @wpAny_seqItems
def ZAz := @Nat.lt_succ_self
def ZA0 := @List.getElem?_append_left
def ZA1 := @Ne.symm
def ZA2 := @List.foldl_cons
def ZA3 := @List.find?_eq_none
def ZA4 := @List.length_cons
def ZA5 := @Nat.ne_of_gt
def ZA6 := @List.all_eq_true
def ZA7 := @wpAny_mono
def ZA8 := @Int.toNat_natCast
def ZA9 := @of_decide_eq_true
def ZBA := @List.append_assoc
def ZBB := @List.length_range
def ZBC := @List.getD_eq_getElem?_getD
def ZBD := @List.lookup_cons
def ZBE := @wpAny_Call_Name_kw
def ZBF := @Heap.get?_update_self
def ZBG := @List.take_append_drop
def ZBH := @List.mem_of_getElem?
def ZBI := @Bool.and_eq_true_iff
def ZBJ := @Nat.lt_irrefl
def ZBK := @congrArg
def ZBL := @List.length_drop
def ZBM := @Nat.zero_le
def ZBN := @Option.map_eq_none_iff
def ZBO := @wpAny_typeOf
def ZBP := @wpAny_passesOwn
def ZBQ := @Array.getElem?_toList
def ZBR := @List.set_getElem_self
def ZBS := @List.any_cons
def ZBT := @List.getElem?_append_right
def ZBU := @wpAny_attempt
def ZBV := @wpAny_setState_of
def ZBW := @Nat.le_of_lt
def ZBX := @wpAny_askSetting
def ZBY := @List.filterMap_cons_none
def ZBZ := @List.filterMap_cons_some
def ZBa := @List.length_reverse
def ZBb := @List.flatMap_append
def ZBc := @List.all_cons
def ZBd := @List.append_nil
def ZBe := @List.find?_cons
def ZBf := @List.take_of_length_le
def ZBg := @Array.getElem?_eq_none
def ZBh := @wpAny_truthy_bool
def ZBi := @List.any_eq_false
def ZBj := @List.foldl_append
def ZBk := @List.mem_append_left
def ZBl := @wpAny_rule
def ZBm := @wpAny_pyIter_zip
def ZBn := @wpAny_isInstance
def ZBo := @Nat.le_add_right
def ZBp := @List.mem_flatMap
def ZBq := @Value.isStrOf_shape
def ZBr := @List.of_mem_zip
def ZBs := @List.length_set
def ZBt := @wpAny_Constant_int
def ZBu := @Nat.lt_of_le_of_lt
def ZBv := @List.mem_range
def ZBw := @List.length_eq_zero_iff
def ZBx := @List.reverse_cons
def ZBy := @Option.isSome_map
def ZBz := @wpAny_pyIter_list
def ZB0 := @wpAny_execs_nil
def ZB1 := @List.nodup_cons
def ZB2 := @wpAny_updateSeq_pair
def ZB3 := @wpAny_runValue
def ZB4 := @List.mem_filterMap
def ZB5 := @decide_eq_true_iff
def ZB6 := @List.idxOf_lt_length_of_mem
def ZB7 := @List.length_eraseIdx_of_lt
def ZB8 := @wpAny_onRaise
def ZB9 := @wpAny_sequenceKey
def ZCA := @List.nodup_append
def ZCB := @Bool.eq_false_iff
def ZCC := @List.find?_append
def ZCD := @List.pairwise_map
def ZCE := @wpAny_load
def ZCF := @wpAny_letOwnedTupleGo_zip
def ZCG := @Array.getElem?_eq_getElem
def ZCH := @List.drop_eq_getElem_cons
def ZCI := @List.map_nil
def ZCJ := @List.set_eq_of_length_le
def ZCK := @wpAny_forIn_list
def ZCL := @Nat.min_eq_right
def ZCM := @List.all_map
def ZCN := @List.mem_filter
def ZCO := @wpAny_specialOf
def ZCP := @wpAny_ite_split
def ZCQ := @wpAny_Slice
def ZCR := @Option.map_eq_some_iff
def ZCS := @Nat.le_succ
def ZCT := @wpAny_letGo
def ZCU := @List.drop_of_length_le
def ZCV := @List.filterMap_append
def ZCW := @Array.mem_of_getElem?
def ZCX := @List.set_append_right
def ZCY := @Bool.not_false
def ZCZ := @Array.mem_toList_iff
def ZCa := @Nat.not_lt
def ZCb := @Bool.false_or
def ZCc := @wpAny_standAt
def ZCd := @Bool.not_true
def ZCe := @List.sum_cons
def ZCf := @List.set_set
end
set_option Elab.async false
set_option linter.all false
set_option maxRecDepth 100000
namespace L2
open PySem PySem.Spec PyProof.Rows
abbrev Key := Sum Int Str
def Ynr : Key -> Value -> Bool
 | .inl k, v => Value.isInt k v
 | .inr x, v => Value.isStrOf x v
def YpY (w : World) : Key -> Int
 | .inl k => hashInt k
 | .inr x => hashStr w x
theorem Yv : ∀ {k : Key} {v : Value}, Ynr k v = true -> (∃ i t, k = Sum.inl i /\ v = Value.int i t) \/ (∃ x t, k = Sum.inr x /\ v = Value.str x t)
 | .inl i, v, h => by
  obtain ⟨t, e⟩ := Value.isInt_shape (k := i) (v := v) h
  exact .inl ⟨i, t, rfl, e⟩
 | .inr x, v, h => by
  obtain ⟨t, e⟩ := ZBq (x := x) (v := v) h
  exact .inr ⟨x, t, rfl, e⟩
theorem Yen (i : Int) (t : Tok) : Ynr (.inl i) (.int i t) = true := by simp [Ynr, Value.isInt]
theorem YeB (x : Str) (t : Tok) : Ynr (.inr x) (.str x t) = true := by simp [Ynr, Value.isStrOf]
theorem YjX (a b : Int) : decide ((Sum.inl a : Key) = Sum.inl b) = (a == b) := by
 by_cases e : a = b
 ·subst e; simp
 ·have h : ¬ (Sum.inl a : Key) = Sum.inl b := fun q => e (Sum.inl.inj q)
  rw [ZAW h]
  exact (beq_eq_false_iff_ne.mpr e).symm
theorem Yke (a b : Str) : decide ((Sum.inr a : Key) = Sum.inr b) = decide (a = b) := by
 by_cases e : a = b
 ·subst e; simp
 ·have h : ¬ (Sum.inr a : Key) = Sum.inr b := fun q => e (Sum.inr.inj q)
  rw [ZAW h, ZAW e]
theorem Ykv (a : Int) (b : Str) : decide ((Sum.inl a : Key) = Sum.inr b) = false := ZAW (fun q => nomatch q)
theorem Yj2 (a : Str) (b : Int) : decide ((Sum.inr a : Key) = Sum.inl b) = false := ZAW (fun q => nomatch q)
def YlC (prog : Program) (w : World) : PySem.KeyKind prog w Key where
 is := Ynr
 hash := YpY w
 inj := fun v a b ha hb => by
  rcases Yv ha with ⟨i, t, rfl, rfl⟩ | ⟨x, t, rfl, rfl⟩
  ·rcases Yv hb with ⟨j, u, rfl, e⟩ | ⟨y, u, rfl, e⟩
   ·injection e with e1 _; rw [e1]
   ·exact nomatch e
  ·rcases Yv hb with ⟨j, u, rfl, e⟩ | ⟨y, u, rfl, e⟩
   ·exact nomatch e
   ·injection e with e1 _; rw [e1]
 byValue := fun k v h => by
  rcases Yv h with ⟨i, t, rfl, rfl⟩ | ⟨x, t, rfl, rfl⟩ <;> rfl
 pyHash := fun hv h => by
  rcases Yv hv with ⟨i, t, rfl, rfl⟩ | ⟨x, t, rfl, rfl⟩
  ·exact wpAny_pyHash_int h
  ·exact wpAny_pyHash_str h
 eqBool := fun hu hv h => by
  rcases Yv hu with ⟨i, t, rfl, rfl⟩ | ⟨x, t, rfl, rfl⟩
  ·rcases Yv hv with ⟨j, u, rfl, rfl⟩ | ⟨y, u, rfl, rfl⟩
   ·rw [YjX] at h; exact wpAny_eqBool_int h
   ·rw [Ykv] at h; exact SeqAt.EqAt.int_str i t y u _ _ _ _ h
  ·rcases Yv hv with ⟨j, u, rfl, rfl⟩ | ⟨y, u, rfl, rfl⟩
   ·rw [Yj2] at h; exact SeqAt.EqAt.str_int x t j u _ _ _ _ h
   ·rw [Yke] at h; exact wpAny_eqBool_str h
 «strs» := fun k x t v h => by
  rcases Yv h with ⟨i, u, rfl, e⟩ | ⟨y, u, rfl, e⟩
  ·exact nomatch e
  ·injection e with e1 _
   subst e1
   cases v <;> rfl
theorem YbQ (prog : Program) (w : World) (i : Int) (t : Tok) : (YlC prog w).is (.inl i) (.int i t) = true := Yen i t
theorem YbL (prog : Program) (w : World) (x : Str) (t : Tok) : (YlC prog w).is (.inr x) (.str x t) = true := YeB x t
end L2
namespace L2
open PySem PySem.Spec PyProof.Rows
inductive V where
 | non | bl (b : Bool) | int (i : Int) | str (x : Str) | byt (b : Array UInt8) | flt (b : UInt64) | ref (a : Addr) | ty (n : String)
 deriving DecidableEq
def RelV : V -> Value -> Prop
 | .non, u => u = Value.none
 | .bl b, u => u = Value.bool b
 | .int i, u => ∃ t, u = Value.int i t
 | .str x, u => ∃ t, u = Value.str x t
 | .byt b, u => ∃ t, u = Value.bytes b t
 | .flt b, u => ∃ t, u = Value.float b t
 | .ref a, u => u = Value.ref a
 | .ty n, u => u = Value.type n
abbrev Vals : List V -> List Value -> Prop := Paired RelV
theorem Vals.length {xs : List V} {us : List Value} (r : Vals xs us) : xs.length = us.length := Paired.length r
theorem Vals.get : ∀ {xs : List V} {us : List Value} {i : Nat} {x : V}, Vals xs us -> xs[i]? = some x -> ∃ u, us[i]? = some u /\ RelV x u
 | _, _, _, _, .nil, e => by simp at e
 | _, _, 0, _, .cons r _, e => by simp at e; subst e; exact ⟨_, rfl, r⟩
 | _, _, i + 1, x, .cons _ t, e => by
  obtain ⟨u, h1, h2⟩ := Vals.get (i := i) (x := x) t (by simpa using e)
  exact ⟨u, by simpa using h1, h2⟩
theorem Vals.set {x : V} {u : Value} (r : RelV x u) : ∀ {xs : List V} {us : List Value} (i : Nat), Vals xs us -> Vals (xs.set i x) (us.set i u)
 | _, _, _, .nil => .nil
 | _, _, 0, .cons _ t => .cons r t
 | _, _, i + 1, .cons q t => .cons q (Vals.set r i t)
theorem Vals.append : ∀ {xs ys : List V} {us ws : List Value}, Vals xs us -> Vals ys ws -> Vals (xs ++ ys) (us ++ ws)
 | _, _, _, _, .nil, s => s
 | _, _, _, _, .cons r t, s => .cons r (Vals.append t s)
theorem Vals.take : ∀ {xs : List V} {us : List Value} (n : Nat), Vals xs us -> Vals (xs.take n) (us.take n)
 | _, _, 0, _ => .nil
 | _, _, _ + 1, .nil => .nil
 | _, _, n + 1, .cons r t => .cons r (Vals.take n t)
theorem Vals.drop : ∀ {xs : List V} {us : List Value} (n : Nat), Vals xs us -> Vals (xs.drop n) (us.drop n)
 | _, _, 0, r => r
 | _, _, _ + 1, .nil => .nil
 | _, _, n + 1, .cons _ t => Vals.drop n t
def Ynb : Option V -> Option Value -> Prop
 | some v, some u => RelV v u
 | none, none => True
 | _, _ => False
def KV {κ : Type} : List (κ × V) -> List (κ × Value) -> Prop := Paired fun (p : κ × V) (q : κ × Value) => p.1 = q.1 /\ RelV p.2 q.2
def kV : Key -> V
 | .inl i => .int i
 | .inr x => .str x
inductive HO where
 /-- a list -/
 | lst (xs : List V)
 /-- a tuple (never changes) -/
 | tup (xs : List V)
 /-- a dict whose keys are ints and texts; one whose keys are tuples of ints and texts (the empty one is both) -/
 | dK (kvs : List (Key × V)) | dT (kvs : List (List Key × V))
 /-- a set of ints: its members, its size -/
 | set (S : Int -> Bool) (n : Nat)
 /-- an instance of the class at C, its dict at dx, its attributes -/
 | ins (C dx : Addr) (fs : List (Str × V))
 /-- the dict of the instance at x -/
 | own (x : Addr)
 /-- the dict of an exception -/
 | xd (fs : List (Str × V))
 /-- a bound method, f of x -/
 | met (f x : Addr)
 /-- a range object lo, lo + 1, .. below hi -/
 | rng (lo hi : Int)
 /-- a thing that is known to the object (the script; a dict while a loop walks it): read, never written while it is so -/
 | frz (o : Obj) (u : HO)
 /-- a code object's table -/
 | tbl (ps : Array Value)
 /-- any other thing, by what is true of its one object (a def of one's own: SetO a S n := HO.ext fun h => ..) -/
 | ext (φ : Heap -> Prop)
abbrev Hp := Addr -> Option HO
def upd (H : Hp) (a : Addr) (o : HO) : Hp := fun b => if b = a then some o else H b
theorem Yj {H : Hp} {a : Addr} {o : HO} : upd H a o a = some o := by unfold upd; rw [if_pos rfl]
theorem Yg {H : Hp} {a b : Addr} {o : HO} (h : b ≠ a) : upd H a o b = H b := by unfold upd; rw [if_neg h]
theorem YkG {H : Hp} {a b : Addr} {o u : HO} (h : H a = some o) (h' : H b = some u) (d : o ≠ u) : a ≠ b := by
 intro e; subst e; rw [h] at h'; exact d (Option.some.inj h')
theorem Yd {H : Hp} {a b : Addr} {o : HO} (h : H a = some o) (h' : H b = none) : a ≠ b := by
 intro e; subst e; rw [h] at h'; cases h'
section
variable (P : Program) (w : World)
def YlZ (H : Hp) (h : Heap) (a : Addr) : HO -> Prop
 | .lst xs => xs.length <= sizeLine /\ ∃ (its : List Value) (n : Nat), Vals xs its /\ h.get? a = some { cls := .type "list", data := .seq its.toArray n }
 | .tup xs => xs.length <= sizeLine /\ ∃ its : List Value, Vals xs its /\ IsTup h a its.toArray
 | .dK kvs => kvs.length <= sizeLine /\ (a == sysModules) = false /\ ∃ vs, KV kvs vs /\ h.DictOf (YlC P w) a vs
 | .dT kvs => kvs.length <= sizeLine /\ (a == sysModules) = false /\ ∃ xs : List (List Key × Addr × Value),
  Paired (fun (p : List Key × V) (q : List Key × Addr × Value) => p.1 = q.1 /\ H q.2.1 = some (.tup (p.1.map kV)) /\ RelV p.2 q.2.2) kvs xs /\
  ∃ o es ep, h.get? a = some o /\ o.ExactDict /\ o.data = .dict es ep /\ es.toList = xs.map (entryOfKey (tupleKind (YlC P w))) /\ (xs.map (·.1)).Nodup
 | .set S n => h.SetOf (intKind P w) a S n
 | .ins C dx fs => H dx = some (.own a) /\ fs.length <= 1000 /\ dx ≠ a /\ h.get? a = some (PySem.W.instObj C dx) /\
  ∃ mA, h.Ns1 dx mA /\ (∀ f, Ynb (fs.lookup f) (mA f)) /\ PySem.Within mA (fs.map (·.1))
 | .own _ => ∃ o, h.get? a = some o
 | .xd fs => ∃ mA, h.Ns1 a mA /\ ∀ f, Ynb (fs.lookup f) (mA f)
 | .rng lo hi => ∃ t u v, h.get? a = some { cls := .type "range", data := .fields #[.int lo t, .int hi u, .int 1 v] }
 | .frz o u => h.get? a = some o /\ YlZ H h a u
 | .tbl ps => h.get? a = some { cls := .none, data := .fields ps }
 | .met f x => h.get? a = some (PySem.W.methodObj (.ref f) (.ref x))
 | .ext φ => φ h /\ (∃ o, h.get? a = some o) /\ ∀ h1 h2 : Heap, φ h1 -> (∀ o, h1.get? a = some o -> h2.get? a = some o) -> φ h2
def HOk (H : Hp) (h : Heap) : Prop := ∀ a o, H a = some o -> YlZ P w H h a o
end
section
variable {P : Program} {w : World} {H H' : Hp} {h h' : Heap} {a : Addr} {o : HO}
theorem YlZ.lt (x : YlZ P w H h a o) : a < h.objs.size := by
 cases o with
 | lst xs => obtain ⟨_, _, _, _, e⟩ := x; exact ZAE e
 | tup xs => obtain ⟨_, _, _, p⟩ := x; exact p.lt
 | dK kvs => obtain ⟨_, _, _, _, o, _, _, e, _⟩ := x; exact ZAE e
 | dT kvs => obtain ⟨_, _, _, _, o, _, _, e, _⟩ := x; exact ZAE e
 | set S n => obtain ⟨o, _, _, _, e, _⟩ := x; exact ZAE e
 | ins C dx fs => obtain ⟨_, _, _, e, _⟩ := x; exact ZAE e
 | own y => obtain ⟨_, e⟩ := x; exact ZAE e
 | xd fs => obtain ⟨_, ⟨_, _, _, e, _⟩, _⟩ := x; exact ZAE e
 | rng lo hi => obtain ⟨_, _, _, e⟩ := x; exact ZAE e
 | frz ob u => obtain ⟨e, _⟩ := x; exact ZAE e
 | tbl ps => exact ZAE (show h.get? a = some _ from x)
 | met f y => exact ZAE (show h.get? a = some _ from x)
 | ext φ => obtain ⟨_, ⟨_, e⟩, _⟩ := x; exact ZAE e
theorem Paired.mapP {α β : Type} {F G : α -> β -> Prop} : ∀ {l₁ : List α} {l₂ : List β}, Paired F l₁ l₂ -> (∀ a b, F a b -> G a b) -> Paired G l₁ l₂
 | _, _, .nil, _ => .nil
 | _, _, .cons r t, f => .cons (f _ _ r) (Paired.mapP t f)
theorem YlZ.stay (x : YlZ P w H h a o) (k : ∀ b u, (b = a \/ H b = some (.own a)) -> h.get? b = some u -> h'.get? b = some u)
 (ho : ∀ b, H b = some (.own a) -> H' b = some (.own a)) (ht : ∀ b xs, H b = some (.tup xs) -> H' b = some (.tup xs)) : YlZ P w H' h' a o := by
 induction o with
 | lst xs => obtain ⟨z, its, n, r, e⟩ := x; exact ⟨z, its, n, r, k _ _ (.inl rfl) e⟩
 | tup xs => obtain ⟨z, its, r, ob, e, c⟩ := x; exact ⟨z, its, r, ob, k _ _ (.inl rfl) e, c⟩
 | dK kvs => obtain ⟨z, y, vs, r, ob, es, ep, e, c⟩ := x; exact ⟨z, y, vs, r, ob, es, ep, k _ _ (.inl rfl) e, c⟩
 | dT kvs =>
  obtain ⟨z, y, xs, r, ob, es, ep, e, c⟩ := x
  exact ⟨z, y, xs, Paired.mapP r fun p q z => ⟨z.1, ht _ _ z.2.1, z.2.2⟩, ob, es, ep, k _ _ (.inl rfl) e, c⟩
 | set S n => obtain ⟨ob, es, ep, t, e, c⟩ := x; exact ⟨ob, es, ep, t, k _ _ (.inl rfl) e, c⟩
 | ins C dx fs =>
  obtain ⟨d, z, ne, e, mA, ⟨od, es, ep, e2, c⟩, r⟩ := x
  exact ⟨ho _ d, z, ne, k _ _ (.inl rfl) e, mA, ⟨od, es, ep, k _ _ (.inr d) e2, c⟩, r⟩
 | own y => obtain ⟨ob, e⟩ := x; exact ⟨ob, k _ _ (.inl rfl) e⟩
 | xd fs => obtain ⟨mA, ⟨od, es, ep, e, c⟩, r⟩ := x; exact ⟨mA, ⟨od, es, ep, k _ _ (.inl rfl) e, c⟩, r⟩
 | rng lo hi => obtain ⟨t, u, v, e⟩ := x; exact ⟨t, u, v, k _ _ (.inl rfl) e⟩
 | frz ob u ih => obtain ⟨e, q⟩ := x; exact ⟨k _ _ (.inl rfl) e, ih q⟩
 | tbl ps =>
  have e : h.get? a = some { cls := .none, data := .fields ps } := x
  show h'.get? a = some { cls := .none, data := .fields ps }
  exact k a _ (.inl rfl) e
 | met f y =>
  have e : h.get? a = some (PySem.W.methodObj (.ref f) (.ref y)) := x
  show h'.get? a = some (PySem.W.methodObj (.ref f) (.ref y))
  exact k a _ (.inl rfl) e
 | ext φ => obtain ⟨p, ⟨o, e⟩, st⟩ := x; exact ⟨st _ _ p fun o q => k _ _ (.inl rfl) q, ⟨o, k _ _ (.inl rfl) e⟩, st⟩
theorem HOk.lt (x : HOk P w H h) (e : H a = some o) : a < h.objs.size := (x a o e).lt
theorem HOk.fresh (x : HOk P w H h) (e : h.objs.size <= a) : H a = none := by
 cases q : H a with
 | none => rfl
 | some u => exact absurd (ZAM (x.lt q) e) (ZBJ _)
theorem HOk.kept (x : HOk P w H h) (k : ∀ b u, h.get? b = some u -> h'.get? b = some u) : HOk P w H h' := fun a o e =>
 (x a o e).stay (fun b u _ q => k b u q) (fun _ q => q) fun _ _ q => q
theorem HOk.laid (x : HOk P w H h) (k : ∀ b u, h.get? b = some u -> h'.get? b = some u) (hp : h.objs.size <= a) (new : YlZ P w (upd H a o) h' a o) : HOk P w (upd H a o) h' := fun b u e => by
 have hn := x.fresh hp
 show 180
 ·subst hb; rw [Yj] at e; cases e; exact new
 ·rw [Yg hb] at e
  exact (x b u e).stay (fun c v _ q => k c v q) (fun c q => by rw [Yg (Yd q hn)]; exact q) fun c xs q => by rw [Yg (Yd q hn)]; exact q
end
def Rd (H : Hp) (a : Addr) (u : HO) : Prop := H a = some u \/ ∃ o, H a = some (.frz o u)
theorem Rd.ok {P : Program} {w : World} {H : Hp} {h : Heap} {a : Addr} {u : HO} (r : Rd H a u) (x : HOk P w H h) : YlZ P w H h a u := by
 rcases r with r | ⟨o, r⟩
 ·exact x a u r
 ·obtain ⟨_, q⟩ := x a _ r
  exact q
def Mut : Option HO -> Prop
 | some (.lst _) => True
 | some (.dK _) => True
 | some (.dT _) => True
 | some (.set _ _) => True
 | some (.ins _ _ _) => True
 | some (.ext _) => True
 | _ => False
section
variable {P : Program} {w : World} {H : Hp} {h h' : Heap} {x e : Addr} {o' : HO}
theorem HOk.write (ok : HOk P w H h) (mu : Mut (H x)) (he : e = x \/ H e = some (.own x)) (k : ∀ b u, b ≠ e -> h.get? b = some u -> h'.get? b = some u) (heo : ∃ u, h'.get? e = some u)
 (new : YlZ P w (upd H x o') h' x o') : HOk P w (upd H x o') h' := fun b u q => by
 have nown : ∀ c y, H c = some (.own y) -> c ≠ x := fun c y r z => by subst z; rw [r] at mu; exact mu
 have ntup : ∀ c xs, H c = some (.tup xs) -> c ≠ x := fun c xs r z => by subst z; rw [r] at mu; exact mu
 by_cases hb : b = x
 ·subst hb; rw [Yj] at q; cases q; exact new
 ·rw [Yg hb] at q
  by_cases hbe : b = e
  ·have q' : H b = some (.own x) := by
    rcases he with z | z
    ·exact absurd (hbe.trans z) hb
    ·rw [hbe]; exact z
   rw [q] at q'; cases q'
   obtain ⟨v, hv⟩ := heo
   exact ⟨v, by rw [hbe]; exact hv⟩
  ·refine (ok b u q).stay (fun c v hc r => k c v ?_ r) (fun c r => by rw [Yg (nown c b r)]; exact r) fun c xs r => by rw [Yg (ntup c xs r)]; exact r
   rcases hc with rfl | hc
   ·exact hbe
   ·rintro rfl
    rcases he with z | z
    ·exact nown c b hc z
    ·rw [hc] at z; cases z; exact hb rfl
end
structure Un (fs ex : List Addr) (H H' : Hp) (h h' : Heap) : Prop where
 keep : ∀ b o, h.get? b = some o -> H b = none -> b ∉ fs -> b ∉ ex -> h'.get? b = some o
 slot : ∀ b o, h.get? b = some o -> H b = none -> b ∈ fs -> b ∉ ex -> ∃ sl, h'.get? b = some { o with slots := sl }
 free : ∀ b o, h.get? b = some o -> H b = none -> b ∉ ex -> H' b = none
 there : ∀ b o, h.get? b = some o -> b ∉ ex -> ∃ o', h'.get? b = some o'
 tups : ∀ b xs, H b = some (.tup xs) -> H' b = some (.tup xs)
 frzs : ∀ b o u, H b = some (.frz o u) -> H' b = some (.frz o u)
 tbls : ∀ b ps, H b = some (.tbl ps) -> ∃ more, H' b = some (.tbl (ps ++ more))
section
variable {fs fs' ex ex' : List Addr} {H H1 H2 : Hp} {h h1 h2 h' : Heap} {a x e : Addr} {o : HO}
theorem Un.any (u : Un fs ex H H1 h h1) {b : Addr} {ob : Obj} (q : h.get? b = some ob) (n : H b = none) (hx : b ∉ ex) : ∃ sl, h1.get? b = some { ob with slots := sl } := by
 by_cases hb : b ∈ fs
 ·exact u.slot b ob q n hb hx
 ·exact ⟨ob.slots, u.keep b ob q n hb hx⟩
theorem Un.trans (a : Un fs ex H H1 h h1) (b : Un fs ex H1 H2 h1 h2) : Un fs ex H H2 h h2 where
 keep := fun c ob q n hc hx => b.keep c ob (a.keep c ob q n hc hx) (a.free c ob q n hx) hc hx
 slot := fun c ob q n hc hx => by
  obtain ⟨sl, e1⟩ := a.slot c ob q n hc hx
  obtain ⟨sl', e2⟩ := b.slot c _ e1 (a.free c ob q n hx) hc hx
  exact ⟨sl', e2⟩
 free := fun c ob q n hx => by
  obtain ⟨o', e1⟩ := a.there c ob q hx
  exact b.free c o' e1 (a.free c ob q n hx) hx
 there := fun c ob q hx => by
  obtain ⟨o', e1⟩ := a.there c ob q hx
  exact b.there c o' e1 hx
 tups := fun c xs q => b.tups c xs (a.tups c xs q)
 frzs := fun c ob xs q => b.frzs c ob xs (a.frzs c ob xs q)
 tbls := fun c ps q => by
  obtain ⟨m1, e1⟩ := a.tbls c ps q
  obtain ⟨m2, e2⟩ := b.tbls c _ e1
  exact ⟨m1 ++ m2, by rw [e2, Array.append_assoc]⟩
theorem Un.kept (k : ∀ b u, h.get? b = some u -> h'.get? b = some u) : Un fs ex H H h h' :=
 ⟨fun b ob q _ _ _ => k b ob q, fun b ob q _ _ _ => ⟨ob.slots, k b ob q⟩, fun _ _ _ n _ => n, fun b ob q _ => ⟨ob, k b ob q⟩, fun _ _ q => q, fun _ _ _ q => q, fun _ ps q => ⟨#[], by rw [q]; simp⟩⟩
theorem Un.refl : Un fs ex H H h h := Un.kept fun _ _ q => q
theorem Un.laid (k : ∀ b u, h.get? b = some u -> h'.get? b = some u) (hp : h.objs.size <= a) (hn : H a = none) : Un fs ex H (upd H a o) h h' where
 keep := fun b u q _ _ _ => k b u q
 slot := fun b u q _ _ _ => ⟨u.slots, k b u q⟩
 free := fun b u q n _ => by rw [Yg (ZAL (ZAM (ZAE q) hp))]; exact n
 there := fun b u q _ => ⟨u, k b u q⟩
 tups := fun b xs q => by rw [Yg (Yd q hn)]; exact q
 frzs := fun b u xs q => by rw [Yg (Yd q hn)]; exact q
 tbls := fun b ps q => ⟨#[], by rw [Yg (Yd q hn), q]; simp⟩
theorem Un.write (mu : Mut (H x)) (he : e = x \/ H e = some (.own x)) (k : ∀ b u, b ≠ e -> h.get? b = some u -> h'.get? b = some u) (heo : ∃ u, h'.get? e = some u) : Un fs ex H (upd H x o) h h' := by
 have hx : ∀ b, H b = none -> b ≠ x := fun b n z => by subst z; rw [n] at mu; exact mu
 have hb : ∀ b, H b = none -> b ≠ e := fun b n z => by
  subst z
  rcases he with r | r
  ·exact hx b n r
  ·rw [n] at r; cases r
 have hm : ∀ b u, H b = some u -> ¬ Mut (some u) -> b ≠ x := fun b u q nm z => by subst z; rw [q] at mu; exact nm mu
 refine ⟨fun b u q n _ _ => k b u (hb b n) q, fun b u q n _ _ => ⟨u.slots, k b u (hb b n) q⟩, fun b u q n _ => by rw [Yg (hx b n)]; exact n, fun b u q _ => ?_,
  fun b xs q => by rw [Yg (hm b _ q fun z => z)]; exact q, fun b u xs q => by rw [Yg (hm b _ q fun z => z)]; exact q, fun b ps q => ⟨#[], by rw [Yg (hm b _ q fun z => z), q]; simp⟩⟩
 by_cases hbe : b = e
 ·subst hbe; exact heo
 ·exact ⟨u, k b u hbe q⟩
theorem Un.mono (u : Un fs ex H H1 h h1) (hs : ∀ b ∈ fs, b ∈ fs') (hx : ∀ b ∈ ex, b ∈ ex') : Un fs' ex' H H1 h h1 :=
 ⟨fun b ob q n hb he => u.keep b ob q n (fun z => hb (hs b z)) fun z => he (hx b z), fun _ _ q n _ he => u.any q n fun z => he (hx _ z), fun b ob q n he => u.free b ob q n fun z => he (hx b z), fun b ob q he => u.there b ob q fun z => he (hx b z), u.tups, u.frzs, u.tbls⟩
end
def trk (h : Heap) (H : Hp) : List Addr := (List.range h.objs.size).filter fun a => (H a).isSome
def YnJ (h : Heap) (H : Hp) : Heap := PySem.W.hideAll h (trk h H)
theorem Yee (h : Heap) (H : Hp) : (YnJ h H).objs.size = h.objs.size := PySem.W.hideAll_size _ _
theorem Ygi {h : Heap} {H : Hp} {b : Addr} {o : Obj} (e : h.get? b = some o) (n : H b = none) : (YnJ h H).get? b = some o :=
 PySem.W.hideAll_get _ e fun hm => by
  have q : (H b).isSome = true := (ZCN.mp hm).2
  rw [n] at q; simp at q
theorem Yh3 {h : Heap} {H : Hp} {b : Addr} {o : Obj} (e : (YnJ h H).get? b = some o) : h.get? b = some o /\ H b = none := by
 have e' : h.get? b = some o := PySem.W.of_hideAll (trk h H) e
 refine ⟨e', ?_⟩
 cases q : H b with
 | none => rfl
 | some x =>
  have hm : b ∈ trk h H := List.mem_filter.mpr ⟨List.mem_range.mpr (Heap.lt_size e'), by simp [q]⟩
  have z : (YnJ h H).get? b = none := PySem.W.hideAll_none (trk h H) hm
  rw [z] at e; cases e
def YoN (g h : Heap) (L : Addr) : List (Addr × Obj) := (List.range h.objs.size).filterMap fun a => if a = L \/ (g.get? a).isSome = true then none else (h.get? a).map fun o => (a, o)
def rest (g h : Heap) (L d : Addr) : List (Addr × Obj) := (YoN g h L).filter fun p => decide (p.1 ≠ d)
end L2
namespace L2
open PySem PySem.Spec PyProof.Rows
structure Mod (K : Frag) (mg : SOV) (base : Heap) : Prop where
 kin : K.In base
 glob : base.Ns mainGlobals mg
 blt : ∃ mb, base.Ns builtinsNs mb /\ ∀ x : Str, x ≠ "__name__" -> mb x = bootBuiltins x
 nolimit : base.NoLimit
structure Cx where
 prog : Program
 w : World
 K : Frag
 mg : Str -> Option Value
 base : Heap
 A : Around
 N : List Str
 s₀ : Shared
 H₀ : Hp
 env : Env
 outer : List Env
 stack : List Env
 ex : List Addr
 fn : Str -> Bool
 calm : Bool
 pn : List (Addr × Obj)
 xe : Value -> Shared -> Prop
def frs (l : List Env) : List Addr := l.filterMap (·.frame)
abbrev Cx.fs (X : Cx) : List Addr := frs X.outer
def Vis (sc : Scope) (x : Str) : Prop := sc.names.lookup x = some .local \/ sc.names.lookup x = some .cell \/ sc.names.lookup x = some .free
def Loc (sc : Scope) (x : Str) : Prop := sc.names.lookup x = some .local \/ sc.names.lookup x = some .cell
def Look (env : Env) (h : Heap) (m : SOV) (x : Str) (u : Value) : Prop :=
 (env.kindOf x = some .local /\ m x = some u) \/ ((env.kindOf x = some .cell \/ env.kindOf x = some .free) /\ ∃ c, env.cells.lookup x = some c /\ h.IsCell c (some u))
structure Cx.Ok (X : Cx) : Prop where
 mod : Mod X.K X.mg X.base
 kind : X.env.scope.kind = .function
 glob : X.env.globals = mainGlobals
 blt : X.env.builtins = builtinsNs
 above : X.s₀.heap.objs.size <= X.env.locals
 inj : ∀ x y c, X.env.cells.lookup x = some c -> X.env.cells.lookup y = some c -> x = y
 has : ∀ x, (X.env.kindOf x = some .cell \/ X.env.kindOf x = some .free) -> ∃ c, X.env.cells.lookup x = some c
 cab : ∀ x c, X.fn x = true -> X.env.cells.lookup x = some c -> X.s₀.heap.objs.size <= c
 hd : X.calm = true -> X.A.handled = none
 frames : X.A.frames = some X.stack
 stk : X.stack = X.outer \/ (X.stack = X.env :: X.outer /\ X.env.frame = some X.env.locals)
 exf : ∀ b ∈ X.ex, b ≠ X.env.locals /\ ∀ x c, X.env.cells.lookup x = some c -> c ≠ b
 bs : ∀ b o, X.base.get? b = some o -> X.s₀.heap.get? b = some o /\ X.H₀ b = none
 bsz : X.base.objs.size <= X.s₀.heap.objs.size
 noex : ∀ b o, X.base.get? b = some o -> b ∉ X.ex
 exfs : ∀ b ∈ X.ex, b ∉ X.fs
 funs : X.s₀.heap.FunFrames X.base X.outer
 frf : ∀ b ∈ X.fs, X.H₀ b = none
structure Inv (X : Cx) (pins : LAO) (σ : List (Option V)) (H : Hp) (s : Shared) : Prop where
 ok : X.Ok
 os : s.os = X.s₀.os
 bare : AllBare s.gens
 base : Un X.fs X.ex X.H₀ H X.s₀.heap s.heap
 loc : ∃ m, s.heap.Ns X.env.locals m /\ ∀ (i : Nat) (x : Str) (v : V), X.N[i]? = some x -> σ[i]? = some (some v) -> Vis X.env.scope x -> ∃ u, RelV v u /\ Look X.env s.heap m x u
 cell : ∀ x c, X.env.cells.lookup x = some c -> ∃ v, s.heap.IsCell c v
 free : H X.env.locals = none
 freeC : ∀ x c, X.env.cells.lookup x = some c -> H c = none
 pin : ∀ p ∈ X.pn ++ pins, s.heap.get? p.1 = some p.2 /\ H p.1 = none /\ p.1 ≠ X.env.locals /\ p.1 ∉ X.fs /\ ∀ v, p.2.data ≠ .cell v
 hok : HOk X.prog X.w H s.heap
 len : σ.length = X.N.length
section
variable {X : Cx} {pins : LAO} {σ : List (Option V)} {H H' : Hp} {s : Shared} {h' : Heap}
theorem Cx.Ok.nofr (ok : X.Ok) {b : Addr} {o : Obj} (e : X.base.get? b = some o) : b ∉ X.fs := fun hb => by
 have := (ok.funs.mem hb).1
 rw [e] at this; cases this
theorem Inv.bs (I : Inv X pins σ H s) : ∀ b o, X.base.get? b = some o -> s.heap.get? b = some o /\ H b = none := fun b o e =>
 ⟨I.base.keep b o (I.ok.bs b o e).1 (I.ok.bs b o e).2 (I.ok.nofr e) (I.ok.noex b o e), I.base.free b o (I.ok.bs b o e).1 (I.ok.bs b o e).2 (I.ok.noex b o e)⟩
theorem Inv.bk (I : Inv X pins σ H s) : ∀ b o, X.base.get? b = some o -> s.heap.get? b = some o := fun b o e => (I.bs b o e).1
theorem Inv.mod (I : Inv X pins σ H s) : Mod X.K X.mg X.base := I.ok.mod
theorem Inv.kIn (I : Inv X pins σ H s) : X.K.In s.heap := I.ok.mod.kin.keeps I.bk
theorem Inv.nolimit (I : Inv X pins σ H s) : s.heap.NoLimit := I.ok.mod.nolimit.keeps I.bk
theorem Inv.lt (I : Inv X pins σ H s) : X.env.locals < s.heap.objs.size := let ⟨_, hn, _⟩ := I.loc; hn.lt
theorem Inv.sz (I : Inv X pins σ H s) : X.s₀.heap.objs.size <= s.heap.objs.size := ZAR I.ok.above (ZBW I.lt)
theorem Inv.nofs (I : Inv X pins σ H s) {a : Addr} (h : s.heap.objs.size <= a) : a ∉ X.fs := fun hb => by
 obtain ⟨_, o, ho, _⟩ := I.ok.funs.mem hb
 exact absurd (ZAM (ZAE ho) (ZAR I.sz h)) (ZBJ _)
theorem Inv.cne (I : Inv X pins σ H s) : ∀ x c, X.env.cells.lookup x = some c -> c ≠ X.env.locals := fun x c e z => by
 obtain ⟨v, o, ho, hd⟩ := I.cell x c e
 obtain ⟨m, ⟨o', es, ep, ho', hd', _⟩, _⟩ := I.loc
 rw [z, ho'] at ho; cases ho; rw [hd'] at hd; cases hd
theorem Inv.funs (I : Inv X pins σ H s) : s.heap.FunFrames X.base X.outer := by
 have all : ∀ (l : List Env), (∀ b ∈ frs l, b ∈ X.fs) -> X.s₀.heap.FunFrames X.base l -> s.heap.FunFrames X.base l := by
  intro l
  induction l with
  | nil => intro _ _; trivial
  | cons env r ih =>
   intro hs hl
   obtain ⟨hk, ⟨L, o, hf, hn, ho, hd⟩, hr⟩ := hl
   have hL : L ∈ X.fs := hs L (by unfold frs; rw [List.filterMap_cons, hf]; exact List.mem_cons_self)
   obtain ⟨sl, e⟩ := I.base.slot L o ho (I.ok.frf L hL) hL fun z => I.ok.exfs L z hL
   exact ⟨hk, ⟨L, _, hf, hn, e, hd⟩, ih (fun b hb => hs b (by unfold frs; rw [List.filterMap_cons, hf]; exact List.mem_cons_of_mem _ hb)) hr⟩
 exact all X.outer (fun _ hb => hb) I.ok.funs
theorem Inv.stack (I : Inv X pins σ H s) : s.heap.FunFrames X.base X.stack := by
 rcases I.ok.stk with e | ⟨e, hf⟩
 ·rw [e]; exact I.funs
 ·rw [e]
  obtain ⟨m, hn, _⟩ := I.loc
  refine .cons (by rw [I.ok.kind]; decide) hf hn ?_ I.funs
  exact Heap.get?_none_of_le (ZAR I.ok.bsz I.ok.above)
theorem Inv.stkSub (I : Inv X pins σ H s) : ∀ b ∈ frs X.stack, b ∈ X.env.locals :: X.fs := fun b hb => by
 rcases I.ok.stk with e | ⟨e, hf⟩
 ·rw [e] at hb; exact ZAT _ hb
 ·rw [e] at hb
  unfold frs at hb
  rw [List.filterMap_cons, hf] at hb
  exact hb
theorem Inv.stkFree (I : Inv X pins σ H s) : ∀ b ∈ frs X.stack, H b = none := fun b hb => by
 rcases ZAZ.mp (I.stkSub b hb) with e | hb
 ·rw [e]; exact I.free
 ·obtain ⟨_, o, ho, _⟩ := I.ok.funs.mem hb
  exact I.base.free b o ho (I.ok.frf b hb) fun z => I.ok.exfs b z hb
theorem Inv.step {g' : Array GenState} {t' : Nat} {d' : Drawn} {ch : List Addr} (I : Inv X pins σ H s)
 (hch : ∀ b ∈ ch, (b ∈ X.ex \/ X.s₀.heap.objs.size <= b) /\ b ≠ X.env.locals /\ (∀ x c, X.env.cells.lookup x = some c -> c ≠ b) /\ ∀ p ∈ X.pn ++ pins, p.1 ≠ b)
 (keep : ∀ b o, b ≠ X.env.locals -> b ∉ X.fs -> b ∉ ch -> s.heap.get? b = some o -> H b = none -> h'.get? b = some o)
 (slot : ∀ b o, b ≠ X.env.locals -> b ∈ X.fs -> b ∉ ch -> s.heap.get? b = some o -> H b = none -> ∃ sl, h'.get? b = some { o with slots := sl }) (free : ∀ b o, b ∉ ch -> s.heap.get? b = some o -> H b = none -> H' b = none)
 (there : ∀ b o, b ∉ ch -> s.heap.get? b = some o -> ∃ o', h'.get? b = some o')
 (tups : ∀ b xs, H b = some (.tup xs) -> H' b = some (.tup xs)) (frzs : ∀ b o u, H b = some (.frz o u) -> H' b = some (.frz o u)) (tbls : ∀ b ps, H b = some (.tbl ps) -> ∃ more, H' b = some (.tbl (ps ++ more)))
 (ns : ∀ m, s.heap.Ns X.env.locals m -> h'.Ns X.env.locals m) (hok : HOk X.prog X.w H' h') (hg : AllBare g') :
 Inv X pins σ H' { s with heap := h', gens := g', drawn := d', toks := t' } := by
 have neL : ∀ b o, X.s₀.heap.get? b = some o -> b ≠ X.env.locals := fun b o e => ZAL (ZAM (ZAE e) I.ok.above)
 have neC : ∀ b o, X.s₀.heap.get? b = some o -> b ∉ X.ex -> b ∉ ch := fun b o e hx hb => by
  rcases (hch b hb).1 with z | z
  ·exact hx z
  ·exact absurd (ZAM (ZAE e) z) (ZBJ _)
 have cellK : ∀ x c, X.env.cells.lookup x = some c -> ∀ v, s.heap.IsCell c v -> h'.IsCell c v := fun x c e v ⟨o, ho, hd⟩ => by
  have nch : c ∉ ch := fun z => (hch c z).2.2.1 x c e rfl
  by_cases hc : c ∈ X.fs
  ·obtain ⟨sl, q⟩ := slot c o (I.cne x c e) hc nch ho (I.freeC x c e)
   exact ⟨_, q, hd⟩
  ·exact ⟨o, keep c o (I.cne x c e) hc nch ho (I.freeC x c e), hd⟩
 refine ⟨I.ok, I.os, hg, ⟨fun b o e n hb hx => ?_, fun b o e n hb hx => ?_, fun b o e n hx => ?_, fun b o e hx => ?_, fun b xs e => tups b xs (I.base.tups b xs e), fun b o xs e => frzs b o xs (I.base.frzs b o xs e), fun b ps e => ?_⟩, ?_, fun x c e => ?_, ?_, fun x c e => ?_, fun p hp => ?_, hok, I.len⟩
 ·exact keep b o (neL b o e) hb (neC b o e hx) (I.base.keep b o e n hb hx) (I.base.free b o e n hx)
 ·show 197
  obtain ⟨sl', e2⟩ := slot b _ (neL b o e) hb (neC b o e hx) e1 (I.base.free b o e n hx)
  exact ⟨sl', e2⟩
 ·show 182
  exact free b o' (neC b o e hx) e1 (I.base.free b o e n hx)
 ·show 182
  exact there b o' (neC b o e hx) e1
 ·obtain ⟨m1, e1⟩ := I.base.tbls b ps e
  obtain ⟨m2, e2⟩ := tbls b _ e1
  exact ⟨m1 ++ m2, by rw [e2, Array.append_assoc]⟩
 ·obtain ⟨m, hn, hl⟩ := I.loc
  refine ⟨m, ns m hn, fun i x v e1 e2 e3 => ?_⟩
  obtain ⟨u, r, l⟩ := hl i x v e1 e2 e3
  refine ⟨u, r, ?_⟩
  rcases l with l | ⟨k, c, e, z⟩
  ·exact .inl l
  ·exact .inr ⟨k, c, e, cellK x c e _ z⟩
 ·obtain ⟨v, z⟩ := I.cell x c e
  exact ⟨v, cellK x c e v z⟩
 ·obtain ⟨m, ⟨o, _, _, ho, _⟩, _⟩ := I.loc
  exact free _ o (fun z => (hch _ z).2.1 rfl) ho I.free
 ·obtain ⟨v, o, ho, hd⟩ := I.cell x c e
  exact free c o (fun z => (hch c z).2.2.1 x c e rfl) ho (I.freeC x c e)
 ·show 199
  have nch : p.1 ∉ ch := fun z => (hch p.1 z).2.2.2 p hp rfl
  exact ⟨keep p.1 p.2 ne nf nch e n, free p.1 p.2 nch e n, ne, nf, d⟩
theorem Inv.un {t' : Nat} (I : Inv X pins σ H s) (u : Un X.fs [] H H' s.heap h') (hok : HOk X.prog X.w H' h') : Inv X pins σ H' { s with heap := h', toks := t' } := by
 obtain ⟨m, ⟨o, es, ep, ho, r⟩, _⟩ := id I.loc
 obtain ⟨sl, hL⟩ := u.any ho I.free (by simp)
 exact I.step (g' := s.gens) (d' := s.drawn) (ch := []) (fun _ z => nomatch z) (fun b o _ hb _ e n => u.keep b o e n hb (by simp)) (fun b o _ hb _ e n => u.slot b o e n hb (by simp)) (fun b o _ e n => u.free b o e n (by simp)) (fun b o _ e => u.there b o e (by simp)) u.tups u.frzs u.tbls (fun m' hm => by
  obtain ⟨o', es', ep', ho', r'⟩ := hm
  rw [ho] at ho'; cases ho'
  exact ⟨_, es', ep', hL, r'⟩) hok I.bare
theorem Inv.call {g' : Array GenState} {t' : Nat} {d' : Drawn} {ch : List Addr} (I : Inv X pins σ H s) (u : Un (frs X.stack) ch H H' s.heap h') (hok : HOk X.prog X.w H' h') (hg : AllBare g')
 (hch : ∀ b ∈ ch, (b ∈ X.ex \/ X.s₀.heap.objs.size <= b) /\ b ≠ X.env.locals /\ (∀ x c, X.env.cells.lookup x = some c -> c ≠ b) /\ ∀ p ∈ X.pn ++ pins, p.1 ≠ b) :
 Inv X pins σ H' { s with heap := h', gens := g', drawn := d', toks := t' } := by
 obtain ⟨m, ⟨o, es, ep, ho, r⟩, _⟩ := id I.loc
 obtain ⟨sl, hL⟩ := u.any ho I.free fun z => (hch _ z).2.1 rfl
 exact I.step (ch := ch) hch (fun b o hL hb hc e n => u.keep b o e n (fun z => (ZAZ.mp (I.stkSub b z)).elim hL hb) hc) (fun b o _ _ hc e n => u.any e n hc) (fun b o hc e n => u.free b o e n hc) (fun b o hc e => u.there b o e hc) u.tups u.frzs u.tbls (fun m' hm => by
  obtain ⟨o', es', ep', ho', r'⟩ := hm
  rw [ho] at ho'; cases ho'
  exact ⟨_, es', ep', hL, r'⟩) hok hg
theorem Inv.turned {t' : Nat} {it : Addr} (I : Inv X pins σ H s) (k : ∀ b o, b ≠ it -> s.heap.get? b = some o -> h'.get? b = some o) (hn : H it = none) (hL : it ≠ X.env.locals)
 (h1 : it ∈ X.ex \/ X.s₀.heap.objs.size <= it) (h2 : ∀ x c, X.env.cells.lookup x = some c -> c ≠ it) (h3 : ∀ p ∈ X.pn ++ pins, p.1 ≠ it) : Inv X pins σ H { s with heap := h', toks := t' } := by
 have nit : ∀ b u, H b = some u -> b ≠ it := fun b u e z => by rw [z, hn] at e; cases e
 refine I.step (g' := s.gens) (d' := s.drawn) (ch := [it]) (fun b hb => ?_) (fun b o _ _ hc e _ => k b o (fun z => hc (by simp [z])) e) (fun b o _ _ hc e _ => ⟨o.slots, k b o (fun z => hc (by simp [z])) e⟩) (fun _ _ _ _ n => n)
  (fun b o hc e => ⟨o, k b o (fun z => hc (by simp [z])) e⟩) (fun _ _ e => e) (fun _ _ _ e => e) (fun b ps e => ⟨#[], by rw [e]; simp⟩) (fun m hm => ?_) (fun b u e => ?_) I.bare
 ·show 77
  exact ⟨h1, hL, h2, h3⟩
 ·obtain ⟨o, es, ep, ho, r⟩ := hm
  exact ⟨o, es, ep, k _ o (ZA1 hL) ho, r⟩
 ·refine (I.hok b u e).stay (fun c v hc q => k c v ?_ q) (fun _ q => q) fun _ _ q => q
  rcases hc with z | z
  ·rw [z]; exact nit b u e
  ·exact nit c _ z
theorem Inv.tok (I : Inv X pins σ H s) (t : Nat) : Inv X pins σ H { s with toks := t } := I.un (h' := s.heap) (t' := t) Un.refl I.hok
theorem Inv.kept {t' : Nat} (I : Inv X pins σ H s) (k : ∀ b u, s.heap.get? b = some u -> h'.get? b = some u) : Inv X pins σ H { s with heap := h', toks := t' } := I.un (Un.kept k) (I.hok.kept k)
theorem Inv.laid {a : Addr} {o : HO} {t' : Nat} (I : Inv X pins σ H s) (k : ∀ b u, s.heap.get? b = some u -> h'.get? b = some u) (hp : s.heap.objs.size <= a) (new : YlZ X.prog X.w (upd H a o) h' a o) :
 Inv X pins σ (upd H a o) { s with heap := h', toks := t' } := I.un (Un.laid k hp (I.hok.fresh hp)) (I.hok.laid k hp new)
theorem Inv.write {x e : Addr} {o : HO} {t' : Nat} (I : Inv X pins σ H s) (mu : Mut (H x)) (he : e = x \/ H e = some (.own x)) (k : ∀ b u, b ≠ e -> s.heap.get? b = some u -> h'.get? b = some u) (heo : ∃ u, h'.get? e = some u)
 (new : YlZ X.prog X.w (upd H x o) h' x o) : Inv X pins σ (upd H x o) { s with heap := h', toks := t' } := I.un (Un.write mu he k heo) (I.hok.write mu he k heo new)
theorem Inv.pins_of {pins' : LAO} (I : Inv X pins σ H s) (h : ∀ p ∈ pins', s.heap.get? p.1 = some p.2 /\ H p.1 = none /\ p.1 ≠ X.env.locals /\ p.1 ∉ X.fs /\ ∀ v, p.2.data ≠ .cell v) : Inv X pins' σ H s :=
 ⟨I.ok, I.os, I.bare, I.base, I.loc, I.cell, I.free, I.freeC, fun p hp => (ZAf.mp hp).elim (fun z => I.pin p (ZBk _ z)) (h p), I.hok, I.len⟩
theorem Yaf {N : List Str} (hN : N.Nodup) {i j : Nat} {x : Str} (a : N[i]? = some x) (b : N[j]? = some x) : i = j := by
 obtain ⟨h1, e1⟩ := ZAD.mp a
 obtain ⟨h2, e2⟩ := ZAD.mp b
 exact (List.getElem_inj hN).mp (e1.trans e2.symm)
theorem Ya0 {M : Model} {A : Around} {E : VSP} {i : Nat} {x : Str} {v : V} {u : Value} {Q : Unit -> Shared -> Prop} (I : Inv X pins σ H s) (hN : X.N.Nodup) (hi : X.N[i]? = some x) (hx : Loc X.env.scope x) (r : RelV v u)
 (h : ∀ s', Inv X pins (σ.set i (some v)) H s' -> (∃ a, Heap.SameBut a s.heap s'.heap /\ (a = X.env.locals \/ X.env.cells.lookup x = some a)) -> Q () s') (hf : X.fn x = true \/ X.env.scope.names.lookup x = some .local := by first | exact .inl rfl | exact .inr rfl | assumption) : wpAny M A (storeName X.env x u) Q E s := by
 obtain ⟨m, hn, hl⟩ := id I.loc
 have hcls : (X.env.scope.kind == .class || (X.env.scope.kind == .module && X.env.locals != X.env.globals)) = false := by rw [I.ok.kind]; rfl
 have hiσ : i < σ.length := by rw [I.len]; exact (ZAD.mp hi).1
 have cne := I.cne
 have tracked : ∀ {a : Addr} {h' : Heap}, (∃ o, s.heap.get? a = some o /\ H a = none) -> Heap.SameBut a s.heap h' -> HOk X.prog X.w H h' := fun {a h'} ha hs b ob e => by
  obtain ⟨_, _, hfree⟩ := ha
  refine (I.hok b ob e).stay (fun c w' hc q => (hs.2 c ?_).trans q) (fun _ q => q) fun _ _ q => q
  rintro rfl
  rcases hc with rfl | hc
  ·rw [hfree] at e; cases e
  ·rw [hfree] at hc; cases hc
 rcases hx with hk | hk
 ·refine wpAny_storeName_local hk hn (fun h' hn' hs => ?_) hcls
  obtain ⟨oL, _, _, hoL, _⟩ := id hn
  refine h _ ⟨I.ok, I.os, I.bare, ⟨fun b o e n hb hx => ?_, fun b o e n hb hx => ?_, I.base.free, fun b o e hx => ?_, I.base.tups, I.base.frzs, I.base.tbls⟩, ⟨_, hn', fun j y v' e1 e2 e3 => ?_⟩, fun y c e => ?_, I.free, I.freeC, fun p hp => ?_, tracked ⟨oL, hoL, I.free⟩ hs, by simpa using I.len⟩ ⟨_, hs, .inl rfl⟩
  ·exact (hs.2 b (ZAL (ZAM (ZAE e) I.ok.above))).trans (I.base.keep b o e n hb hx)
  ·show 197
   exact ⟨sl, (hs.2 b (ZAL (ZAM (ZAE e) I.ok.above))).trans e1⟩
  ·show 182
   exact ⟨o', (hs.2 b (ZAL (ZAM (ZAE e) I.ok.above))).trans e1⟩
  ·by_cases hj : j = i
   ·subst hj
    rw [hi] at e1; cases e1
    rw [ZAU hiσ] at e2
    cases e2
    exact ⟨u, r, .inl ⟨hk, by simp⟩⟩
   ·rw [ZAP (ZA1 hj)] at e2
    obtain ⟨u', r', q⟩ := hl j y v' e1 e2 e3
    refine ⟨u', r', ?_⟩
    rcases q with ⟨k, e⟩ | ⟨k, c, e, z⟩
    ·refine .inl ⟨k, ?_⟩
     have : y ≠ x := fun e => hj (Yaf hN e1 (e ▸ hi))
     simp [this, e]
    ·exact .inr ⟨k, c, e, z.sameBut hs (cne y c e)⟩
  ·obtain ⟨w', z⟩ := I.cell y c e
   exact ⟨w', z.sameBut hs (cne y c e)⟩
  ·show 199
   exact ⟨(hs.2 p.1 ne).trans e, n, ne, nf, d⟩
 ·have hfn : X.fn x = true := by
   rcases hf with z | z
   ·exact z
   ·rw [z] at hk; cases hk
  obtain ⟨c, hc⟩ := I.ok.has x (.inl hk)
  obtain ⟨w', z⟩ := I.cell x c hc
  refine wpAny_storeName_cell I.ok.kind hk hc z (fun h' hc' hs => ?_)
  obtain ⟨oc, hoc, hocd⟩ := id z
  refine h { s with heap := h' } ⟨I.ok, I.os, I.bare, ⟨fun b o e n hb hx => ?_, fun b o e n hb hx => ?_, I.base.free, fun b o e hx => ?_, I.base.tups, I.base.frzs, I.base.tbls⟩, ⟨m, hn.sameBut hs (Ne.symm (cne x c hc)), fun j y v' e1 e2 e3 => ?_⟩, fun y c' e => ?_, I.free, I.freeC, fun p hp => ?_, tracked ⟨oc, hoc, I.freeC x c hc⟩ hs, by simpa using I.len⟩ ⟨c, hs, .inr hc⟩
  ·exact (hs.2 b (ZAL (ZAM (ZAE e) (I.ok.cab x c hfn hc)))).trans (I.base.keep b o e n hb hx)
  ·show 197
   exact ⟨sl, (hs.2 b (ZAL (ZAM (ZAE e) (I.ok.cab x c hfn hc)))).trans e1⟩
  ·show 182
   exact ⟨o', (hs.2 b (ZAL (ZAM (ZAE e) (I.ok.cab x c hfn hc)))).trans e1⟩
  ·by_cases hj : j = i
   ·subst hj
    rw [hi] at e1; cases e1
    rw [ZAU hiσ] at e2
    cases e2
    exact ⟨u, r, .inr ⟨.inl hk, c, hc, hc'⟩⟩
   ·rw [ZAP (ZA1 hj)] at e2
    obtain ⟨u', r', q⟩ := hl j y v' e1 e2 e3
    refine ⟨u', r', ?_⟩
    rcases q with q | ⟨k, c', e, z'⟩
    ·exact .inl q
    ·refine .inr ⟨k, c', e, z'.sameBut hs ?_⟩
     rintro rfl
     exact hj (Yaf hN e1 (I.ok.inj _ _ _ e hc ▸ hi))
  ·by_cases hcc : c' = c
   ·subst hcc; exact ⟨_, hc'⟩
   ·obtain ⟨w2, z2⟩ := I.cell y c' e
    exact ⟨w2, z2.sameBut hs hcc⟩
  ·show 199
   refine ⟨(hs.2 p.1 ?_).trans e, n, ne, nf, d⟩
   intro q
   rw [q, hoc] at e
   have q' : oc = p.2 := Option.some.inj e
   exact d w' (by rw [<- q']; exact hocd)
theorem YbN {M : Model} {A : Around} {E : VSP} {i : Nat} {x : Str} {v : V} {u : Value} {Q : Unit -> Shared -> Prop} (I : Inv X pins σ H s) (hN : X.N.Nodup) (hi : X.N[i]? = some x) (hx : Loc X.env.scope x) (r : RelV v u)
 (h : ∀ s', Inv X pins (σ.set i (some v)) H s' -> Q () s') (hf : X.fn x = true \/ X.env.scope.names.lookup x = some .local := by first | exact .inl rfl | exact .inr rfl | assumption) : wpAny M A (storeName X.env x u) Q E s :=
 Ya0 I hN hi hx r (fun s' I' _ => h s' I') hf
theorem Inv.call' {s' : Shared} {ch : List Addr} (I : Inv X pins σ H s) (ho : s'.os = s.os) (u : Un (frs X.stack) ch H H' s.heap s'.heap) (hok : HOk X.prog X.w H' s'.heap) (hg : AllBare s'.gens)
 (hch : ∀ b ∈ ch, (b ∈ X.ex \/ X.s₀.heap.objs.size <= b) /\ b ≠ X.env.locals /\ (∀ x c, X.env.cells.lookup x = some c -> c ≠ b) /\ ∀ p ∈ X.pn ++ pins, p.1 ≠ b) : Inv X pins σ H' s' := by
 obtain ⟨h', g', d', t', o'⟩ := s'
 have e : o' = s.os := ho
 subst e
 exact I.call (g' := g') (t' := t') (d' := d') u hok hg hch
end
abbrev XK := Value -> Option Addr -> Hp -> Prop
abbrev St := List (Option V)
abbrev VK := V -> Hp -> Prop
abbrev TE := St -> Hp -> VK -> Prop
abbrev TT := St -> Hp -> (Bool -> Hp -> Prop) -> Prop
abbrev TA := St -> Hp -> (List V -> Hp -> Prop) -> Prop
structure Ends where
 nx : St -> Hp -> Prop
 rt : VK
 bk : St -> Hp -> Prop := fun _ _ => False
 ct : St -> Hp -> Prop := fun _ _ => False
abbrev TS := Ends -> St -> Hp -> Prop
def EP (X : Cx) (pins : LAO) (σ : St) (Q : VK) (u : Value) (s' : Shared) : Prop := ∃ v H', Inv X pins σ H' s' /\ RelV v u /\ Q v H'
def TP (X : Cx) (pins : LAO) (σ : St) (Q : Bool -> Hp -> Prop) (b : Bool) (s' : Shared) : Prop := ∃ H', Inv X pins σ H' s' /\ Q b H'
def AP (X : Cx) (pins : LAO) (σ : St) (Q : List V -> Hp -> Prop) (us : List Value) (s' : Shared) : Prop := ∃ vs H', Inv X pins σ H' s' /\ Vals vs us /\ Q vs H'
def SP (X : Cx) (pins : LAO) (D : Ends) (f : Flow) (s' : Shared) : Prop :=
 match f with
 | .next => ∃ σ' H', Inv X pins σ' H' s' /\ D.nx σ' H'
 | .brk => ∃ σ' H', Inv X pins σ' H' s' /\ D.bk σ' H'
 | .cont => ∃ σ' H', Inv X pins σ' H' s' /\ D.ct σ' H'
 | .ret u => ∃ v σ' H', Inv X pins σ' H' s' /\ RelV v u /\ D.rt v H'
def PE (X : Cx) (e : Expr) (t : TE) : Prop :=
 ∀ (pins : LAO) (s : Shared) (σ : St) (H : Hp) (Q : VK), Inv X pins σ H s -> t σ H Q -> wpAny (model X.prog X.w) X.A (eval e X.env) (EP X pins σ Q) X.xe s
def PT (X : Cx) (e : Expr) (t : TT) : Prop :=
 ∀ (pins : LAO) (s : Shared) (σ : St) (H : Hp) (Q : Bool -> Hp -> Prop), Inv X pins σ H s -> t σ H Q -> wpAny (model X.prog X.w) X.A (isTrue e X.env (eval e X.env)) (TP X pins σ Q) X.xe s
def PW (X : Cx) (e : Expr) (t : TT) : Prop :=
 ∀ (whole : Sem Value) (pins : LAO) (s : Shared) (σ : St) (H : Hp) (Q : Bool -> Hp -> Prop), Inv X pins σ H s -> t σ H Q -> wpAny (model X.prog X.w) X.A (isTrue e X.env whole) (TP X pins σ Q) X.xe s
theorem PW.pt {X : Cx} {e : Expr} {t : TT} (h : PW X e t) : PT X e t := h _
def PA (X : Cx) (es : List Expr) (t : TA) : Prop :=
 ∀ (pos : Pos) (pins : LAO) (s : Shared) (σ : St) (H : Hp) (Q : List V -> Hp -> Prop), Inv X pins σ H s -> t σ H Q -> wpAny (model X.prog X.w) X.A (spliced (backTo pos (starEach es X.env))) (AP X pins σ Q) X.xe s
def PS (X : Cx) (st : Stmt) (t : TS) : Prop :=
 ∀ (pins : LAO) (s : Shared) (σ : St) (H : Hp) (D : Ends), Inv X pins σ H s -> t D σ H -> wpAny (model X.prog X.w) X.A (exec st X.env) (SP X pins D) X.xe s
def PSs (X : Cx) (st : List Stmt) (t : TS) : Prop :=
 ∀ (pins : LAO) (s : Shared) (σ : St) (H : Hp) (D : Ends), Inv X pins σ H s -> t D σ H -> wpAny (model X.prog X.w) X.A (execs st X.env) (SP X pins D) X.xe s
theorem thn {α : Type} {t : Sem α} {Q Q' : α -> Shared -> Prop} {M : Model} {A : Around} {E : VSP} {s : Shared} (h : wpAny M A t Q E s) (hQ : ∀ a s, Q a s -> Q' a s) : wpAny M A t Q' E s := ZA7 h hQ fun _ _ x => x
end L2
namespace L2
open PySem PySem.Spec PyProof.Rows
section
variable {X : Cx}
theorem bin {a b : Expr} {ta tb : TE} (ha : PE X a ta) (hb : PE X b tb) {pins : LAO} {s : Shared} {σ : St} {H : Hp} {R : V -> V -> Hp -> Prop} (I : Inv X pins σ H s) (h : ta σ H fun x H1 => tb σ H1 fun y H2 => R x y H2)
 {α : Type} {Q : α -> Shared -> Prop} {f : Value -> Value -> Sem α}
 (hf : ∀ v u s2 x y H2, Inv X pins σ H2 s2 -> RelV x v -> RelV y u -> R x y H2 -> wpAny (model X.prog X.w) X.A (f v u) Q X.xe s2) :
 wpAny (model X.prog X.w) X.A (eval a X.env) (fun v s₁ => wpAny (model X.prog X.w) X.A (eval b X.env) (fun u s₂ => wpAny (model X.prog X.w) X.A (f v u) Q X.xe s₂) X.xe s₁) X.xe s := by
 refine thn (ha pins s σ H _ I h) fun v s1 ⟨x, H1, I1, r1, q1⟩ => ?_
 refine thn (hb pins s1 σ H1 _ I1 q1) fun u s2 ⟨y, H2, I2, r2, q2⟩ => ?_
 exact hf v u s2 x y H2 I2 r1 r2 q2
def Yo6 (i : Nat) : TE := fun σ H Q => ∃ v, σ[i]? = some (some v) /\ Q v H
def tC (v : V) : TE := fun _ H Q => Q v H
theorem Yhf {i : Nat} {x : Str} {pos : Pos} (hN : X.N[i]? = some x) (hv : Vis X.env.scope x) (hd : (x == ("__debug__" : Str)) = false := by decide) (hcd : (x == ("__classdict__" : Str)) = false := by decide) : PE X (.Name x pos) (Yo6 i) := by
 show 139
 obtain ⟨v, e, h⟩ := h
 obtain ⟨m, hn, hl⟩ := I.loc
 obtain ⟨u, r, l⟩ := hl i x v hN e hv
 have fin : EP X pins σ Q u s := ⟨v, H, I, r, h⟩
 rcases l with ⟨hk, hm⟩ | ⟨hk, c, hc, hcell⟩
 ·exact wpAny_Name (wpAny_loadName_local I.ok.kind hk hn hm fin) hd
 ·rcases hk with hk | hk
  ·exact wpAny_Name (wpAny_loadName_cell I.ok.kind hk hc hcell fin) hd
  ·exact wpAny_Name (wpAny_loadName_free I.ok.kind hk hc hcell fin hcd) hd
theorem Ykh {i j pos} : PE X (.Constant (.int i) j pos) (tC (.int i)) := fun _ _ _ H _ I h => ZBt ⟨.int i, H, I.tok _, ⟨_, rfl⟩, h⟩
theorem Yld {b j pos} : PE X (.Constant (.bool b) j pos) (tC (.bl b)) := fun _ _ _ H _ I h => Constant_bool ⟨.bl b, H, I, rfl, h⟩
theorem Ykd {j pos} : PE X (.Constant .none j pos) (tC .non) := fun _ _ _ H _ I h => Constant_none ⟨.non, H, I, rfl, h⟩
theorem Yj9 {x j pos} : PE X (.Constant (.str x) j pos) (tC (.str x)) := fun _ _ _ H _ I h => Calls.Constant_str ⟨.str x, H, I.tok _, ⟨_, rfl⟩, h⟩
def Gl (X : Cx) (x : Str) : Prop := X.env.kindOf x = some .globalImplicit
theorem Yin {E : VSP} {pins : LAO} {s : Shared} {σ : St} {H : Hp} {x : Str} {u : Value} {pos : Pos} {Q : VSP} (I : Inv X pins σ H s) (hg : Gl X x) (hm : X.mg x = some u) (h : Q u s)
 (hd : (x == ("__debug__" : Str)) = false := by decide) : wpAny (model X.prog X.w) X.A (eval (.Name x pos) X.env) Q E s :=
 Calls.Name_function_global I.ok.kind hg (Calls.loadGlobal_global (by rw [I.ok.glob]; exact I.mod.glob.keeps I.bk) hm h) hd
theorem ZU {E : VSP} {pins : LAO} {s : Shared} {σ : St} {H : Hp} {x : Str} {u : Value} {pos : Pos} {Q : VSP} (I : Inv X pins σ H s) (hg : Gl X x) (hm : X.mg x = none) (hv : bootBuiltins x = some u) (h : Q u s)
 (hn : x ≠ "__name__" := by decide) (hd : (x == ("__debug__" : Str)) = false := by decide) : wpAny (model X.prog X.w) X.A (eval (.Name x pos) X.env) Q E s := by
 obtain ⟨mb, h1, h2⟩ := I.mod.blt
 exact Calls.Name_function_global I.ok.kind hg (Calls.loadGlobal_builtin (by rw [I.ok.glob]; exact I.mod.glob.keeps I.bk) hm (by rw [I.ok.blt]; exact h1.keeps I.bk) ((h2 x hn).trans hv) h) hd
theorem Yif {x : Str} {v : V} {u : Value} {pos : Pos} (hg : Gl X x) (hm : X.mg x = none) (hv : bootBuiltins x = some u) (r : RelV v u) (hn : x ≠ "__name__" := by decide) (hd : (x == ("__debug__" : Str)) = false := by decide) : PE X (.Name x pos) (tC v) :=
 fun _ _ _ H _ I h => ZU I hg hm hv ⟨v, H, I, r, h⟩ hn hd
variable {a b : Expr} {ta tb : TE} {pos : Pos}
variable {tA tB' : TT} {rest : List Expr}
def YpG (t u : TT) : TT := fun σ H Q => t σ H fun c H1 => if c = true then u σ H1 Q else Q false H1
def tOr (t u : TT) : TT := fun σ H Q => t σ H fun c H1 => if c = true then Q true H1 else u σ H1 Q
def Yp3 (t : TT) : TT := fun σ H Q => t σ H fun c H1 => Q (!c) H1
theorem YhV (ha : PT X a tA) : PW X (.BoolOp .And [a] pos) tA := by
 show 215
 refine isTrue_and (thn (ha pins s σ H Q I h) fun c s1 e => ?_)
 cases c with
 | true => exact isTrue_and_nil e
 | false => exact e
theorem Yjf (ha : PT X a tA) : PW X (.BoolOp .Or [a] pos) tA := by
 show 215
 refine isTrue_or (thn (ha pins s σ H Q I h) fun c s1 e => ?_)
 cases c with
 | false => exact isTrue_or_nil e
 | true => exact e
theorem Ykn (ha : PT X a tA) (hb : PW X (.BoolOp .And (b :: rest) pos) tB') : PW X (.BoolOp .And (a :: b :: rest) pos) (YpG tA tB') := by
 show 215
 refine isTrue_and (thn (ha pins s σ H _ I h) fun c s1 ⟨H1, I1, q1⟩ => ?_)
 cases c with
 | true => exact hb wh pins s1 σ H1 Q I1 q1
 | false => exact ⟨H1, I1, q1⟩
theorem YkD (ha : PT X a tA) (hb : PW X (.BoolOp .Or (b :: rest) pos) tB') : PW X (.BoolOp .Or (a :: b :: rest) pos) (tOr tA tB') := by
 show 215
 refine isTrue_or (thn (ha pins s σ H _ I h) fun c s1 ⟨H1, I1, q1⟩ => ?_)
 cases c with
 | true => exact ⟨H1, I1, q1⟩
 | false => exact hb wh pins s1 σ H1 Q I1 q1
theorem YjJ (ha : PT X a tA) : PT X (.UnaryOp .Not a pos) (Yp3 tA) := by
 show 139
 exact isTrue_not (ha pins s σ H (fun c H1 => Q (!c) H1) I h)
def Ypr (ta tb : TE) : TE := fun σ H Q => ta σ H fun x H1 => ∃ c, x = .bl c /\ if c = true then tb σ H1 Q else Q (.bl false) H1
theorem Ykr {op} {t : TE} (h : PE X a t) : PE X (.BoolOp op [a] pos) t := fun pins s σ H Q I hw => BoolOp_one (h pins s σ H Q I hw)
theorem Yjn (ha : PE X a ta) (hb : PE X (.BoolOp .And (b :: rest) pos) tb) : PE X (.BoolOp .And (a :: b :: rest) pos) (Ypr ta tb) := by
 show 139
 refine BoolOp_and (thn (ha pins s σ H _ I h) fun v s1 ⟨x, H1, I1, r1, q1⟩ => ?_)
 obtain ⟨c, rfl, q1⟩ := q1
 cases r1
 refine ZBh ?_
 cases c with
 | true => exact hb pins s1 σ H1 Q I1 q1
 | false => exact ⟨.bl false, H1, I1, rfl, q1⟩
end
end L2
namespace L2
open PySem PySem.Spec PyProof.Rows
def SqL (K : Frag) (H : Hp) (a : Addr) (xs : List V) : Prop :=
 Rd H a (.lst xs) \/
  ∃ (o : Obj) (its : Array Value) (n : Nat), K.lookup a = some o /\ o.cls = .type "list" /\ o.dict = none /\ o.data = .seq its n /\ its.size <= sizeLine /\ Vals xs its.toList
def SqT (K : Frag) (H : Hp) (a : Addr) (xs : List V) : Prop :=
 Rd H a (.tup xs) \/
  ∃ (o : Obj) (its : Array Value) (n : Nat), K.lookup a = some o /\ o.cls = .type "tuple" /\ o.data = .seq its n /\ its.size <= sizeLine /\ Vals xs its.toList
def YpO : Value -> Option V
 | .none => some .non
 | .bool b => some (.bl b)
 | .int i _ => some (.int i)
 | .str x _ => some (.str x)
 | .bytes b _ => some (.byt b)
 | .float b _ => some (.flt b)
 | .ref a => some (.ref a)
 | .type n => some (.ty n)
 | _ => none
theorem RelV.abs {x : V} {u : Value} (r : RelV x u) : YpO u = some x := by
 cases x with
 | non => cases r; rfl
 | bl _ => cases r; rfl
 | int _ => show 189
 | str _ => show 189
 | byt _ => show 189
 | flt _ => show 189
 | ref _ => cases r; rfl
 | ty _ => cases r; rfl
theorem RelV.inj {x y : V} {u : Value} (r : RelV x u) (q : RelV y u) : x = y := Option.some.inj (r.abs.symm.trans q.abs)
theorem Vals.inj : ∀ {xs ys : List V} {us : List Value}, Vals xs us -> Vals ys us -> xs = ys
 | _, _, _, .nil, .nil => rfl
 | _, _, _, .cons r t, .cons r' t' => by rw [r.inj r', Vals.inj t t']
section
variable {X : Cx} {pins : LAO} {σ : St} {H : Hp} {s : Shared} {a : Addr} {xs ys : List V}
theorem SqL.of {K : Frag} (h : H a = some (.lst xs)) : SqL K H a xs := .inl (.inl h)
theorem SqT.of {K : Frag} (h : H a = some (.tup xs)) : SqT K H a xs := .inl (.inl h)
theorem Inv.list (I : Inv X pins σ H s) (h : SqL X.K H a xs) : ∃ its : List Value, Vals xs its /\ PlainL s.heap a its.toArray /\ xs.length <= sizeLine := by
 rcases h with h | ⟨o, its, n, hk, hc, hd, hs, hz, r⟩
 ·obtain ⟨z, its, n, r, e⟩ := h.ok I.hok
  exact ⟨its, r, ⟨_, n, e, rfl, rfl, rfl⟩, z⟩
 ·refine ⟨its.toList, r, ⟨o, n, I.kIn a o hk, hc, hd, by simpa using hs⟩, ?_⟩
  have e := r.length
  simp only [Array.length_toList] at e
  omega
theorem Inv.tuple (I : Inv X pins σ H s) (h : SqT X.K H a xs) : ∃ its : List Value, Vals xs its /\ IsTup s.heap a its.toArray /\ xs.length <= sizeLine := by
 rcases h with h | ⟨o, its, n, hk, hc, hs, hz, r⟩
 ·obtain ⟨z, its, r, p⟩ := h.ok I.hok
  exact ⟨its, r, p, z⟩
 ·refine ⟨its.toList, r, ⟨o, I.kIn a o hk, hc, n, by simpa using hs⟩, ?_⟩
  have e := r.length
  simp only [Array.length_toList] at e
  omega
theorem Inv.list_inj (I : Inv X pins σ H s) (h : SqL X.K H a xs) (h' : SqL X.K H a ys) : xs = ys := by
 obtain ⟨its, r, ⟨o, n, e, _, _, d⟩, _⟩ := I.list h
 obtain ⟨its', r', ⟨o', n', e', _, _, d'⟩, _⟩ := I.list h'
 rw [e] at e'; cases e'
 rw [d] at d'
 injection d' with d1 _
 have : its = its' := by simpa using congrArg Array.toList d1
 subst this
 exact r.inj r'
theorem Inv.tuple_inj (I : Inv X pins σ H s) (h : SqT X.K H a xs) (h' : SqT X.K H a ys) : xs = ys := by
 obtain ⟨its, r, ⟨o, e, _, n, d⟩, _⟩ := I.tuple h
 obtain ⟨its', r', ⟨o', e', _, n', d'⟩, _⟩ := I.tuple h'
 rw [e] at e'; cases e'
 rw [d] at d'
 injection d' with d1 _
 have : its = its' := by simpa using congrArg Array.toList d1
 subst this
 exact r.inj r'
end
abbrev Cx.wish (X : Cx) (E : VSP) : Cx := { X with xe := E }
abbrev Cx.nox (X : Cx) : Cx := X.wish fun _ _ => False
theorem Cx.Ok.wish {X : Cx} (ok : X.Ok) (E : VSP) : (X.wish E).Ok :=
 ⟨ok.mod, ok.kind, ok.glob, ok.blt, ok.above, ok.inj, ok.has, ok.cab, ok.hd, ok.frames, ok.stk, ok.exf, ok.bs, ok.bsz, ok.noex, ok.exfs, ok.funs, ok.frf⟩
theorem Cx.Ok.unwish {X : Cx} {E : VSP} (ok : (X.wish E).Ok) : X.Ok :=
 ⟨ok.mod, ok.kind, ok.glob, ok.blt, ok.above, ok.inj, ok.has, ok.cab, ok.hd, ok.frames, ok.stk, ok.exf, ok.bs, ok.bsz, ok.noex, ok.exfs, ok.funs, ok.frf⟩
section
variable {X : Cx} {pins : LAO} {σ : St} {H : Hp} {s : Shared} {E : VSP}
theorem Inv.wish (I : Inv X pins σ H s) (E : VSP) : Inv (X.wish E) pins σ H s := ⟨I.ok.wish E, I.os, I.bare, I.base, I.loc, I.cell, I.free, I.freeC, I.pin, I.hok, I.len⟩
theorem Inv.unwish (I : Inv (X.wish E) pins σ H s) : Inv X pins σ H s := ⟨I.ok.unwish, I.os, I.bare, I.base, I.loc, I.cell, I.free, I.freeC, I.pin, I.hok, I.len⟩
theorem SP.unwish {D : Ends} {f : Flow} {s' : Shared} (h : SP (X.wish E) pins D f s') : SP X pins D f s' := by
 cases f with
 | next => obtain ⟨σ', H', I, q⟩ := h; exact ⟨σ', H', I.unwish, q⟩
 | brk => obtain ⟨σ', H', I, q⟩ := h; exact ⟨σ', H', I.unwish, q⟩
 | cont => obtain ⟨σ', H', I, q⟩ := h; exact ⟨σ', H', I.unwish, q⟩
 | ret u => obtain ⟨v, σ', H', I, r, q⟩ := h; exact ⟨v, σ', H', I.unwish, r, q⟩
theorem PSs.nox {st : List Stmt} {t : TS} (h : PSs X.nox st t) : PSs X st t := fun pins s σ H D I hw =>
 ZA7 (h pins s σ H D (I.wish _) hw) (fun _ _ q => q.unwish) fun _ _ z => False.elim z
end
section
variable {X : Cx} {st : Stmt} {rest : List Stmt} {t u : TS} {e : Expr} {te : TE} {pos : Pos}
def Ypx : TS := fun D σ H => D.nx σ H
def YpH (t u : TS) : TS := fun D σ H => t { D with nx := u D } σ H
theorem YiD : PSs X [] Ypx := fun _ _ σ H _ I h => ZB0 ⟨σ, H, I, h⟩
theorem Yfu (h1 : PS X st t) (h2 : PSs X rest u) : PSs X (st :: rest) (YpH t u) := by
 show 157
 refine wpAny_execs_cons (thn (h1 pins s σ H { D with nx := u D } I h) fun f s1 q => ?_)
 cases f with
 | next =>
  obtain ⟨σ', H', I', q⟩ := q
  exact h2 pins s1 σ' H' D I' q
 | ret v => exact q
 | brk => exact q
 | cont => exact q
theorem Yh7 (h1 : PS X st t) : PSs X [st] t := by
 show 157
 refine wpAny_execs_cons (thn (h1 pins s σ H D I h) fun f s1 q => ?_)
 cases f with
 | next => exact ZB0 q
 | ret v => exact q
 | brk => exact q
 | cont => exact q
theorem Inv.quiet {pins : LAO} {σ : St} {H : Hp} {s : Shared} (I : Inv X pins σ H s) : interactive X.env = false := by simp [interactive, I.ok.kind]
def Ypt (te : TE) : TS := fun D σ H => te σ H fun _ H1 => D.nx σ H1
theorem Yid (he : PE X e te) (hs : swapsWith e none pos.line X.env = pure false := by rfl) : PS X (.Expr e pos) (Ypt te) := by
 show 157
 exact wpAny_Expr_any (thn (he pins s σ H _ I h) fun v s1 ⟨x, H1, I1, r1, q1⟩ => ⟨σ, H1, I1, q1⟩) I.quiet hs
def YpK (te : TE) : TS := fun D σ H => te σ H D.rt
theorem Yjr (he : PE X e te) : PS X (.Return (some e) pos) (YpK te) := by
 show 157
 exact wpAny_Return_some (thn (he pins s σ H _ I h) fun v s1 ⟨x, H1, I1, r1, q1⟩ => ⟨x, σ, H1, I1, r1, q1⟩)
def YpN (c : TT) (t u : TS) : TS := fun D σ H => c σ H fun b H1 => if b = true then t D σ H1 else u D σ H1
theorem Yk9 {c : Expr} {a b : List Stmt} {tc : TT} (hc : PT X c tc) (ha : PSs X a t) (hb : PSs X b u) : PS X (.If c a b pos) (YpN tc t u) := by
 show 157
 refine wpAny_If (thn (hc pins s σ H _ I h) fun d s1 ⟨H1, I1, q1⟩ => ?_)
 cases d with
 | true => exact ha pins s1 σ H1 D I1 q1
 | false => exact hb pins s1 σ H1 D I1 q1
end
abbrev TG := V -> St -> Hp -> (St -> Hp -> Prop) -> Prop
abbrev TGs := List V -> St -> Hp -> (St -> Hp -> Prop) -> Prop
def PG (X : Cx) (target : Expr) (t : TG) : Prop :=
 ∀ (pins : LAO) (s : Shared) (σ : St) (H : Hp) (v : V) (u : Value) (Q : St -> Hp -> Prop), Inv X pins σ H s -> RelV v u -> t v σ H Q ->
  wpAny (model X.prog X.w) X.A (assign target X.env u) (fun _ s' => ∃ σ' H', Inv X pins σ' H' s' /\ Q σ' H') X.xe s
def PGs (X : Cx) (ts : List Expr) (t : TGs) : Prop :=
 ∀ (pins : LAO) (s : Shared) (σ : St) (H : Hp) (vs : List V) (us : List Value) (Q : St -> Hp -> Prop), Inv X pins σ H s -> Vals vs us -> t vs σ H Q ->
  wpAny (model X.prog X.w) X.A (assignInOrder ((assignEach ts X.env).map (·.2)) us) (fun _ s' => ∃ σ' H', Inv X pins σ' H' s' /\ Q σ' H') X.xe s
abbrev YpS := V -> V -> V -> Hp -> (Hp -> Prop) -> Prop
def YpC (X : Cx) (t : YpS) : Prop :=
 ∀ (pins : LAO) (s : Shared) (σ : St) (H : Hp) (o i v : V) (ov iv u : Value) (Q : Hp -> Prop), Inv X pins σ H s -> RelV o ov -> RelV i iv -> RelV v u -> t o i v H Q ->
  wpAny (model X.prog X.w) X.A (setItem ov iv u) (fun _ s' => ∃ H', Inv X pins σ H' s' /\ Q H') X.xe s
section
variable {X : Cx} {pos : Pos}
def YoU (i : Nat) : TG := fun v σ H Q => Q (σ.set i (some v)) H
theorem Yic {i : Nat} {x : Str} (hN : X.N.Nodup) (hi : X.N[i]? = some x) (hx : Loc X.env.scope x) (hf : X.fn x = true \/ X.env.scope.names.lookup x = some .local := by first | exact .inl rfl | exact .inr rfl | assumption) : PG X (.Name x pos) (YoU i) := by
 intro pins s σ H v u Q I r h
 exact wpAny_assign_Name (YbN I hN hi hx r (fun s' I' => ⟨_, H, I', h⟩) hf)
def YpZ : TGs := fun vs σ H Q => vs = [] /\ Q σ H
def Ypf (t : TG) (u : TGs) : TGs := fun vs σ H Q => ∃ v r, vs = v :: r /\ t v σ H fun σ' H' => u r σ' H' Q
theorem YiJ : PGs X [] YpZ := by
 intro pins s σ H vs us Q I r h
 obtain ⟨e, h⟩ := h
 subst e
 cases r
 exact assignInOrder_nil ⟨σ, H, I, h⟩
theorem Ye9 {e : Expr} {es : List Expr} {t : TG} {u : TGs} (h1 : PG X e t) (h2 : PGs X es u)
 (hs : (assignEach (e :: es) X.env).map (·.2) = assign e X.env :: (assignEach es X.env).map (·.2) := by rfl) : PGs X (e :: es) (Ypf t u) := by
 intro pins s σ H vs us Q I r h
 obtain ⟨v, vr, e1, h⟩ := h
 subst e1
 cases r with
 | cons r rr =>
  rw [hs]
  refine assignInOrder_cons (thn (h1 pins s σ H _ _ _ I r h) fun _ s1 ⟨σ1, H1, I1, q1⟩ => ?_)
  exact h2 pins s1 σ1 H1 _ _ Q I1 rr q1
def YpU (K : Frag) (n : Nat) (t : TGs) : TG := fun v σ H Q => ∃ a xs, v = .ref a /\ SqT K H a xs /\ xs.length = n /\ t xs σ H Q
theorem Yka {es : List Expr} {k : Nat} {t : TGs} {n : Nat} (hc : X.calm = true) (h : PGs X es t)
 (hn : (assignEach es X.env).length = n := by rfl) (hst : (assignEach es X.env).findIdx? (·.1) = none := by rfl) : PG X (.Tuple es k pos) (YpU X.K n t) := by
 intro pins s σ H v u Q I r hw
 obtain ⟨a, xs, e1, hq, hl, hw⟩ := hw
 subst e1
 cases r
 obtain ⟨its, rv, ht, hz⟩ := I.tuple hq
 refine assign_Tuple_tuple (I.ok.hd hc) ht (by simp [hn, <- hl, rv.length]) hst fun h' hx => ?_
 have I1 : Inv X pins σ H { s with heap := h' } := I.kept (t' := s.toks) fun b o e => hx b o (ZAL (ZAE e)) e
 exact h pins _ σ H xs _ Q I1 (by simpa using rv) hw
def Ype (te : TE) (g : TG) : TS := fun D σ H => te σ H fun x H1 => g x σ H1 D.nx
theorem YiW {tg e : Expr} {te : TE} {g : TG} (he : PE X e te) (hg : PG X tg g) (hs : swapsWithSole [tg] e pos.line X.env = pure false := by rfl) (hw : swappedStores [tg] e X.env = pure none := by rfl)
 (h1 : (assignEach [tg] X.env).map (·.2) = [assign tg X.env] := by rfl) : PS X (.Assign [tg] e pos) (Ype te g) := by
 show 157
 refine wpAny_Assign_stores (thn (he pins s σ H _ I h) fun v s1 ⟨x, H1, I1, r1, q1⟩ => ?_) hs hw
 rw [h1]
 exact thn (hg pins s1 σ H1 x v _ I1 r1 q1) fun _ s2 q => q
theorem YjY {i : Nat} {x : Str} {e : Expr} {te : TE} {pos' : Pos} (hN : X.N.Nodup) (hi : X.N[i]? = some x) (hx : Loc X.env.scope x) (he : PE X e te) (hs : swapsWith e (some (.Name x pos')) pos.line X.env = pure false := by rfl) (hf : X.fn x = true \/ X.env.scope.names.lookup x = some .local := by first | exact .inl rfl | exact .inr rfl | assumption) :
 PS X (.Assign [.Name x pos'] e pos) (Ype te (YoU i)) := by
 show 157
 refine wpAny_Assign_Name (thn (he pins s σ H _ I h) fun v s1 ⟨y, H1, I1, r1, q1⟩ => ?_) hs
 exact YbN I1 hN hi hx r1 (fun s2 I2 => ⟨_, H1, I2, q1⟩) hf
end
section
variable {X : Cx} {pos : Pos}
def Ypb (c : TT) (tb : TS) : TS := fun D σ H => ∃ W : Nat -> St -> Hp -> Prop, (∃ m, W m σ H) /\ ∀ m σ H, W m σ H ->
 c σ H fun b H1 => if b = true then ∃ N : St -> Hp -> Prop, (∀ σ' H', N σ' H' -> ∃ m', m' < m /\ W m' σ' H') /\ tb { D with nx := N, ct := N, bk := D.nx } σ H1 else D.nx σ H1
theorem Yfg {c : Expr} {body : List Stmt} {tc : TT} {tb : TS} (hp : PassesOwn (model X.prog X.w) X.A X.env X.xe) (hc : PT X c tc) (hb : PSs X body tb) : PS X (.While c body [] pos) (Ypb tc tb) := by
 show 157
 obtain ⟨W, ⟨m0, w0⟩, turn⟩ := h
 refine wpAny_While (codeAny_whileLoop (fun n s' => ∃ σ' H', Inv X pins σ' H' s' /\ W n σ' H') ?_ m0 ⟨σ, H, I, w0⟩)
 rintro n s1 ⟨σ1, H1, I1, w1⟩
 refine ZBP hp (thn (hc pins s1 σ1 H1 _ I1 (turn n σ1 H1 w1)) fun b s2 ⟨H2, I2, q2⟩ => ?_)
 cases b with
 | true =>
  obtain ⟨N, hN, q2⟩ := q2
  rw [ZAG rfl]
  refine ZBP hp (thn (hb pins s2 σ1 H2 _ I2 q2) fun f s3 q3 => ?_)
  cases f with
  | next =>
   obtain ⟨σ3, H3, I3, n3⟩ := q3
   obtain ⟨m', hm, w3⟩ := hN σ3 H3 n3
   exact ⟨m', hm, σ3, H3, I3, w3⟩
  | cont =>
   obtain ⟨σ3, H3, I3, n3⟩ := q3
   obtain ⟨m', hm, w3⟩ := hN σ3 H3 n3
   exact ⟨m', hm, σ3, H3, I3, w3⟩
  | brk => exact q3
  | ret v => exact q3
 | false =>
  rw [ZAF ZAN]
  exact ZB0 ⟨σ1, H2, I2, q2⟩
end
structure It where
 go : Nat -> Hp -> Prop
 yld : Nat -> Hp -> V -> Hp -> Prop
 stop : Nat -> Hp -> Prop
def Ymt (X : Cx) (pins : LAO) (H : Hp) (b : Addr) : Prop :=
 H b = none /\ b ≠ X.env.locals /\ b ∉ X.fs /\ (b ∈ X.ex \/ X.s₀.heap.objs.size <= b) /\ (∀ x c, X.env.cells.lookup x = some c -> c ≠ b) /\ ∀ p ∈ X.pn ++ pins, p.1 ≠ b
theorem Inv.fpOk {X : Cx} {pins : LAO} {σ : St} {H H' : Hp} {s : Shared} {b : Addr} (I : Inv X pins σ H s) (hb : s.heap.objs.size <= b) (hn : H' b = none) : Ymt X pins H' b := by
 refine ⟨hn, ZA5 (ZAM I.lt hb), I.nofs hb, .inr (ZAR I.sz hb), fun x c e z => ?_, fun p hp z => ?_⟩
 ·obtain ⟨v, q⟩ := I.cell x c e
  exact absurd (ZAM q.lt (by rw [z]; exact hb)) (ZBJ _)
 ·exact absurd (ZAM (ZAE (I.pin p hp).1) (by rw [z]; exact hb)) (ZBJ _)
structure Turn (P : Program) (w : World) (K : Frag) (tg : Expr) (J : It) (fp : List Addr) (it : Addr) (tn : Nat -> Heap -> Prop) : Prop where
 mem : it ∈ fp
 obj : ∀ i h, tn i h -> ∀ b ∈ fp, ∃ o, h.get? b = some o /\ ∀ v, o.data ≠ .cell v
 keep : ∀ i h h', tn i h -> (∀ b ∈ fp, ∀ o, h.get? b = some o -> h'.get? b = some o) -> tn i h'
 item : ∀ (X : Cx), X.prog = P -> X.w = w -> X.K = K -> X.calm = true -> ∀ (i : Nat) (pins : LAO) (s : Shared) (σ : St) (H : Hp) (E : VSP), Inv X pins σ H s -> (∀ b ∈ fp, Ymt X pins H b) -> tn i s.heap -> J.go i H ->
  wpAny (model P w) X.A (pyNext (.ref it)) (fun r s1 => ∃ u, r = some u /\
   wpAny (model P w) X.A (letOwnedTupleGo tg (.ref it) u) (fun _ s2 => ∃ x H', Inv X pins σ H' s2 /\ RelV x u /\ J.yld i H x H' /\ tn (i + 1) s2.heap /\ ∀ b ∈ fp, H' b = none) E s1) E s
 done : ∀ (X : Cx), X.prog = P -> X.w = w -> X.K = K -> X.calm = true -> ∀ (i : Nat) (pins : LAO) (s : Shared) (σ : St) (H : Hp) (E : VSP), Inv X pins σ H s -> (∀ b ∈ fp, Ymt X pins H b) -> tn i s.heap -> J.stop i H ->
  wpAny (model P w) X.A (pyNext (.ref it)) (fun r s1 => r = none /\ Inv X pins σ H s1) E s
 self : ∀ (A : Around) (i : Nat) (s : Shared) (Q : VSP) (E : VSP), tn i s.heap -> Q (.ref it) s -> wpAny (model P w) A (pyIter (.ref it)) Q E s
abbrev TI := St -> Hp -> (It -> Hp -> Prop) -> Prop
def PIE (X : Cx) (pins : LAO) (σ : St) (tg : Expr) (R : It -> Hp -> Prop) (itv : Value) (s2 : Shared) : Prop :=
 ∃ (it : Addr) (fp : List Addr) (tn : Nat -> Heap -> Prop) (J : It) (H' : Hp), itv = .ref it /\ Inv X pins σ H' s2 /\ Turn X.prog X.w X.K tg J fp it tn /\ tn 0 s2.heap /\ (∀ b ∈ fp, Ymt X pins H' b) /\ R J H'
def PI (X : Cx) (tg iter : Expr) (wi : TI) : Prop :=
 ∀ (pins : LAO) (s : Shared) (σ : St) (H : Hp) (R : It -> Hp -> Prop), Inv X pins σ H s -> wi σ H R ->
  wpAny (model X.prog X.w) X.A (eval iter X.env) (fun v s1 => wpAny (model X.prog X.w) X.A (pyIter v) (PIE X pins σ tg R) X.xe s1) X.xe s
theorem YbI {M : Model} {A : Around} {E : VSP} {s : Shared} {tg : Expr} {it : Addr} {u : Value} {o : Obj} {n : String} {vs : Array Value} {Q : Unit -> Shared -> Prop} (ho : s.heap.get? it = some o) (hc : o.cls = .type n) (hd : o.data = .fields vs)
 (hn : ["enumerate", "zip", "dict_itemiterator", "dict_reverseitemiterator", "odict_iterator", "itertools.zip_longest", "itertools.pairwise"].contains n = false) (hQ : Q () s) : wpAny M A (letOwnedTupleGo tg (.ref it) u) Q E s := by
 unfold letOwnedTupleGo
 cases tg <;> first
  | exact ZAB hQ
  | (cases u <;> first
   | exact ZAB hQ
   | (refine ZAA (ZCE ho ?_)
      rw [hc, hd]
      show wpAny M A (if (["enumerate", "zip", "dict_itemiterator", "dict_reverseitemiterator", "odict_iterator", "itertools.zip_longest", "itertools.pairwise"].contains n && vs[0]? == some (rawInt _)) = true then _ else _) Q E s
      rw [ZAF (by intro h; rw [hn, Bool.false_and] at h; cases h)]
      exact ZAB hQ))
def Itl (K : Frag) (a : Addr) : It :=
 ⟨fun i H => ∃ xs x, SqL K H a xs /\ xs[i]? = some x, fun i H x H' => H' = H /\ ∀ xs, SqL K H a xs -> xs[i]? = some x, fun i H => ∃ xs, SqL K H a xs /\ xs.length <= i⟩
def Itt (K : Frag) (a : Addr) : It :=
 ⟨fun i H => ∃ xs x, SqT K H a xs /\ xs[i]? = some x, fun i H x H' => H' = H /\ ∀ xs, SqT K H a xs -> xs[i]? = some x, fun i H => ∃ xs, SqT K H a xs /\ xs.length <= i⟩
def Itr (lo : Int) (n : Nat) : It := ⟨fun i _ => i < n, fun i H x H' => H' = H /\ x = .int (lo + i), fun i _ => n <= i⟩
theorem YeG {P : Program} {w : World} {K : Frag} {tg : Expr} (a it : Addr) : Turn P w K tg (Itl K a) [it] it (fun i h => h.IsListIter it a i) where
 mem := by simp
 obj := fun i h st b hb => by
  show 63
 keep := fun i h h' st k => st.at fun o e => k it (by simp) o e
 item := by
  show 11
  obtain ⟨xs, x, hq, hx⟩ := hg
  obtain ⟨its, rv, p, hz⟩ := I.list hq
  obtain ⟨u, hu, ru⟩ := rv.get hx
  show 172
  refine wpAny_pyNext_list_item st p.isList (x := u) (by simpa using hu) fun h' st' sb => ?_
  have I1 : Inv X pins σ H { s with heap := h' } := I.turned (t' := s.toks) (fun b o hb e => (sb.2 b hb).trans e) f0 f1 f3 f4 f5
  obtain ⟨o, e, c, d⟩ := id st'
  exact ⟨u, rfl, YbI (s := { s with heap := h' }) e c d (by decide) ⟨x, H, I1, ru, ⟨rfl, fun ys hy => by rw [I.list_inj hy hq]; exact hx⟩, st', fun b hb => (hf b hb).1⟩⟩
 done := by
  show 11
  obtain ⟨xs, hq, hx⟩ := hg
  obtain ⟨its, rv, p, hz⟩ := I.list hq
  show 172
  show 168
  exact wpAny_pyNext_list_end (I.ok.hd hc) st p.isList (by simp; omega) fun h' eb => ⟨rfl, I.turned (t' := s.toks) (fun b o hb e => eb b o hb e) f0 f1 f3 f4 f5⟩
 self := fun _ _ _ _ _ st h => wpAny_pyIter_listiter st h
theorem YcB {P : Program} {w : World} {K : Frag} {tg : Expr} (a it : Addr) : Turn P w K tg (Itt K a) [it] it (fun i h => h.IsTupleIter it a i) where
 mem := by simp
 obj := fun i h st b hb => by
  show 63
 keep := fun i h h' st k => st.at fun o e => k it (by simp) o e
 item := by
  show 11
  obtain ⟨xs, x, hq, hx⟩ := hg
  obtain ⟨its, rv, p, hz⟩ := I.tuple hq
  obtain ⟨u, hu, ru⟩ := rv.get hx
  show 172
  refine wpAny_pyNext_tuple_item st (show s.heap.IsTuple a its.toArray from p) (x := u) (by simpa using hu) fun h' st' sb => ?_
  have I1 : Inv X pins σ H { s with heap := h' } := I.turned (t' := s.toks) (fun b o hb e => (sb.2 b hb).trans e) f0 f1 f3 f4 f5
  obtain ⟨o, e, c, d⟩ := id st'
  exact ⟨u, rfl, YbI (s := { s with heap := h' }) e c d (by decide) ⟨x, H, I1, ru, ⟨rfl, fun ys hy => by rw [I.tuple_inj hy hq]; exact hx⟩, st', fun b hb => (hf b hb).1⟩⟩
 done := by
  show 11
  obtain ⟨xs, hq, hx⟩ := hg
  obtain ⟨its, rv, p, hz⟩ := I.tuple hq
  show 172
  show 168
  exact wpAny_pyNext_tuple_end (I.ok.hd hc) st (show s.heap.IsTuple a its.toArray from p) (by simp; omega) fun h' eb => ⟨rfl, I.turned (t' := s.toks) (fun b o hb e => eb b o hb e) f0 f1 f3 f4 f5⟩
 self := fun _ _ _ _ _ st h => wpAny_pyIter_tupleiter st h
theorem YcK {P : Program} {w : World} {K : Frag} {tg : Expr} (it : Addr) (lo : Int) (n : Nat) : Turn P w K tg (Itr lo n) [it] it (fun i h => IsRangeIter h it (lo + (i : Nat) * 1) ((n : Int) - (i : Nat)) 1) where
 mem := by simp
 obj := fun i h st b hb => by
  show 77
  exact ⟨_, st, fun v z => by
   have z' : Data.fields _ = Data.cell v := z
   cases z'⟩
 keep := fun i h h' st k => k it (by simp) _ st
 item := by
  show 70
  have W := Walks.range (prog := X.prog) (w := X.w) (I.ok.hd hc) it lo 1 n
  refine W.item i s _ _ hg st fun v h' tk hv st' kk => ?_
  obtain ⟨t, rfl⟩ := hv
  have I1 : Inv X pins σ H { s with heap := h', toks := tk } := I.turned (fun b o hb e => kk b o (by simpa using hb) e) f0 f1 f3 f4 f5
  refine ⟨_, rfl, YbI (s := { s with heap := h', toks := tk }) (n := "range_iterator") st' rfl rfl (by decide) ⟨.int (lo + i), H, I1, ⟨t, ?_⟩, ⟨rfl, rfl⟩, st', fun b hb => (hf b hb).1⟩⟩
  rw [Int.mul_one]
 done := by
  show 70
  exact wpAny_pyNext_range_end (I.ok.hd hc) st (by have : n <= i := hg; omega) fun h' eb => ⟨rfl, I.turned (t' := s.toks) (fun b o hb e => eb b o hb e) f0 f1 f3 f4 f5⟩
 self := fun _ _ _ _ _ st h => wpAny_pyIter_rangeiter st h
end L2
namespace L2
open PySem PySem.Spec PyProof.Rows
section
variable {X : Cx} {tg : Expr}
theorem Yf7 {pins : LAO} {σ : St} {H : Hp} {s : Shared} {R : It -> Hp -> Prop} {E : VSP} {lo hi : Int} {t u v : Tok} {tk : Nat} (I : Inv X pins σ H s) (h1 : -(2 ^ 62) <= lo) (h2 : lo < 2 ^ 62) (h3 : -(2 ^ 62) <= hi) (h4 : hi < 2 ^ 62)
 (q : R (Itr lo (hi - lo).toNat) H) : wpAny (model X.prog X.w) X.A (pyIter (.ref s.heap.objs.size)) (PIE X pins σ tg R) E { s with heap := s.heap.push { cls := .type "range", data := .fields #[.int lo t, .int hi u, .int 1 v] }, toks := tk } := by
 refine wpAny_pyIter_range (IsRange.new ..) (small_one h1 h2 h3 h4) ?_
 have I1 : Inv X pins σ H { s with heap := s.heap.push { cls := .type "range", data := .fields #[.int lo t, .int hi u, .int 1 v] }, toks := tk } := I.kept fun b o e => ZAC _ e
 refine ⟨(s.heap.push { cls := .type "range", data := .fields #[.int lo t, .int hi u, .int 1 v] }).objs.size, [(s.heap.push { cls := .type "range", data := .fields #[.int lo t, .int hi u, .int 1 v] }).objs.size], _, _, H, rfl,
  I1.kept (t' := tk) fun b o e => ZAC _ e, YcK _ lo (hi - lo).toNat, ?_, fun b hb => ?_, q⟩
 ·have e1 : lo + ((0 : Nat) : Int) * 1 = lo := by simp
  have e2 : (((hi - lo).toNat : Nat) : Int) - ((0 : Nat) : Int) = Builtin.Range.rangeSize lo hi 1 := by rw [rangeSize_one]; split <;> omega
  show IsRangeIter _ _ (lo + ((0 : Nat) : Int) * 1) ((((hi - lo).toNat : Nat) : Int) - ((0 : Nat) : Int)) 1
  rw [e1, e2]
  exact ZAK _ rfl
 ·have e : b = (s.heap.push { cls := .type "range", data := .fields #[.int lo t, .int hi u, .int 1 v] }).objs.size := by simpa using hb
  subst e
  exact I1.fpOk (ZAI _) (I1.hok.fresh (ZAI _))
def Ypw (ta : TA) : TI := fun σ H R => ta σ H fun vs H1 => ∃ j : Int, vs = [.int j] /\ -(2 ^ 62) <= j /\ j < 2 ^ 62 /\ R (Itr 0 j.toNat) H1
theorem YeF {a : Expr} {ta : TA} {p pos : Pos} (hg : Gl X "range") (hm : X.mg "range" = none) (ha : PA X [a] ta) (hs : starEach [a] X.env = [(false, eval a X.env)] := by rfl) : PI X tg (.Call (.Name "range" p) [a] [] pos) (Ypw ta) := by
 intro pins s σ H R I h
 refine Call_ (ZU I hg hm boot_range (PyProof.Rows.callWith_type1 (thn (ha pos pins s σ H _ I h) fun us s1 ⟨vs, H1, I1, r1, q1⟩ => ?_) hs rfl))
 obtain ⟨j, e, q1, q2, q⟩ := q1
 subst e
 cases r1 with
 | cons r rr =>
  cases rr
  obtain ⟨t, rfl⟩ := r
  exact call_range_1 (Yf7 I1 (by omega) (by omega) q1 q2 (by simpa using q))
def YpI (wi : TI) (g : TG) (tb : TS) : TS := fun D σ H => wi σ H fun J H1 => ∃ W : Nat -> Nat -> St -> Hp -> Prop, (∃ m, W 0 m σ H1) /\ ∀ i m σ H, W i m σ H ->
 (J.stop i H /\ D.nx σ H) \/ (J.go i H /\ ∃ N : St -> Hp -> Prop, (∀ σ' H', N σ' H' -> ∃ m', m' < m /\ W (i + 1) m' σ' H') /\ ∀ x H', J.yld i H x H' -> g x σ H' fun σ2 H2 => tb { D with nx := N, ct := N, bk := D.nx } σ2 H2)
def Ynm (fp : List Addr) (h : Heap) : List (Addr × Obj) := fp.filterMap fun b => (h.get? b).map fun o => (b, o)
theorem Z5 {fp : List Addr} {h : Heap} {b : Addr} {o : Obj} (hb : b ∈ fp) (e : h.get? b = some o) : (b, o) ∈ Ynm fp h := ZB4.mpr ⟨b, hb, by rw [e]; rfl⟩
theorem YeC {fp : List Addr} {h : Heap} {p : Addr × Obj} (hp : p ∈ Ynm fp h) : p.1 ∈ fp /\ h.get? p.1 = some p.2 := by
 obtain ⟨b, hb, e⟩ := ZB4.mp hp
 cases q : h.get? b with
 | none => show 193
 | some o =>
  rw [q] at e
  have e' : (b, o) = p := Option.some.inj e
  subst e'
  exact ⟨hb, q⟩
theorem Inv.pinned {pins : LAO} {σ : St} {H : Hp} {s : Shared} {fp : List Addr} (I : Inv X pins σ H s) (hf : ∀ b ∈ fp, Ymt X pins H b) (ho : ∀ b ∈ fp, ∃ o, s.heap.get? b = some o /\ ∀ v, o.data ≠ .cell v) : Inv X (pins ++ Ynm fp s.heap) σ H s :=
 I.pins_of fun p hp => (ZAf.mp hp).elim (fun z => I.pin p (ZAc _ z)) fun z => by
  obtain ⟨hb, e⟩ := YeC z
  obtain ⟨f0, f1, f2, _⟩ := hf p.1 hb
  obtain ⟨o, e', d⟩ := ho p.1 hb
  rw [e] at e'; cases e'
  exact ⟨e, f0, f1, f2, d⟩
theorem Inv.unpinned {pins pl : LAO} {σ : St} {H : Hp} {s : Shared} (I : Inv X (pins ++ pl) σ H s) : Inv X pins σ H s := I.pins_of fun p hp => I.pin p (ZAc _ (ZBk _ hp))
theorem Yi5 {iter : Expr} {body : List Stmt} {wi : TI} {g : TG} {tb : TS} {pos : Pos} (hp : PassesOwn (model X.prog X.w) X.A X.env X.xe) (hc : X.calm = true) (hi : PI X tg iter wi) (hg : PG X tg g) (hb : PSs X body tb)
 (hs : ∀ x, foldedSetIterable iter X.env x = pure x := by intro _; rfl) : PS X (.For tg iter body [] pos) (YpI wi g tb) := by
 show 157
 refine wpAny_For (thn (hi pins s σ H _ I h) fun v s1 h1 => thn h1 fun itv s2 h2 => ?_) hs
 obtain ⟨it, fp, tn, J, H2, e, I2, T, st2, f2, W, ⟨m0, w0⟩, turn⟩ := h2
 subst e
 have stat : ∀ {H' : Hp}, (∀ b ∈ fp, H' b = none) -> ∀ b ∈ fp, Ymt X pins H' b := fun hn b hb => ⟨hn b hb, (f2 b hb).2⟩
 refine codeAny_forLoop_any (fun n s' => ∃ i σ' H', Inv X pins σ' H' s' /\ tn i s'.heap /\ (∀ b ∈ fp, H' b = none) /\ W i n σ' H') ?_ m0 ⟨0, σ, H2, I2, st2, fun b hb => (f2 b hb).1, w0⟩
 rintro n s3 ⟨i, σ3, H3, I3, st3, fr3, w3⟩
 rcases turn i n σ3 H3 w3 with ⟨stop, qn⟩ | ⟨go, N, hN, step⟩
 ·refine ZBP hp (thn (T.done X rfl rfl rfl hc i pins s3 σ3 H3 X.xe I3 (stat fr3) st3 stop) fun r s4 ⟨hr, I4⟩ => ?_)
  subst hr
  exact ZB0 ⟨σ3, H3, I4, qn⟩
 ·refine ZBP hp (thn (T.item X rfl rfl rfl hc i pins s3 σ3 H3 X.xe I3 (stat fr3) st3 go) fun r s4 ⟨u, hr, h4⟩ => ?_)
  subst hr
  refine ZBP hp (thn h4 fun _ s5 ⟨x, H5, I5, r5, y5, st5, fr5⟩ => ?_)
  have I5' := I5.pinned (stat fr5) (T.obj _ _ st5)
  refine ZBP hp (thn (hg _ s5 σ3 H5 x u _ I5' r5 (step x H5 y5)) fun _ s6 ⟨σ6, H6, I6, q6⟩ => ?_)
  refine ZBP hp (thn (hb _ s6 σ6 H6 _ I6 q6) fun f s7 q7 => ?_)
  have again : ∀ {σ7 : St} {H7 : Hp}, Inv X (pins ++ Ynm fp s5.heap) σ7 H7 s7 -> N σ7 H7 -> ∃ m, m < n /\ ∃ i σ' H', Inv X pins σ' H' s7 /\ tn i s7.heap /\ (∀ b ∈ fp, H' b = none) /\ W i m σ' H' := fun {σ7 H7} I7 n7 => by
   obtain ⟨m', hm, w7⟩ := hN σ7 H7 n7
   refine ⟨m', hm, i + 1, σ7, H7, I7.unpinned, T.keep _ _ _ st5 fun b hb o e => (I7.pin (b, o) (ZAc _ (ZAc _ (Z5 hb e)))).1, fun b hb => ?_, w7⟩
   obtain ⟨o, e, d⟩ := T.obj _ _ st5 b hb
   exact (I7.pin (b, o) (ZAc _ (ZAc _ (Z5 hb e)))).2.1
  cases f with
  | next => obtain ⟨σ7, H7, I7, n7⟩ := q7; exact again I7 n7
  | cont => obtain ⟨σ7, H7, I7, n7⟩ := q7; exact again I7 n7
  | brk => obtain ⟨σ7, H7, I7, q7⟩ := q7; exact ⟨σ7, H7, I7.unpinned, q7⟩
  | ret v => obtain ⟨x7, σ7, H7, I7, r7, q7⟩ := q7; exact ⟨x7, σ7, H7, I7.unpinned, r7, q7⟩
end
end L2
namespace L2
open PySem PySem.Spec PyProof.Rows
abbrev R2 := V -> V -> Hp -> VK -> Prop
def OpR (X : Cx) (f : Value -> Value -> Sem Value) (r : R2) : Prop :=
 ∀ (pins : LAO) (s : Shared) (σ : St) (H : Hp) (x y : V) (v u : Value) (Q : VK), Inv X pins σ H s -> RelV x v -> RelV y u -> r x y H Q ->
  wpAny (model X.prog X.w) X.A (f v u) (EP X pins σ Q) X.xe s
def Yl0 (X : Cx) (f : Value) (r : List V -> Hp -> VK -> Prop) : Prop :=
 ∀ (pins : LAO) (s : Shared) (σ : St) (H : Hp) (xs : List V) (us : List Value) (Q : VK), Inv X pins σ H s -> Vals xs us -> r xs H Q ->
  wpAny (model X.prog X.w) X.A (call f us) (EP X pins σ Q) X.xe s
def YpJ (X : Cx) (r : V -> Hp -> (Bool -> Hp -> Prop) -> Prop) : Prop :=
 ∀ (pins : LAO) (s : Shared) (σ : St) (H : Hp) (x : V) (v : Value) (Q : Bool -> Hp -> Prop), Inv X pins σ H s -> RelV x v -> r x H Q ->
  wpAny (model X.prog X.w) X.A (truthy v) (TP X pins σ Q) X.xe s
def tOp (r : R2) (ta tb : TE) : TE := fun σ H Q => ta σ H fun x H1 => tb σ H1 fun y H2 => r x y H2 Q
def rI (C : Int -> Int -> Prop) (g : Int -> Int -> V) : R2 := fun x y H Q => ∃ i j, x = .int i /\ y = .int j /\ C i j /\ Q (g i j) H
def rI0 (g : Int -> Int -> V) : R2 := fun x y H Q => ∃ i j, x = .int i /\ y = .int j /\ Q (g i j) H
section
variable {X : Cx} {a b c : Expr} {ta tb tc : TE} {pos : Pos}
theorem Yo7 (ha : PE X a ta) (hb : PE X b tb) {pins : LAO} {s : Shared} {σ : St} {H : Hp} {R : V -> V -> Hp -> Prop} (I : Inv X pins σ H s)
 (h : ta σ H fun x H1 => tb σ H1 fun y H2 => R x y H2) {Q : VSP} {f : Value -> Value -> Sem Value}
 (hf : ∀ v u s2 x y H2, Inv X pins σ H2 s2 -> RelV x v -> RelV y u -> R x y H2 -> wpAny (model X.prog X.w) X.A (f v u) Q X.xe s2) :
 wpAny (model X.prog X.w) X.A (eval a X.env) (fun v s₁ => wpAny (model X.prog X.w) X.A (eval b X.env) (fun u s₂ => wpAny (model X.prog X.w) X.A (f v u) Q X.xe s₂) X.xe s₁) X.xe s := by
 refine thn (ha pins s σ H _ I h) fun v s1 ⟨x, H1, I1, r1, q1⟩ => ?_
 refine thn (hb pins s1 σ H1 _ I1 q1) fun u s2 ⟨y, H2, I2, r2, q2⟩ => ?_
 exact hf v u s2 x y H2 I2 r1 r2 q2
theorem YkR {op : Operator} {r : R2} (ho : OpR X (binaryOp op) r) (ha : PE X a ta) (hb : PE X b tb) : PE X (.BinOp a op b pos) (tOp r ta tb) := by
 show 139
 exact wpAny_BinOp (Yo7 ha hb I h fun v u s2 x y H2 I2 rx ry q => ho pins s2 σ H2 x y v u Q I2 rx ry q)
theorem opI {f : Value -> Value -> Sem Value} {C : Int -> Int -> Prop} {g : Int -> Int -> Int}
 (rule : ∀ (i j : Int) (t u : Tok) (s : Shared) (Q : VSP) (E : VSP), C i j -> Q (.int (g i j) s.toks) { s with toks := s.toks + 1 } -> wpAny (model X.prog X.w) X.A (f (.int i t) (.int j u)) Q E s) :
 OpR X f (rI C fun i j => .int (g i j)) := by
 show 163
 obtain ⟨i, j, rfl, rfl, hc, q⟩ := h
 show 20
 exact rule i j t t' s _ _ hc ⟨.int (g i j), H, I.tok _, ⟨_, rfl⟩, q⟩
theorem Ypi {f : Value -> Value -> Sem Value} {g : Int -> Int -> Int}
 (rule : ∀ (i j : Int) (t u : Tok) (s : Shared) (Q : VSP) (E : VSP), Q (.int (g i j) s.toks) { s with toks := s.toks + 1 } -> wpAny (model X.prog X.w) X.A (f (.int i t) (.int j u)) Q E s) :
 OpR X f (rI0 fun i j => .int (g i j)) := by
 show 33
 exact rule i j t t' s _ _ ⟨.int (g i j), H, I.tok _, ⟨_, rfl⟩, q⟩
theorem Ypa {f : Value -> Value -> Sem Value} {g : Int -> Int -> Bool}
 (rule : ∀ (i j : Int) (t u : Tok) (s : Shared) (Q : VSP) (E : VSP), Q (.bool (g i j)) s -> wpAny (model X.prog X.w) X.A (f (.int i t) (.int j u)) Q E s) :
 OpR X f (rI0 fun i j => .bl (g i j)) := by
 show 33
 exact rule i j t t' s _ _ ⟨.bl (g i j), H, I, rfl, q⟩
def YpM (i j : Int) : Prop := 0 < j /\ j < 1073741824
def Yo2 (i j : Int) : Prop := (-(2 ^ 64) < i /\ i < 2 ^ 64) \/ (-(2 ^ 64) < j /\ j < 2 ^ 64)
theorem Yo2.ok {i j : Int} (h : Yo2 i j) : IntMulOk i j := by
 rcases h with ⟨h1, h2⟩ | ⟨h1, h2⟩
 ·exact .of_left (intBits_le_64 h1 h2)
 ·exact .of_right (intBits_le_64 h1 h2)
theorem YiY : OpR X (binaryOp .Add) (rI0 fun i j => .int (i + j)) := Ypi fun _ _ _ _ _ _ _ q => add_int q
theorem Ykj : OpR X (binaryOp .Sub) (rI0 fun i j => .int (i - j)) := Ypi fun _ _ _ _ _ _ _ q => sub_int q
theorem YjK : OpR X (binaryOp .Mult) (rI Yo2 fun i j => .int (i * j)) := opI fun _ _ _ _ _ _ _ hc q => mul_int q hc.ok
theorem YhC : OpR X (binaryOp .FloorDiv) (rI YpM fun i j => .int (i / j)) := opI fun i j _ _ _ _ _ hc q => by
 have h1 : (0 : Int) < j := hc.1
 have h2 : j < 1073741824 := hc.2
 exact floordiv_int (by omega) (by rw [Int.fdiv_eq_ediv_of_nonneg i (by omega)]; exact q) (.inl (PyProof.noPylong_small (by omega)))
theorem YjI : OpR X (binaryOp .Mod) (rI (fun _ j => 0 < j) fun i j => .int (i % j)) := opI fun i j _ _ _ _ _ hc q => by
 have h1 : (0 : Int) < j := hc
 exact mod_int' (by omega) (by rw [Int.fmod_eq_emod_of_nonneg i (by omega)]; exact q)
end
section
variable {X : Cx} {a b c : Expr} {ta tb tc : TE} {pos : Pos}
theorem Ybx {pins : LAO} {σ : St} {H : Hp} {s : Shared} {Q : VK} {k k' : Bool} (I : Inv X pins σ H s) (q : Q (.bl k) H) (e : k = k') : EP X pins σ Q (.bool k') s := by
 subst e
 exact ⟨.bl k, H, I, rfl, q⟩
theorem YkW : OpR X (compareOp .Lt) (rI0 fun i j => .bl (decide (i < j))) := Ypa fun _ _ _ _ _ _ _ q => lt_int q
theorem Yk6 : OpR X (compareOp .LtE) (rI0 fun i j => .bl (decide (i <= j))) := Ypa fun _ _ _ _ _ _ _ q => le_int q
theorem Yk8 : OpR X (compareOp .Gt) (rI0 fun i j => .bl (decide (j < i))) := Ypa fun _ _ _ _ _ _ _ q => gt_int q
theorem YeA : OpR X (compareOp .Lt) (fun x y H Q => ∃ i j, x = .str i /\ y = .str j /\ Q (.bl (decide (i.cps.toList < j.cps.toList))) H) := by
 show 33
 exact lt_str (Ybx I q rfl)
theorem Yeo : OpR X (compareOp .In) (fun x y H Q => ∃ i j, x = .str i /\ y = .str j /\ Q (.bl (!(Builtin.Str.occurrences j i 0 j.length 1).isEmpty)) H) := by
 show 33
 exact in_str (Ybx I q rfl)
theorem Yjs : OpR X (compareOp .Is) (fun x y H Q => y = .non /\ Q (.bl (decide (x = .non))) H) := by
 show 163
 obtain ⟨rfl, q⟩ := h
 cases ry
 refine is_none_gen (Ybx I q ?_)
 cases x <;> first
  | (cases rx; rfl)
  | (obtain ⟨t, rfl⟩ := rx; rfl)
theorem Ybb : OpR X (compareOp .NotIn) (fun x y H Q => ∃ i j, x = .str i /\ y = .str j /\ Q (.bl (!(!(Builtin.Str.occurrences j i 0 j.length 1).isEmpty))) H) := by
 show 33
 exact notIn_str (Ybx I q rfl)
theorem nomark (b : Expr) {op : CmpOp} (h : op ≠ .In := by decide) (h2 : op ≠ .NotIn := by decide) : behindInMarks op b = false := by
 have e1 : (op == CmpOp.In) = false := by cases op <;> first | rfl | exact absurd rfl h
 have e2 : (op == CmpOp.NotIn) = false := by cases op <;> first | rfl | exact absurd rfl h2
 cases b <;> simp [behindInMarks, e1, e2]
theorem Yie {op : CmpOp} {r : R2} (ho : OpR X (compareOp op) r) (ha : PE X a ta) (hb : PE X b tb) (hm : behindInMarks op b = false) : PE X (.Compare a [op] [b] pos) (tOp r ta tb) := by
 show 139
 exact wpAny_Compare1 (Yo7 ha hb I h fun v u s2 x y H2 I2 rx ry q => ho pins s2 σ H2 x y v u Q I2 rx ry q) hm
def YoQ (t : TE) : TT := fun σ H Q => t σ H fun x H' => ∃ k, x = .bl k /\ Q k H'
theorem YiC {op : CmpOp} {r : R2} (ho : OpR X (compareOp op) r) (ha : PE X a ta) (hb : PE X b tb) (hm : behindInMarks op b = false) : PT X (.Compare a [op] [b] pos) (YoQ (tOp r ta tb)) := by
 show 139
 refine wpAny_isTrue_Compare1 (thn (ha pins s σ H _ I h) fun v s1 ⟨x, H1, I1, r1, q1⟩ => thn (hb pins s1 σ H1 _ I1 q1) fun u s2 ⟨y, H2, I2, r2, q2⟩ =>
  thn (ho pins s2 σ H2 x y v u _ I2 r1 r2 q2) fun c s3 ⟨z, H3, I3, r3, k, e, q3⟩ => ?_) hm
 subst e
 cases r3
 exact ZBh ⟨H3, I3, q3⟩
def Yoo (r r' : R2) (ta tb tc : TE) : TE := fun σ H Q => ta σ H fun x H1 => tb σ H1 fun y H2 => r x y H2 fun z H3 => ∃ k, z = .bl k /\
 (if k = true then tc σ H3 fun w' H4 => r' y w' H4 Q else Q (.bl false) H3)
theorem Yfb {op op' : CmpOp} {r r' : R2} (ho : OpR X (compareOp op) r) (ho' : OpR X (compareOp op') r') (ha : PE X a ta) (hb : PE X b tb) (hc : PE X c tc)
 (hm : lastMarks [op, op'] [b, c] = false := by with_unfolding_all rfl) : PE X (.Compare a [op, op'] [b, c] pos) (Yoo r r' ta tb tc) := by
 show 139
 refine Compare_chain (thn (ha pins s σ H _ I h) fun v s1 ⟨x, H1, I1, r1, q1⟩ => chain_link (thn (hb pins s1 σ H1 _ I1 q1) fun u s2 ⟨y, H2, I2, r2, q2⟩ =>
  thn (ho pins s2 σ H2 x y v u _ I2 r1 r2 q2) fun d s3 ⟨z, H3, I3, r3, k, e, q3⟩ => ?_)) hm
 subst e
 cases r3
 refine ZBh ?_
 cases k with
 | false => exact ite_ff ⟨.bl false, H3, I3, rfl, q3⟩
 | true => exact ite_tt (chain_last (thn (hc pins s3 σ H3 _ I3 q3) fun w' s4 ⟨z', H4, I4, r4, q4⟩ => ho' pins s4 σ H4 y z' u w' Q I4 r2 r4 q4))
def YoW (K : Frag) (x : V) (H : Hp) (k : Bool) : Prop :=
 match x with
 | .non => k = false
 | .bl b => k = b
 | .int i => k = (i != 0)
 | .str y => y.length <= sizeLine /\ k = ((y.length : Int) != 0)
 | .byt y => y.size <= sizeLine /\ k = ((y.size : Int) != 0)
 | .ref p => (∃ xs, SqL K H p xs /\ k = !xs.isEmpty) \/ (∃ xs, SqT K H p xs /\ k = !xs.isEmpty) \/ ∃ kvs, H p = some (.dK kvs) /\ k = !kvs.isEmpty
 | _ => False
theorem YcC {κ : Type} {kvs : List (κ × V)} {vs : List (κ × Value)} (r : KV kvs vs) : (!vs.isEmpty) = !kvs.isEmpty := by
 cases r <;> rfl
theorem Jy {xs : List V} {its : List Value} (r : Vals xs its) : (!its.toArray.isEmpty) = !xs.isEmpty := by
 cases r <;> simp
theorem line63 : (sizeLine : Nat) < 2 ^ 63 := by rw [sizeLine_eq]; decide
theorem Ykw : YpJ X (fun x H Q => ∃ k, YoW X.K x H k /\ Q k H) := by
 intro pins s σ H x v Q I rx h
 obtain ⟨k, e, q⟩ := h
 have hl := line63
 have hs : sizeLine = 16777216 := sizeLine_eq
 cases x with
 | non =>
  cases rx
  have e' : k = false := e
  subst e'
  exact truthy_none ⟨H, I, q⟩
 | bl b =>
  cases rx
  have e' : k = b := e
  subst e'
  exact ZBh ⟨H, I, q⟩
 | int i =>
  show 165
  have e' : k = (i != 0) := e
  subst e'
  exact PySem.P.truthy_int ⟨H, I, q⟩
 | str y =>
  show 165
  obtain ⟨hy, e'⟩ : y.length <= sizeLine /\ k = ((y.length : Int) != 0) := e
  subst e'
  exact PySem.P.truthy_str (by omega) ⟨H, I.tok _, q⟩
 | byt y =>
  show 165
  obtain ⟨hy, e'⟩ : y.size <= sizeLine /\ k = ((y.size : Int) != 0) := e
  subst e'
  exact PySem.W.truthy_bytes (by omega) ⟨H, I.tok _, q⟩
 | ref p =>
  cases rx
  have e' : (∃ xs, SqL X.K H p xs /\ k = !xs.isEmpty) \/ (∃ xs, SqT X.K H p xs /\ k = !xs.isEmpty) \/ ∃ kvs, H p = some (.dK kvs) /\ k = !kvs.isEmpty := e
  rcases e' with ⟨xs, hx, e'⟩ | ⟨xs, hx, e'⟩ | ⟨kvs, hx, e'⟩
  ·subst e'
   obtain ⟨its, r, pl, hz⟩ := I.list hx
   have hlen := r.length
   exact wpAny_truthy_list pl.isList (by simp only [List.size_toArray]; omega) ⟨H, I.tok _, by rw [Jy r]; exact q⟩
  ·subst e'
   obtain ⟨its, r, pl, hz⟩ := I.tuple hx
   have hlen := r.length
   exact truthy_tuple pl (by simp only [List.size_toArray]; omega) ⟨H, I.tok _, by rw [Jy r]; exact q⟩
  ·subst e'
   obtain ⟨hz, hS, vs, r, m⟩ : kvs.length <= sizeLine /\ (p == sysModules) = false /\ ∃ vs, KV kvs vs /\ s.heap.DictOf (YlC X.prog X.w) p vs := I.hok p _ hx
   have hlen : kvs.length = vs.length := Paired.length r
   exact wpAny_truthy_dict hS m (by omega) ⟨H, I.tok _, by rw [YcC r]; exact q⟩
 | _ => exact (show False from e).elim
theorem YfH (ha : PE X a ta) (he : ∀ whole, isTrue a X.env whole = (do let v <- whole; standAt a.pos; holding [v] (truthy v))) :
 PT X a (fun σ H Q => ta σ H fun x H' => ∃ k, YoW X.K x H' k /\ Q k H') := by
 show 139
 exact isTrue_plain (thn (ha pins s σ H _ I h) fun v s1 ⟨x, H1, I1, r1, q1⟩ => Ykw pins s1 σ H1 x v Q I1 r1 q1) (he _)
theorem Ydd : OpR X (binaryOp .Add) (fun x y H Q => ∃ i j, x = .str i /\ y = .str j /\ i.length + j.length <= sizeLine /\ Q (.str (i ++ j)) H) := by
 show 163
 obtain ⟨i, j, rfl, rfl, hz, q⟩ := h
 show 20
 exact add_str (fun t' tk => ⟨.str (i ++ j), H, I.tok _, ⟨_, rfl⟩, q⟩) hz
theorem vals1 {x : V} {us : List Value} (r : Vals [x] us) : ∃ u, us = [u] /\ RelV x u := by
 cases r with
 | cons r1 r2 => cases r2; exact ⟨_, rfl, r1⟩
theorem vals2 {x y : V} {us : List Value} (r : Vals [x, y] us) : ∃ u w', us = [u, w'] /\ RelV x u /\ RelV y w' := by
 cases r with
 | cons r1 r2 =>
  cases r2 with
  | cons r3 r4 => cases r4; exact ⟨_, _, rfl, r1, r3⟩
theorem YdZ (hc : X.calm = true) : Yl0 X (.builtin "min") (fun xs H Q => ∃ i j, xs = [.int i, .int j] /\ Q (.int (if j < i then j else i)) H) := by
 show 191
 obtain ⟨i, j, rfl, q⟩ := h
 obtain ⟨u, w', rfl, ⟨t, rfl⟩, ⟨t', rfl⟩⟩ := vals2 r
 refine min_two_ints (I.ok.hd hc) fun h' tk k => ⟨_, H, I.kept k, ?_, q⟩
 by_cases hj : j < i
 ·rw [ZAG hj, ZAG hj]; exact ⟨_, rfl⟩
 ·rw [ZAF hj, ZAF hj]; exact ⟨_, rfl⟩
theorem YaW : Yl0 X (.type "int") (fun xs H Q => (∃ i, xs = [.int i] /\ Q (.int i) H) \/ ∃ k, xs = [.bl k] /\ Q (.int (if k then 1 else 0)) H) := by
 show 191
 rcases h with ⟨i, rfl, q⟩ | ⟨k, rfl, q⟩
 ·show 228
  exact call_int_int ⟨.int i, H, I, ⟨_, rfl⟩, q⟩
 ·obtain ⟨u, rfl, r1⟩ := vals1 r
  cases r1
  exact call_int_bool ⟨.int (if k then 1 else 0), H, I.tok _, ⟨_, rfl⟩, q⟩
end
end L2
namespace L2
open PySem PySem.Spec PyProof.Rows
structure Ypj (h : Heap) (x dx C : Addr) (mA : SOV) : Prop where
 obj : h.get? x = some (PySem.W.instObj C dx)
 ns : h.Ns1 dx mA
 ne : dx ≠ x
theorem Yd5 {h : Heap} {dx : Addr} {mA : SOV} (n : h.Ns1 dx mA) : ∃ od, h.get? dx = some od /\ ∀ name, PySem.W.lookIn name od = some (mA name) := by
 obtain ⟨o, es, ep, ho, hd, hk, _, hm⟩ := n
 refine ⟨o, ho, fun name => ?_⟩
 have e := hm name
 unfold nsFind findBy at e
 rw [<- Array.find?_toList] at e
 unfold PySem.W.lookIn
 rw [hd]
 show 95
 ·rename_i y q
  rw [q] at e
  exact ZBK some e
 ·rename_i q
  rw [q] at e
  have a : es.toList.any (·.refKey) = false := by
   rw [ZBi]
   intro y hy
   obtain ⟨z, t, hkey⟩ := hk y (ZCZ.mp hy)
   simp [DictEntry.refKey, hkey]
  have a' : ¬ es.toList.any (·.refKey) = true := by rw [a]; exact ZAN
  rw [ZAF a']
  exact ZBK some e
theorem Ypj.look {h : Heap} {x dx C : Addr} {mA : SOV} (I : Ypj h x dx C mA) : ∃ od, PySem.W.InstAt h x (PySem.W.instObj C dx) C (some od) /\ ∀ name, PySem.W.lookIn name od = some (mA name) :=
 let ⟨od, ho, hl⟩ := Yd5 I.ns
 ⟨od, ⟨I.obj, rfl, rfl, ho⟩, hl⟩
section
variable {prog : Program} {w : World} {A : Around} {E : VSP} {s : Shared} {K : Frag} {x dx C f : Addr} {mA : SOV} {name : Str} {v : Value}
end
theorem Ynb.some_of {v : V} {o : Option Value} (r : Ynb (some v) o) : ∃ u, o = some u /\ RelV v u := by
 cases o with
 | none => show 203
 | some u => exact ⟨u, rfl, r⟩
section
variable {P : Program} {w : World} {H H' : Hp} {h h' : Heap} {a C dx : Addr} {fs fs' : List (Str × V)}
end
structure Cls (K : Frag) (C : Addr) : Prop where
 pg : PySem.W.plainGet K C Str.empty = true
 hd : PySem.W.hasDictIn K C = true
 po : PySem.W.plainOver K C = true
 sa : PySem.W.findIn K (.ref C) "__setattr__" = some (some (.builtin "object.__setattr__"))
structure Con (K : Frag) (C : Addr) (f : Str) (v : V) (u : Value) : Prop where
 at_ : PySem.W.findIn K (.ref C) f = some (some u)
 rel : RelV v u
 get : PySem.W.specialIn K u "__get__" = some none
 cp : PySem.W.copiedNames.contains f = false
structure Meth (K : Frag) (C : Addr) (m : Str) (f : Addr) : Prop where
 at_ : PySem.W.findIn K (.ref C) m = some (some (.ref f))
 fn : PySem.W.isFn K (.ref f) = true
 kp : PySem.W.keepIn K (.ref f) = true
section
variable {X : Cx} {pins : LAO} {σ : St} {H : Hp} {s : Shared} {a C dx : Addr} {fs : List (Str × V)} {f : Str} {v : V} {A : Around} {E : VSP}
theorem Inv.made (I : Inv X pins σ H s) : Inv X pins σ (upd (upd H s.heap.objs.size (.own (s.heap.objs.size + 1))) (s.heap.objs.size + 1) (.ins C s.heap.objs.size []))
 { s with heap := (s.heap.push PySem.W.emptyDict).push (PySem.W.instObj C s.heap.objs.size) } := by
 have e1 : (s.heap.push PySem.W.emptyDict).get? s.heap.objs.size = some PySem.W.emptyDict := ZAK s.heap rfl
 have e2 : ((s.heap.push PySem.W.emptyDict).push (PySem.W.instObj C s.heap.objs.size)).get? (s.heap.objs.size + 1) = some (PySem.W.instObj C s.heap.objs.size) := by
  have := ZAK (s.heap.push PySem.W.emptyDict) (o := PySem.W.instObj C s.heap.objs.size) rfl
  rwa [ZAa] at this
 have e3 : (s.heap.push PySem.W.emptyDict).Ns s.heap.objs.size (fun _ => none) := ⟨PySem.W.emptyDict, #[], _, e1, rfl, (fun e he => absurd he (by simp)), fun _ => rfl⟩
 have I1 := I.laid (a := s.heap.objs.size) (o := .own (s.heap.objs.size + 1)) (h' := s.heap.push PySem.W.emptyDict) (t' := s.toks) (fun b u q => ZAC _ q) (ZAI _) ⟨_, e1⟩
 refine I1.laid (a := s.heap.objs.size + 1) (o := .ins C s.heap.objs.size []) (t' := s.toks) (fun b u q => ZAC _ q) (Nat.le_of_eq (ZAa _ _)) ?_
 have ne : s.heap.objs.size ≠ s.heap.objs.size + 1 := ZAL (ZAz _)
 refine ⟨by rw [Yg ne, Yj], ZBM _, ne, e2, fun _ => none, (Heap.Ns1.of_empty e3).at fun o q => ZAC _ q, fun _ => True.intro, fun y hy => absurd rfl hy⟩
end
section
variable {X : Cx} {o e value : Expr} {f : Str} {pos pos' tpos : Pos} {ta tv : TE}
end
section
variable {X : Cx} {pins : LAO} {σ : St} {H : Hp} {s : Shared} {A : Around} {E : VSP} {Q : VSP} {c : Value} {b : Bool}
inductive TyOf (K : Frag) (H : Hp) : V -> Value -> Prop where
 | non : TyOf K H .non (.type "NoneType")
 | bl (x : Bool) : TyOf K H (.bl x) (.type "bool")
 | int (i : Int) : TyOf K H (.int i) (.type "int")
 | str (x : Str) : TyOf K H (.str x) (.type "str")
 | flt (x : UInt64) : TyOf K H (.flt x) (.type "float")
 | lst {a : Addr} {xs : List V} (e : H a = some (.lst xs)) : TyOf K H (.ref a) (.type "list")
 | frz {a : Addr} {o : Obj} {xs : List V} (e : H a = some (.frz o (.lst xs))) : TyOf K H (.ref a) (.type "list")
 | tup {a : Addr} {xs : List V} (e : H a = some (.tup xs)) : TyOf K H (.ref a) (.type "tuple")
 | dK {a : Addr} {kvs : List (Key × V)} (e : H a = some (.dK kvs)) : TyOf K H (.ref a) (.type "dict")
 | dT {a : Addr} {kvs : List (List Key × V)} (e : H a = some (.dT kvs)) : TyOf K H (.ref a) (.type "dict")
 | ins {a C dx : Addr} {fs : List (Str × V)} (e : H a = some (.ins C dx fs)) (cl : Cls K C) (ha : PySem.W.findIn K (.ref C) "__class__" = some (some (.builtin "object.__class__")))
  (hn : PySem.W.specialIn K (.builtin "object.__class__") "__get__" = some (some (.builtin "getset_descriptor.__get__"))) (htk : PySem.W.takesIn K (.builtin "object.__class__") = some true)
  (hm : PySem.W.mroIn K C (.type "object") = some true) : TyOf K H (.ref a) (.ref C)
end
end L2
namespace L2
open PySem PySem.Spec PyProof.Rows
structure Ymm (k : Nat) (A : Around) : Prop where
 hd : A.handled = none
 dp : A.depth + 3 * k + 5 < recursionLimit
 un : A.units + 16 * k + 200 < cLine
theorem Ymm.mono {j k : Nat} {A : Around} (r : Ymm k A) (h : j <= k) : Ymm j A := ⟨r.hd, by have := r.dp; omega, by have := r.un; omega⟩
theorem Ymm.deeper {k : Nat} {A : Around} (r : Ymm (k + 1) A) (env : Env) : Ymm k (A.deeper env) :=
 ⟨r.hd, by have := r.dp; show A.depth + 1 + 3 * k + 5 < _; omega, by have := r.un; show A.units + 3 + 16 * k + 200 < _; omega⟩
theorem Ymm.depth {k : Nat} {A : Around} (r : Ymm k A) : A.depth < recursionLimit := by have := r.dp; omega
theorem Ymm.units {k : Nat} {A : Around} (r : Ymm k A) : A.units + 64 < cLine := by have := r.un; omega
def YpE : TA := fun _ H Q => Q [] H
def Ypo (ta : TE) (tr : TA) : TA := fun σ H Q => ta σ H fun x H1 => tr σ H1 fun xs H2 => Q (x :: xs) H2
section
variable {X : Cx} {e : Expr} {es : List Expr} {te : TE} {t : TA} {pos : Pos}
theorem YbF : PA X [] YpE := fun _ _ _ _ H Q I h => Calls.spliced_nil ⟨[], H, I, .nil, h⟩
theorem Vb (ha : PE X e te) (hr : PA X es t) (hs : starEach (e :: es) X.env = (false, eval e X.env) :: starEach es X.env := by rfl) : PA X (e :: es) (Ypo te t) := by
 intro pos pins s σ H Q I h
 rw [hs]
 show wpAny _ _ (spliced ((false, eval e X.env) :: backTo pos (starEach es X.env))) _ _ s
 refine Calls.spliced_cons (thn (ha pins s σ H _ I h) fun u s1 ⟨x, H1, I1, r1, q1⟩ => ?_)
 exact thn (hr pos pins s1 σ H1 _ I1 q1) fun us s2 ⟨xs, H2, I2, r2, q2⟩ => ⟨x :: xs, H2, I2, .cons r1 r2, q2⟩
def Yp2 (t : TA) : TE := fun σ H Q => t σ H fun xs H1 => xs.length <= sizeLine /\ ∀ p, H1 p = none -> Q (.ref p) (upd H1 p (.tup xs))
def Yp1 (t : TA) : TE := fun σ H Q => t σ H fun xs H1 => xs.length <= sizeLine /\ ∀ p, H1 p = none -> Q (.ref p) (upd H1 p (.lst xs))
theorem Yky {x1} (h : PA X es t) : PE X (.Tuple es x1 pos) (Yp2 t) := by
 intro pins s σ H Q I hq
 refine wpAny_Tuple_spliced (thn (h pos pins s σ H _ I hq) fun us s1 ⟨xs, H1, I1, r, z, q⟩ => ⟨by rw [<- r.length]; exact z, ?_⟩)
 have hf : H1 s1.heap.objs.size = none := I1.hok.fresh (ZAI _)
 refine ⟨.ref s1.heap.objs.size, upd H1 s1.heap.objs.size (.tup xs), I1.laid (t' := s1.toks) (fun b u e => ZAC _ e) (ZAI _) ?_, rfl, q _ hf⟩
 exact ⟨z, us, r, ⟨_, ZAK _ rfl, rfl, _, rfl⟩⟩
theorem Yi7 (h : PA X es t) : PE X (.List es pos) (Yp1 t) := by
 intro pins s σ H Q I hq
 refine wpAny_List_spliced (thn (h pos pins s σ H _ I hq) fun us s1 ⟨xs, H1, I1, r, z, q⟩ => ⟨by rw [<- r.length]; exact z, ?_⟩)
 have hf : H1 s1.heap.objs.size = none := I1.hok.fresh (ZAI _)
 refine ⟨.ref s1.heap.objs.size, upd H1 s1.heap.objs.size (.lst xs), I1.laid (t' := s1.toks) (fun b u e => ZAC _ e) (ZAI _) ?_, rfl, q _ hf⟩
 exact ⟨z, us, 0, r, ZAK _ rfl⟩
end
abbrev Sp := List V -> Hp -> VK -> XK -> Prop
abbrev CXT := List Env -> Hp -> Shared -> XK -> Value -> Shared -> Prop
structure Yn1 (P : Program) (w : World) (K : Frag) (mg : SOV) (base : Heap) (A : Around) (outer : List Env) (s : Shared) (H : Hp) : Prop where
 frames : A.frames = some outer
 mod : Mod K mg base
 bs : ∀ b o, base.get? b = some o -> s.heap.get? b = some o /\ H b = none
 bsz : base.objs.size <= s.heap.objs.size
 funs : s.heap.FunFrames base outer
 frf : ∀ b ∈ frs outer, H b = none
 hok : HOk P w H s.heap
 bare : AllBare s.gens
def CE (outer : List Env) (P : Program) (w : World) (H : Hp) (s : Shared) (Q : VK) (u : Value) (s' : Shared) : Prop :=
 ∃ v H', s'.os = s.os /\ AllBare s'.gens /\ Un (frs outer) [] H H' s.heap s'.heap /\ HOk P w H' s'.heap /\ RelV v u /\ Q v H'
def CR (CX : CXT) (outer : List Env) (P : Program) (w : World) (H : Hp) (s : Shared) (Q : VK) (E : XK) (r : Result) (s' : Shared) : Prop :=
 match r with
 | .ok (.ret u) => CE outer P w H s Q u s'
 | .ok _ => False
 | .error e => CX outer H s E e s'
structure Ym7 (P : Program) (w : World) (K : Frag) (mg : SOV) (base : Heap) (CX : CXT) (k : Nat) (f : Addr) (fd : FuncData) (ps : List Str) (sp : Sp) : Prop where
 len : ∀ vs H Q E, sp vs H Q E -> vs.length = ps.length
 run : ∀ (A : Around) (outer : List Env) (s : Shared) (H : Hp) (args : Args) (us : List Value) (vs : List V) (Q : VK) (E : XK), Ymm k A -> Yn1 P w K mg base A outer s H -> BindsTo s fd args (ps.zip us) -> Vals vs us -> sp vs H Q E ->
  codeAny (model P w) A (.call (.ref f) args) (CR CX outer P w H s Q E) s
theorem Ym7.mono {P : Program} {w : World} {K : Frag} {mg : SOV} {base : Heap} {CX : CXT} {j k : Nat} {f : Addr} {fd : FuncData} {ps : List Str} {sp : Sp} (F : Ym7 P w K mg base CX j f fd ps sp) (h : j <= k) :
 Ym7 P w K mg base CX k f fd ps sp := ⟨F.len, fun A outer s H args us vs Q E hr => F.run A outer s H args us vs Q E (hr.mono h)⟩
theorem Ym7.imp {P : Program} {w : World} {K : Frag} {mg : SOV} {base : Heap} {CX : CXT} {k : Nat} {f : Addr} {fd : FuncData} {ps : List Str} {sp sp' : Sp} (F : Ym7 P w K mg base CX k f fd ps sp)
 (h : ∀ vs H Q E, sp' vs H Q E -> sp vs H Q E) : Ym7 P w K mg base CX k f fd ps sp' :=
 ⟨fun vs H Q E q => F.len vs H Q E (h _ _ _ _ q), fun A outer s H args us vs Q E hr he hb hv hs => F.run A outer s H args us vs Q E hr he hb hv (h _ _ _ _ hs)⟩
section
variable {X : Cx} {pins : LAO} {σ : St} {H : Hp} {s s' : Shared}
theorem Inv.env0 (I : Inv X pins σ H s) : Yn1 X.prog X.w X.K X.mg X.base X.A X.stack s H :=
 ⟨I.ok.frames, I.ok.mod, I.bs, ZAR I.ok.bsz I.sz, I.stack, I.stkFree, I.hok, I.bare⟩
theorem Inv.after {Q : VK} {u : Value} (I : Inv X pins σ H s) (h : CE X.stack X.prog X.w H s Q u s') : EP X pins σ Q u s' := by
 obtain ⟨v, H', os, bare, un, hok, r, q⟩ := h
 obtain ⟨hh, g, d, t, os'⟩ := s'
 obtain rfl : os' = s.os := os
 exact ⟨v, H', I.call (h' := hh) (g' := g) (d' := d) (t' := t) (ch := []) un hok bare (fun b z => absurd z (by simp)), r, q⟩
end
def Ypu (sp : Sp) (dvs : List V) (E : XK) (t : TA) : TE := fun σ H Q => t σ H fun vs H1 => sp (vs ++ dvs) H1 Q E
def Binds (K : Frag) (fd : FuncData) (ps : List Str) (ds : List Value) : Prop :=
 ∀ (s : Shared) (us : List Value), K.In s.heap -> (us ++ ds).length = ps.length -> BindsTo s fd ⟨us, []⟩ (ps.zip (us ++ ds))
theorem Binds.all {K : Frag} {fd : FuncData} {ps : List Str} (h : ∀ us : List Value, us.length = ps.length -> bindArgs fd ⟨us, []⟩ = pure (ps.zip us)) : Binds K fd ps [] := fun s us _ hl => by
 rw [ZBd] at hl ⊢
 exact .of_eq (h us hl)
def Yn0 (CX : CXT) (X : Cx) (E : XK) : Prop := ∀ (pins : LAO) (σ : St) (H : Hp) (s : Shared) (e : Value) (s' : Shared), Inv X pins σ H s -> CX X.stack H s E e s' -> X.xe e s'
section
variable {X : Cx} {CX : CXT} {k : Nat} {f C : Addr} {fd : FuncData} {ps : List Str} {sp : Sp} {dvs : List V} {ds : List Value} {E : XK} {x m : Str} {p pos apos : Pos} {e o : Expr} {es : List Expr} {ta : TE} {t : TA}
theorem Yj3 {pins : LAO} {σ : St} {H : Hp} {s : Shared} {Q : VK} {us : List Value} {vs : List V} (F : Ym7 X.prog X.w X.K X.mg X.base CX k f fd ps sp) (hr : Ymm k X.A) (hb : Binds X.K fd ps ds) (hd : Vals dvs ds) (hx : Yn0 CX X E)
 (I : Inv X pins σ H s) (r : Vals vs us) (h : sp (vs ++ dvs) H Q E) : wpAny (model X.prog X.w) X.A (call (.ref f) us) (EP X pins σ Q) X.xe s := by
 have r2 : Vals (vs ++ dvs) (us ++ ds) := r.append hd
 have hl : (us ++ ds).length = ps.length := by rw [<- r2.length]; exact F.len _ _ _ _ h
 refine wpAny_call (codeAny_mono (F.run X.A X.stack s H ⟨us, []⟩ (us ++ ds) (vs ++ dvs) Q E hr I.env0 (hb s us I.kIn hl) r2 h) fun r s' hq => ?_)
 cases r with
 | error e => exact hx pins σ H s e s' I hq
 | ok fl =>
  cases fl with
  | ret u => exact I.after hq
  | next => exact False.elim hq
  | brk => exact False.elim hq
  | cont => exact False.elim hq
theorem Yht (F : Ym7 X.prog X.w X.K X.mg X.base CX k f fd ps sp) (hr : Ymm k X.A) (hg : Gl X x) (hm : X.mg x = some (.ref f)) (hk : PySem.W.keepIn X.K (.ref f) = true) (hb : Binds X.K fd ps ds) (hd : Vals dvs ds) (hx : Yn0 CX X E)
 (ha : PA X (e :: es) t) (hdb : (x == ("__debug__" : Str)) = false := by decide) (he : starEach (e :: es) X.env = (false, eval e X.env) :: starEach es X.env := by rfl) (hpl : (backTo pos (starEach es X.env)).any (·.1) = false := by rfl) :
 PE X (.Call (.Name x p) (e :: es) [] pos) (Ypu sp dvs E t) := by
 show 139
 refine ZBE (Yin I hg hm ?_ hdb)
 refine PySem.W.callWith_K (h₀ := X.base) I.ok.mod.kin hk (thn (ha pos pins s σ H _ I h) fun us s1 ⟨vs, H1, I1, r, q⟩ => ⟨I1.kIn, ?_⟩) he hpl
 exact Yj3 F hr hb hd hx I1 r q
structure Mk (K : Frag) (C f : Addr) : Prop where
 makes : PySem.W.makesIn K C = true
 init : PySem.W.findIn K (.ref C) "__init__" = some (some (.ref f))
 fn : PySem.W.isFn K (.ref f) = true
 kp : PySem.W.keepIn K (.ref C) = true
end
section
variable {X : Cx} {CX : CXT} {k : Nat} {f C : Addr} {fd : FuncData} {ps ks : List Str} {sp : Sp} {E : XK} {x m : Str} {p pos apos kpos : Pos} {e o : Expr} {es : List Expr} {kws : List Keyword} {te ta : TE} {t tk : TA} {nm : Option Str}
structure YpL (K : Frag) (fd : FuncData) (ps ks : List Str) (g : List Value -> List Value -> List Value) (gV : List V -> List V -> List V) : Prop where
 to : ∀ (s : Shared) (us ws : List Value), K.In s.heap -> (g us ws).length = ps.length -> BindsTo s fd ⟨us, ks.zip ws⟩ (ps.zip (g us ws))
 rel : ∀ {vs : List V} {us : List Value} {zs : List V} {ws : List Value}, Vals vs us -> Vals zs ws -> Vals (gV vs zs) (g us ws)
variable {g : List Value -> List Value -> List Value} {gV : List V -> List V -> List V}
end
structure YlH (N P : List Str) (sc : Scope) : Prop where
 kind : sc.kind = .function
 co : sc.isCoroutine = false
 gen : sc.isGenerator = false
 nd : N.Nodup
 pre : N.take P.length = P
 par : ∀ x ∈ P, sc.names.lookup x = some .local \/ sc.names.lookup x = some .cell
 nofree : ∀ y ∈ sc.names, y.2 ≠ .free
theorem YaI {kindOf : Str -> Option NameKind} {x : Str} : ∀ {binds : List (Str × Value)} {m : SOV}, (∀ v, (x, v) ∉ binds) -> bindL kindOf binds m x = m x
 | [], _, _ => rfl
 | (n, v) :: r, m, h => by
  unfold bindL
  rw [YaI fun w hw => h w (ZAT _ hw)]
  split
  ·have : x ≠ n := by rintro rfl; exact h v ZAQ
   simp [this]
  ·rfl
theorem YaG {kindOf : Str -> Option NameKind} {x : Str} : ∀ {binds : List (Str × Value)} {m : SOV}, (∀ v, (x, v) ∉ binds) -> bindC kindOf binds m x = m x
 | [], _, _ => rfl
 | (n, v) :: r, m, h => by
  unfold bindC
  rw [YaG fun w hw => h w (ZAT _ hw)]
  split
  ·rfl
  ·have : x ≠ n := by rintro rfl; exact h v ZAQ
   simp [this]
theorem YaV {kindOf : Str -> Option NameKind} {x : Str} {v : Value} : ∀ {P : List Str} {vs : List Value} {i : Nat} {m : SOV}, P.Nodup -> P[i]? = some x -> vs[i]? = some v -> kindOf x = some .local ->
 bindL kindOf (P.zip vs) m x = some v
 | [], _, _, _, _, h, _, _ => by simp at h
 | _ :: _, [], _, _, _, _, h, _ => by simp at h
 | p :: P, w :: vs, 0, m, nd, h1, h2, hk => by
  simp at h1 h2; subst h1; subst h2
  show bindL kindOf ((p, w) :: P.zip vs) m p = _
  unfold bindL
  rw [YaI fun v hv => (ZB1.mp nd).1 (ZBr hv).1, ZAG hk]
  simp
 | p :: P, w :: vs, i + 1, m, nd, h1, h2, hk => by
  show bindL kindOf ((p, w) :: P.zip vs) m x = _
  unfold bindL
  exact YaV (i := i) (List.nodup_cons.mp nd).2 (by simpa using h1) (by simpa using h2) hk
theorem YaE {kindOf : Str -> Option NameKind} {x : Str} {v : Value} : ∀ {P : List Str} {vs : List Value} {i : Nat} {m : SOV}, P.Nodup -> P[i]? = some x -> vs[i]? = some v -> kindOf x ≠ some .local ->
 bindC kindOf (P.zip vs) m x = some v
 | [], _, _, _, _, h, _, _ => by simp at h
 | _ :: _, [], _, _, _, _, h, _ => by simp at h
 | p :: P, w :: vs, 0, m, nd, h1, h2, hk => by
  simp at h1 h2; subst h1; subst h2
  show bindC kindOf ((p, w) :: P.zip vs) m p = _
  unfold bindC
  rw [YaG fun v hv => (ZB1.mp nd).1 (ZBr hv).1, ZAF hk]
  simp
 | p :: P, w :: vs, i + 1, m, nd, h1, h2, hk => by
  show bindC kindOf ((p, w) :: P.zip vs) m x = _
  unfold bindC
  exact YaE (i := i) (List.nodup_cons.mp nd).2 (by simpa using h1) (by simpa using h2) hk
def start (N : List Str) (vs : List V) : St := vs.map some ++ List.replicate (N.length - vs.length) none
def YnL (CX : CXT) (P : Program) (w : World) (K : Frag) (mg : SOV) (base : Heap) (N : List Str) (qual : Str) (scope : Scope) (f : Addr) (cd : Value) (A : Around) (outer : List Env) (s : Shared) (H : Hp) (E : XK) : Cx where
 prog := P
 w := w
 K := K
 mg := mg
 base := base
 A := A.deeper (envOfC qual scope s.heap.objs.size f cd)
 N := N
 s₀ := s
 H₀ := H
 env := envOfC qual scope s.heap.objs.size f cd
 outer := outer
 stack := envOfC qual scope s.heap.objs.size f cd :: outer
 ex := []
 calm := true
 fn := fun _ => true
 pn := []
 xe := fun e s' => wpAny (model P w) (A.deeper (envOfC qual scope s.heap.objs.size f cd)) (leaving (envOfC qual scope s.heap.objs.size f cd) e) (fun _ s'' => CX outer H s E e s'') (fun e' s'' => CX outer H s E e' s'') s'
theorem YbX {sc : Scope} {n : Nat} {x : Str} (h : sc.names.lookup x = some .cell) : ∃ c, (cellsFrom n sc.names []).lookup x = some c := by
 have q := PySem.W.cellsFrom_some sc.names n [] (.inl h)
 exact Option.isSome_iff_exists.mp q
theorem Ye2 {CX : CXT} {P : Program} {w : World} {K : Frag} {mg : SOV} {base : Heap} {N ps : List Str} {qual : Str} {scope : Scope} {f : Addr} {cd : Value} {A : Around} {outer : List Env} {s s1 : Shared} {H : Hp} {E : XK} {us : List Value} {vs : List V}
 (S : YlH N ps scope) (hd : A.handled = none) (e0 : Yn1 P w K mg base A outer s H) (hl : vs.length = ps.length) (r : Vals vs us)
 (x : InCallC s s.heap.objs.size (bindL (envOfC qual scope s.heap.objs.size f cd).kindOf (ps.zip us) fun _ => none) (cellsFrom (s.heap.objs.size + 1) scope.names []) (bindC (envOfC qual scope s.heap.objs.size f cd).kindOf (ps.zip us) fun _ => none) s1) :
 Inv (YnL CX P w K mg base N qual scope f cd A outer s H E) [] (start N vs) H s1 := by
 have hpl : ps.length <= N.length := by have := ZBK List.length S.pre; rw [ZAm] at this; omega
 obtain ⟨h1, tk, rfl, hk⟩ := x.done
 have noA : ∀ b : Addr, b ∉ (YnL CX P w K mg base N qual scope f cd A outer s H E).ex := fun b z => absurd (show b ∈ ([] : List Addr) from z) (by simp)
 refine ⟨⟨e0.mod, S.kind, rfl, rfl, ZAI _, fun y z c h1 h2 => ?_, fun y hy => ?_, fun y c _ h => ?_, fun _ => hd, Around.frames_deeper e0.frames, .inr ⟨rfl, rfl⟩, fun b z => absurd z (noA b), e0.bs, e0.bsz, fun b _ _ => noA b, fun b z => absurd z (noA b), e0.funs, e0.frf⟩,
  rfl, e0.bare, Un.kept hk, ⟨_, x.toInCall.ns, fun i y v h1 h2 h3 => ?_⟩, fun y c h => ⟨_, x.cell y c h⟩, e0.hok.fresh (Nat.le_refl _), fun y c h => ?_, fun p hp => absurd (show p ∈ ([] : LAO) from hp) (by simp), e0.hok.kept hk, ?_⟩
 ·exact name_of_addr x.apart (PySem.mem_of_lookup h1) (PySem.mem_of_lookup h2)
 ·have hy : scope.names.lookup y = some .cell \/ scope.names.lookup y = some .free := hy
  rcases hy with hy | hy
  ·exact YbX hy
  ·exact absurd rfl (S.nofree _ (PySem.mem_of_lookup hy))
 ·exact ZBW (x.above y c (PySem.mem_of_lookup h))
 ·have hi : i < vs.length := by
   unfold start at h2
   by_cases hi : i < vs.length
   ·exact hi
   ·rw [List.getElem?_append_right (by simpa using hi)] at h2
    rw [List.getElem?_replicate] at h2
    split at h2 <;> cases h2
  have ha : vs[i]? = some v := by
   unfold start at h2
   rw [List.getElem?_append_left (by simpa using hi), List.getElem?_map] at h2
   cases e : vs[i]? with
   | none => rw [e] at h2; cases h2
   | some a => rw [e] at h2; cases h2; rfl
  obtain ⟨u, hu, rv⟩ := r.get ha
  have hp : ps[i]? = some y := by
   rw [<- S.pre, List.getElem?_take_of_lt (by omega)]; exact h1
  have ndP : ps.Nodup := by rw [<- S.pre]; exact S.nd.sublist (List.take_sublist _ _)
  refine ⟨u, rv, ?_⟩
  rcases S.par y (ZBH hp) with k | k
  ·exact .inl ⟨k, YaV ndP hp hu k⟩
  ·obtain ⟨c, e⟩ := YbX (n := s.heap.objs.size + 1) k
   refine .inr ⟨.inl k, c, e, ?_⟩
   have q := x.cell y c e
   rw [YaE ndP hp hu (by show scope.names.lookup y ≠ _; rw [k]; decide)] at q
   exact q
 ·exact e0.hok.fresh (ZBW (x.above y c (PySem.mem_of_lookup h)))
 ·unfold start
  show _ = N.length
  rw [ZAH, ZAJ, List.length_replicate]
  omega
theorem YkK {CX : CXT} {P : Program} {w : World} {K : Frag} {mg : SOV} {base : Heap} {k : Nat} {f : Addr} {name qual : Str} {params : Arguments} {body : List Stmt} {scope : Scope} {dV kV doc pm cdv ct oc : Value} {an od : Option Addr}
 {osl : Array (Option Value)} {N ps : List Str} {sp : Sp} (lk : K.lookup f = some ⟨oc, od, .func (fnOf name qual params body scope dV kV doc pm an cdv ct), osl⟩) (hcd : PySem.W.codeIn K cdv qual = true) (S : YlH N ps scope)
 (len : ∀ vs H Q E, sp vs H Q E -> vs.length = ps.length)
 (hbody : ∀ (A : Around) (outer : List Env) (s : Shared) (H : Hp) (vs : List V) (Q : VK) (E : XK), Ymm k (A.deeper (envOfC qual scope s.heap.objs.size f cdv)) -> sp vs H Q E ->
  ∃ t, PSs (YnL CX P w K mg base N qual scope f cdv A outer s H E) body t /\ t { nx := fun _ H' => Q .non H', rt := Q } (start N vs) H) :
 Ym7 P w K mg base CX (k + 1) f (fnOf name qual params body scope dV kV doc pm an cdv ct) ps sp := by
 refine ⟨len, fun A outer s H args us vs Q E hr e0 hb r hsp => ?_⟩
 have hl := len _ _ _ _ hsp
 have KX : K.In s.heap := e0.mod.kin.keeps fun b o e => (e0.bs b o e).1
 have lim : s.heap.NoLimit := e0.mod.nolimit.keeps fun b o e => (e0.bs b o e).1
 have hkind : ∀ y ∈ ps.zip us, scope.names.lookup y.1 = some .local \/ (scope.names.lookup y.1 = some .cell /\ ((cellsFrom (s.heap.objs.size + 1) scope.names []).lookup y.1).isSome = true) := fun ⟨n, v⟩ hy => by
  rcases S.par n (ZBr hy).1 with q | q
  ·exact .inl q
  ·exact .inr ⟨q, PySem.W.cellsFrom_some _ _ _ (.inl q)⟩
 refine codeAny_call_function hr.depth (KX _ _ lk) rfl S.co S.gen rfl (PySem.W.codeRec_of KX hcd) (hb _ _ _ _ ?_)
 refine wpAny_newFunctionEnv_cells S.kind hkind fun env he s1 x => ?_
 subst he
 refine ⟨lim.keeps x.toInCall.keep, codeAny_func ?_⟩
 obtain ⟨t, ht, hq⟩ := hbody A outer s H vs Q E (hr.deeper _) hsp
 have I : Inv (YnL CX P w K mg base N qual scope f cdv A outer s H E) [] (start N vs) H s1 := Ye2 S hr.hd e0 hl r x
 refine ZA7 (ht [] s1 (start N vs) H _ I hq) (fun fl s' hs => ?_) fun e s' hs => hs
 have fin : ∀ {σ' : St} {H' : Hp} {v : V} {u : Value}, Inv (YnL CX P w K mg base N qual scope f cdv A outer s H E) [] σ' H' s' -> RelV v u -> Q v H' -> CE outer P w H s Q u s' :=
  fun {σ' H' v u} J rv q => ⟨v, H', J.os, J.bare, J.base, J.hok, rv, q⟩
 cases fl with
 | ret u =>
  obtain ⟨v, σ', H', J, rv, q⟩ := hs
  exact fin J rv q
 | next =>
  obtain ⟨σ', H', J, q⟩ := hs
  exact fin (v := V.non) (u := Value.none) J rfl q
 | brk =>
  obtain ⟨_, _, _, q⟩ := hs
  exact False.elim q
 | cont =>
  obtain ⟨_, _, _, q⟩ := hs
  exact False.elim q
end L2
namespace L2
open PySem PySem.Spec PyProof.Rows
section
variable {X : Cx} {x : Str} {p pos : Pos} {e : Expr} {es : List Expr} {t : TA} {id T : String} {r : List V -> Hp -> VK -> Prop}
def tCB (r : List V -> Hp -> VK -> Prop) (t : TA) : TE := fun σ H Q => t σ H fun vs H1 => r vs H1 Q
theorem Ycc (hc : Yl0 X (.builtin id) r) (hg : Gl X x) (hm : X.mg x = none) (hv : bootBuiltins x = some (.builtin id)) (ha : PA X (e :: es) t) (hn : x ≠ "__name__" := by decide) (hdb : (x == ("__debug__" : Str)) = false := by decide)
 (he : starEach (e :: es) X.env = (false, eval e X.env) :: starEach es X.env := by rfl) (hpl : (backTo pos (starEach es X.env)).any (·.1) = false := by rfl) : PE X (.Call (.Name x p) (e :: es) [] pos) (tCB r t) := by
 show 139
 refine ZBE (ZU I hg hm hv ?_ hn hdb)
 exact PyProof.Rows.callWith_builtin1 (thn (ha pos pins s σ H _ I h) fun us s1 ⟨vs, H1, I1, r1, q1⟩ => hc pins s1 σ H1 vs us Q I1 r1 q1) he hpl
theorem Ya2 (hc : Yl0 X (.type T) r) (hg : Gl X x) (hm : X.mg x = none) (hv : bootBuiltins x = some (.type T)) (ha : PA X (e :: es) t) (hn : x ≠ "__name__" := by decide) (hdb : (x == ("__debug__" : Str)) = false := by decide)
 (he : starEach (e :: es) X.env = (false, eval e X.env) :: starEach es X.env := by rfl) (hpl : (backTo pos (starEach es X.env)).any (·.1) = false := by rfl) : PE X (.Call (.Name x p) (e :: es) [] pos) (tCB r t) := by
 show 139
 refine ZBE (ZU I hg hm hv ?_ hn hdb)
 exact PyProof.Rows.callWith_type1 (thn (ha pos pins s σ H _ I h) fun us s1 ⟨vs, H1, I1, r1, q1⟩ => hc pins s1 σ H1 vs us Q I1 r1 q1) he hpl
end
end L2
namespace HT
open PySem PyProof.Rows
section
open PySem.SeqAt
open PySem.AutoSeq1 (wpAny_loadPart')
open PySem.MeetsSeq PySem.MeetsSeq2 PySem.MeetsSeq3
end
section
variable {prog : Program} {w : World} {A : Around} {E : VSP} {s : Shared}
theorem cat_tup {t b : Addr} {vs ws : List Value} {Q : VSP} (ht : IsTup s.heap t vs.toArray) (hb : IsTup s.heap b ws.toArray) (hv : vs ≠ [])
 (h1 : ws = [] -> Q (.ref t) s) (h2 : ws ≠ [] -> Q (.ref s.heap.objs.size) { s with heap := s.heap.push { cls := .type "tuple", data := .seq (vs ++ ws).toArray } })
 (hsz : vs.length + ws.length <= sizeLine) : wpAny (model prog w) A (binaryOp .Add (.ref t) (.ref b)) Q E s := by
 obtain ⟨⟨cls, dd, data, sl⟩, ho, hc, n, hd⟩ := id ht
 obtain ⟨⟨cls2, dd2, data2, sl2⟩, ho2, hc2, n2, hd2⟩ := id hb
 simp only at hc hd hc2 hd2
 subst hc hd hc2 hd2
 have e : vs.toArray ++ ws.toArray = (vs ++ ws).toArray := by simp
 by_cases hw : ws = []
 ·exact concat_meets ⟨_, ho, rfl⟩ ⟨_, ho2, rfl⟩ noFill_tuple_add seq_tuple_add PySem.F.slot_tuple_add PySem.F.entry_tuple_add (PySem.F.args_tuple_add_2 _ _)
   (tuple_addW1 t b vs.toArray ws.toArray n n2 dd dd2 sl sl2 (by simpa using hv) (by simp [hw])) ⟨ho, ho2, h1 hw⟩
 ·refine concat_meets ⟨_, ho, rfl⟩ ⟨_, ho2, rfl⟩ noFill_tuple_add seq_tuple_add PySem.F.slot_tuple_add PySem.F.entry_tuple_add (PySem.F.args_tuple_add_2 _ _)
   (tuple_addW2 t b vs.toArray ws.toArray n n2 dd dd2 sl sl2 (by simpa using hv) (by simpa using hw) (by rw [List.size_toArray, List.size_toArray]; exact hsz)) ⟨ho, ho2, ?_⟩
  rw [e]
  exact h2 hw
def sIx (n d : Nat) : Option Int -> Nat
 | none => d
 | some v => if v < 0 then (v + (n : Int)).toNat else min v.toNat n
theorem sIx_nat (n d k : Nat) : sIx n d (some (k : Int)) = min k n := by
 show (if (k : Int) < 0 then ((k : Int) + (n : Int)).toNat else min (k : Int).toNat n) = min k n
 rw [ZAF (by omega), ZA8]
theorem Ykp (n d : Nat) (hd : d <= n) (o : Option Int) : sIx n d o <= n := by
 cases o with
 | none => exact hd
 | some v =>
  show (if v < 0 then (v + (n : Int)).toNat else min v.toNat n) <= n
  by_cases hv : v < 0
  ·rw [ZAG hv]; omega
  ·rw [ZAF hv]; exact Nat.min_le_right _ _
theorem Ydz (v : Int) (n d : Nat) : (if v < 0 then max (v + (n : Int)) 0 else min v (n : Int)) = ((sIx n d (some v) : Nat) : Int) := by
 show (if v < 0 then max (v + (n : Int)) 0 else min v (n : Int)) = (((if v < 0 then (v + (n : Int)).toNat else min v.toNat n) : Nat) : Int)
 by_cases hv : v < 0
 ·simp only [if_pos hv]; omega
 ·simp only [if_neg hv]; omega
theorem Ydf (lo hi : Option Int) (n : Nat) : Builtin.Slice.sliceAdjust lo hi 1 (n : Int) = (((sIx n 0 lo : Nat) : Int), ((sIx n n hi : Nat) : Int)) := by
 have h1 : ¬ ((1 : Int) < 0) := by omega
 unfold Builtin.Slice.sliceAdjust
 simp only [h1, if_false]
 refine Prod.ext ?_ ?_
 ·cases lo with
  | none => rfl
  | some v => exact Ydz v n 0
 ·cases hi with
  | none => rfl
  | some v => exact Ydz v n n
theorem YcL (i j : Nat) : Builtin.Slice.slicePlaces (i : Int) (j : Int) 1 = j - i := by
 unfold Builtin.Slice.slicePlaces
 have h1 : (1 : Int) > 0 := by omega
 simp only [h1, if_true, Int.ediv_one]
 split <;> omega
theorem Yaa {v : Value} {o : Option Int} {Q : Option Int -> Shared -> Prop} (p : IsPart v o) (h : Q o s) : wpAny (model prog w) A (Builtin.Slice.slicePartIndex v) Q E s := by
 cases p with
 | none => exact slicePart_none h
 | int i t => exact slicePart_int h
theorem sliceApplied_gen {sl : Addr} {vl vu : Value} {lo hi : Option Int} {n : Nat} {Q : Int × Int × Nat -> Shared -> Prop} (hs : s.heap.IsSliceOf sl vl vu .none) (pl : IsPart vl lo) (pu : IsPart vu hi)
 (h : Q (((sIx n 0 lo : Nat) : Int), 1, sIx n n hi - sIx n 0 lo) s) : wpAny (model prog w) A (Builtin.Slice.sliceApplied (.ref sl) (pure (n : Int))) Q E s := by
 show 202
 unfold Builtin.Slice.sliceApplied Builtin.Slice.sliceFields
 refine ZAA (ZAA (ZAl hos hds (x := vl) rfl (ZAA (ZAl hos hds (x := vu) rfl (ZAA (ZAl hos hds (x := .none) rfl (ZAB ?_)))))))
 refine ZAA (slicePart_none ?_)
 show wpAny _ _ (if ((1 : Int) == 0) = true then _ else _) _ _ s
 rw [ZAF (by decide)]
 refine ZAA (Yaa pl (ZAA (Yaa pu (ZAA (ZAB ?_)))))
 show wpAny _ _ (match Builtin.Slice.sliceAdjust lo hi 1 (n : Int) with | (lo, hi) => pure (lo, (1 : Int), Builtin.Slice.slicePlaces lo hi 1)) _ _ s
 rw [Ydf lo hi n]
 show wpAny _ _ (pure (((sIx n 0 lo : Nat) : Int), (1 : Int), Builtin.Slice.slicePlaces ((sIx n 0 lo : Nat) : Int) ((sIx n n hi : Nat) : Int) 1)) _ _ s
 rw [YcL]
 exact ZAB h
theorem Yfr (xs : Array Value) (i k : Nat) : ((List.range k).filterMap fun (m : Nat) => xs[((i : Int) + (m : Int) * 1).toNat]?).toArray = ((xs.toList.drop i).take k).toArray := by
 have e : (fun (m : Nat) => xs[((i : Int) + (m : Int) * 1).toNat]?) = fun m => xs[i + m]? := by
  funext m
  have : ((i : Int) + (m : Int) * 1).toNat = i + m := by omega
  show 143
 rw [e]
 have := pick_run xs i k
 rw [List.filterMap_map] at this
 have e2 : ((fun x => xs[x]?) ∘ fun x => i + x) = fun m => xs[i + m]? := rfl
 rw [e2] at this
 show 143
theorem getItem_tuple_cut {t sl : Addr} {items : Array Value} {vl vu : Value} {lo hi : Option Int} {Q : VSP} (ht : IsTup s.heap t items) (hs : s.heap.IsSliceOf sl vl vu .none) (pl : IsPart vl lo) (pu : IsPart vu hi)
 (hw : ¬ (sIx items.size 0 lo = 0 /\ sIx items.size items.size hi = items.size))
 (h : Q (.ref s.heap.objs.size) { s with heap := s.heap.push { cls := .type "tuple", data := .seq ((items.toList.drop (sIx items.size 0 lo)).take (sIx items.size items.size hi - sIx items.size 0 lo)).toArray } })
 (hsz : items.size <= sizeLine) : wpAny (model prog w) A (getItem (.ref t) (.ref sl)) Q E s := by
 have htake : sizeOk (.seq ((items.toList.drop (sIx items.size 0 lo)).take (sIx items.size items.size hi - sIx items.size 0 lo)).toArray) := by
  show ((items.toList.drop (sIx items.size 0 lo)).take (sIx items.size items.size hi - sIx items.size 0 lo)).toArray.size <= sizeLine
  rw [ZAj, ZAm, ZBL, Array.length_toList]
  omega
 have hj : sIx items.size items.size hi <= items.size := Ykp _ _ (ZAI _) hi
 show 202
 have hTs : s.TypeIs (.ref sl) "slice" := ⟨os, hos, hcs⟩
 unfold getItem
 show 200
 first | refine ZAA (ZAB ?_) | skip
 refine ZAA (ZB9 ht.typeIs (by decide) ?_)
 refine ZAA (wpAny_callSpecial?_slot (name := Str.ofString "__getitem__") ht.typeIs PyProof.Rows.slot_tuple_getitem
  (ZAe PyProof.Rows.slot_tuple_getitem ht.typeIs entry_tuple_getitem ?_ (args_tuple_getitem _ _)))
 show wpAny _ _ (Builtin.Tuple.tupleItemsOf (.ref t) >>= _) _ _ s
 refine ZAA (tupleItemsOf_ ht ?_)
 refine ZAA (ZBO hTs ?_)
 show 181
 refine ZAA (sliceApplied_gen hs pl pu ?_)
 have hno : ¬ ((((sIx items.size 0 lo : Nat) : Int) == 0 && (1 : Int) == 1 && (sIx items.size items.size hi - sIx items.size 0 lo) == items.size) = true) := by
  intro q
  rw [ZAi, ZAi] at q
  have q1 : ((sIx items.size 0 lo : Nat) : Int) = 0 := eq_of_beq q.1.1
  have q2 : sIx items.size items.size hi - sIx items.size 0 lo = items.size := eq_of_beq q.2
  exact hw ⟨by omega, by omega⟩
 show wpAny _ _ (if (((sIx items.size 0 lo : Nat) : Int) == 0 && (1 : Int) == 1 && (sIx items.size items.size hi - sIx items.size 0 lo) == items.size) = true then _ else _) _ _ s
 rw [ZAF hno, Yfr]
 first
  | exact ZAA (m := Builtin.Tuple.tupleExact _) (ZAk (ZAB ⟨_, rfl, ZAB h⟩) htake)
  | exact ZAA (m := Builtin.Tuple.tupleExact _) (ZAk (ZAA (ZAB (ZAB ⟨_, rfl, ZAB h⟩))) htake)
  | exact ZAA (ZAA (m := Builtin.Tuple.tupleExact _) (ZAk (ZAB (ZAB ⟨_, rfl, ZAB h⟩)) htake))
  | exact ZAA (ZAA (m := Builtin.Tuple.tupleExact _) (ZAk (ZAB ⟨_, rfl, ZAB h⟩) htake))
end
end HT
namespace L2
open PySem PySem.Spec PyProof.Rows
abbrev TO := St -> Hp -> (Option Int -> Hp -> Prop) -> Prop
def PO (X : Cx) (e : Option Expr) (t : TO) : Prop :=
 ∀ (pins : LAO) (s : Shared) (σ : St) (H : Hp) (Q : Option Int -> Hp -> Prop), Inv X pins σ H s -> t σ H Q ->
  wpAny (model X.prog X.w) X.A (evalPart e X.env) (fun u s' => ∃ o H', Inv X pins σ H' s' /\ IsPart u o /\ Q o H') X.xe s
def Ypk (t : TE) : TO := fun σ H Q => t σ H fun x H1 => ∃ i, x = .int i /\ Q (some i) H1
section
variable {X : Cx} {e : Expr} {te : TE} {lo hi : Option Expr} {tl th : TO} {pos p2 : Pos}
theorem YhU (h : PE X e te) : PO X (some e) (Ypk te) := by
 intro pins s σ H Q I hw
 rw [evalPart_some]
 refine thn (h pins s σ H _ I hw) fun u s1 ⟨x, H1, I1, r1, q1⟩ => ?_
 obtain ⟨i, rfl, q⟩ := q1
 obtain ⟨t, rfl⟩ := r1
 exact ⟨some i, H1, I1, .int i t, q⟩
def SlR (X : Cx) (r : V -> Option Int -> Option Int -> Hp -> VK -> Prop) : Prop :=
 ∀ (pins : LAO) (s : Shared) (σ : St) (H : Hp) (x : V) (v vl vu : Value) (lo hi : Option Int) (sl : Addr) (Q : VK), Inv X pins σ H s -> RelV x v -> s.heap.IsSliceOf sl vl vu .none -> IsPart vl lo -> IsPart vu hi -> r x lo hi H Q ->
  ∃ T id, typeLookup (.type T) "__getitem__" = pure (some (.builtin id)) /\ s.TypeIs v T /\ wpAny (model X.prog X.w) X.A (getItem v (.ref sl)) (EP X pins σ Q) X.xe s
theorem SlR.or {r r' : V -> Option Int -> Option Int -> Hp -> VK -> Prop} (h : SlR X r) (h' : SlR X r') : SlR X (fun x lo hi H Q => r x lo hi H Q \/ r' x lo hi H Q) := by
 intro pins s σ H x v vl vu lo hi sl Q I rx hs pl pu q
 rcases q with q | q
 ·exact h pins s σ H x v vl vu lo hi sl Q I rx hs pl pu q
 ·exact h' pins s σ H x v vl vu lo hi sl Q I rx hs pl pu q
def tSl (r : V -> Option Int -> Option Int -> Hp -> VK -> Prop) (te : TE) (tl th : TO) : TE := fun σ H Q => te σ H fun x H1 => tl σ H1 fun l H2 => th σ H2 fun u H3 => r x l u H3 Q
theorem YgZ {r : V -> Option Int -> Option Int -> Hp -> VK -> Prop} (hr : SlR X r) (he : PE X e te) (hl : PO X lo tl) (hu : PO X hi th) : PE X (.Subscript e (.Slice lo hi none p2) pos) (tSl r te tl th) := by
 show 139
 refine Subscript_ (thn (he pins s σ H _ I h) fun v s1 ⟨x, H1, I1, r1, q1⟩ => ?_)
 refine ZCQ (thn (hl pins s1 σ H1 _ I1 q1) fun vl s2 ⟨l, H2, I2, pl, q2⟩ => thn (hu pins s2 σ H2 _ I2 q2) fun vu s3 ⟨u, H3, I3, pu, q3⟩ => ?_)
 rw [evalPart_none]
 show 150
 have I4 : Inv X pins σ H3 { s3 with heap := s3.heap.push { cls := .type "slice", data := .fields #[vl, vu, .none] } } := I3.kept (t' := s3.toks) fun b ob q => ZAC _ q
 obtain ⟨T, id, hT, ht, hg⟩ := hr pins { s3 with heap := s3.heap.push { cls := .type "slice", data := .fields #[vl, vu, .none] } } σ H3 x v vl vu l u s3.heap.objs.size Q I4 r1 (Heap.IsSliceOf.new ..) pl pu q3
 show wpAny (model X.prog X.w) X.A (subscriptTail e (.Slice lo hi none p2) v (.ref s3.heap.objs.size)) (EP X pins σ Q) X.xe { s3 with heap := s3.heap.push { cls := .type "slice", data := .fields #[vl, vu, .none] } }
 exact tail_any (ops := [.ref s3.heap.objs.size, v]) ht hT hg (by with_unfolding_all rfl)
def YnO (xs : List V) (lo hi : Option Int) : List V := (xs.drop (HT.sIx xs.length 0 lo)).take (HT.sIx xs.length xs.length hi - HT.sIx xs.length 0 lo)
theorem V9 (xs : List V) (lo hi : Option Int) : (YnO xs lo hi).length <= xs.length := by
 unfold YnO
 rw [ZAm, ZBL]
 omega
def YpQ (K : Frag) : V -> Option Int -> Option Int -> Hp -> VK -> Prop := fun x lo hi H Q => ∃ a xs, x = .ref a /\ SqT K H a xs /\
 ¬ (HT.sIx xs.length 0 lo = 0 /\ HT.sIx xs.length xs.length hi = xs.length) /\ ∀ p, H p = none -> Q (.ref p) (upd H p (.tup (YnO xs lo hi)))
theorem Yi3 : SlR X (YpQ X.K) := by
 show 225
 obtain ⟨a, xs, rfl, hx, hw, q⟩ := h
 cases rx
 obtain ⟨its, r, ht, hz⟩ := I.tuple hx
 have hlen : its.toArray.size = xs.length := by rw [ZAj]; exact r.length.symm
 refine ⟨"tuple", _, PyProof.Rows.slot_tuple_getitem.lookup, ht.typeIs, ?_⟩
 refine HT.getItem_tuple_cut ht hs pl pu (by rw [hlen]; exact hw) ?_ (by rw [hlen]; exact hz)
 rw [hlen]
 refine ⟨.ref s.heap.objs.size, _, I.laid (t' := s.toks) (o := .tup (YnO xs lo hi)) (fun b ob q => ZAC _ q) (ZAI _) ?_, rfl, q _ (I.hok.fresh (ZAI _))⟩
 exact ⟨ZAR (V9 xs lo hi) hz, _, (r.drop (HT.sIx xs.length 0 lo)).take (HT.sIx xs.length xs.length hi - HT.sIx xs.length 0 lo), IsTup.new _ _⟩
def Ypm (K : Frag) : R2 := fun x y H Q => ∃ a b xs ys, x = .ref a /\ y = .ref b /\ SqT K H a xs /\ SqT K H b ys /\ xs ≠ [] /\ xs.length + ys.length <= sizeLine /\
 (ys = [] -> Q (.ref a) H) /\ (ys ≠ [] -> ∀ p, H p = none -> Q (.ref p) (upd H p (.tup (xs ++ ys))))
theorem Vals.nil_iff {xs : List V} {us : List Value} (r : Vals xs us) : us = [] ↔ xs = [] := by
 cases r with
 | nil => simp
 | cons _ _ => simp
theorem YhQ : OpR X (binaryOp .Add) (Ypm X.K) := by
 show 163
 obtain ⟨a, b, xs, ys, rfl, rfl, ha, hb, hx, hz, q1, q2⟩ := h
 show 97
 obtain ⟨its, r1, p1, _⟩ := I.tuple ha
 obtain ⟨its2, r2, p2, _⟩ := I.tuple hb
 refine HT.cat_tup p1 p2 (fun z => hx (r1.nil_iff.mp z)) (fun z => ⟨.ref a, H, I, rfl, q1 (r2.nil_iff.mp z)⟩) (fun z => ?_) (by rw [<- r1.length, <- r2.length]; exact hz)
 refine ⟨.ref s.heap.objs.size, _, I.laid (t' := s.toks) (o := .tup (xs ++ ys)) (fun b ob q => ZAC _ q) (ZAI _) ?_, rfl, q2 (fun w => z (r2.nil_iff.mpr w)) _ (I.hok.fresh (ZAI _))⟩
 exact ⟨by rw [ZAH]; exact hz, _, r1.append r2, IsTup.new _ _⟩
end
end L2
namespace L2
open PySem PySem.Spec PyProof.Rows
def ixN (n : Nat) (i : Int) : Option Nat := if 0 <= i then (if i < n then some i.toNat else none) else if -(n : Int) <= i then some (i + n).toNat else none
def atI {α : Type} (xs : List α) (i : Int) : Option α := (ixN xs.length i).bind fun j => xs[j]?
theorem Ydq {n : Nat} {i : Int} {j : Nat} (h : ixN n i = some j) : seqIndex? i n = some j /\ j < n /\ -(n : Int) <= i /\ i < n := by
 unfold ixN at h
 by_cases h0 : 0 <= i
 ·rw [ZAG h0] at h
  by_cases h1 : i < n
  ·rw [ZAG h1] at h
   have e : i.toNat = j := Option.some.inj h
   exact ⟨by rw [seqIndex_of h0 h1, e], by omega, by omega, h1⟩
  ·rw [ZAF h1] at h; cases h
 ·rw [ZAF h0] at h
  by_cases h1 : -(n : Int) <= i
  ·rw [ZAG h1] at h
   have e : (i + n).toNat = j := Option.some.inj h
   exact ⟨by rw [seqIndex_neg (by omega) h1, e], by omega, h1, by omega⟩
  ·rw [ZAF h1] at h; cases h
theorem Ya4 {α : Type} {xs : List α} {i : Int} {v : α} (h : atI xs i = some v) : ∃ j, seqIndex? i xs.length = some j /\ xs[j]? = some v /\ j < xs.length /\ -(xs.length : Int) <= i /\ i < xs.length := by
 unfold atI at h
 cases e : ixN xs.length i with
 | none => rw [e] at h; cases h
 | some j =>
  rw [e] at h
  obtain ⟨h1, h2, h3, h4⟩ := Ydq e
  exact ⟨j, h1, h, h2, h3, h4⟩
def Ynl (b : Expr) : Prop := ∀ o i, subscripted b false o i = operate [o, i] (getItem o i)
def IxR (X : Cx) (r : R2) : Prop :=
 ∀ (value slice : Expr) (pins : LAO) (s : Shared) (σ : St) (H : Hp) (x y : V) (v u : Value) (Q : VK), Inv X pins σ H s -> RelV x v -> RelV y u -> r x y H Q ->
  subscripted slice false v u = operate [v, u] (getItem v u) -> wpAny (model X.prog X.w) X.A (subscriptTail value slice v u) (EP X pins σ Q) X.xe s
def MtR (X : Cx) (id : String) (r : V -> List V -> Hp -> VK -> Prop) : Prop :=
 ∀ (pins : LAO) (s : Shared) (σ : St) (H : Hp) (x : V) (xs : List V) (v : Value) (us : List Value) (Q : VK), Inv X pins σ H s -> RelV x v -> Vals xs us -> r x xs H Q ->
  wpAny (model X.prog X.w) X.A (call (.builtin id) (v :: us)) (EP X pins σ Q) X.xe s
section
variable {X : Cx} {a b : Expr} {ta tb : TE} {pos : Pos}
theorem IxR.or {r r' : R2} (h : IxR X r) (h' : IxR X r') : IxR X (fun x y H Q => r x y H Q \/ r' x y H Q) := by
 intro value slice pins s σ H x y v u Q I rx ry q hs
 rcases q with q | q
 ·exact h value slice pins s σ H x y v u Q I rx ry q hs
 ·exact h' value slice pins s σ H x y v u Q I rx ry q hs
theorem Yf6 {r : R2} (hr : IxR X r) (ha : PE X a ta) (hb : PE X b tb) (hs : Ynl b) : PE X (.Subscript a b pos) (tOp r ta tb) := by
 show 139
 exact Subscript_ (Yo7 ha hb I h fun v u s2 x y H2 I2 rx ry q => hr a b pins s2 σ H2 x y v u Q I2 rx ry q (hs _ _))
def Ypz (K : Frag) : R2 := fun x y H Q => ∃ p xs i v, x = .ref p /\ y = .int i /\ SqL K H p xs /\ atI xs i = some v /\ Q v H
def Ypn (K : Frag) : R2 := fun x y H Q => ∃ p xs i v, x = .ref p /\ y = .int i /\ SqT K H p xs /\ atI xs i = some v /\ Q v H
def Ypp : R2 := fun x y H Q => ∃ z i c, x = .str z /\ y = .int i /\ z.length <= sizeLine /\ atI z.cps.toList i = some c /\ Q (.str ⟨#[c]⟩) H
theorem ix_list : IxR X (Ypz X.K) := by
 show 213
 obtain ⟨p, xs, i, z, rfl, rfl, hq, he, q⟩ := h
 cases rx
 obtain ⟨t, rfl⟩ := ry
 obtain ⟨its, r, pl, hz⟩ := I.list hq
 obtain ⟨j, h1, h2, h3, h4, h5⟩ := Ya4 he
 obtain ⟨w, ew, rw'⟩ := r.get h2
 have hl := r.length
 show 178
 have fin : EP X pins σ Q w s := ⟨z, H, I, rw', q⟩
 by_cases h0 : 0 <= i
 ·have hj : i.toNat = j := by
   rw [seqIndex_of h0 h5] at h1
   show 231
  exact item_listR pl.isList h0 (by omega) (by rw [hj]; simpa using ew) fin hs
 ·have hj : (i + (its.toArray.size : Int)).toNat = j := by
   rw [seqIndex_neg (by omega) h4] at h1
   rw [ZAj, <- hl]
   show 231
  exact subscriptTail_builtinR (x := w) pl.isList.typeIs slot_list_getitem.lookup
   (wpAny_getItem_list_neg (Q := fun r s' => r = w /\ EP X pins σ Q r s') pl.isList (by omega) (by rw [List.size_toArray] <;> omega) (by omega) (by rw [hj]; simpa using ew) ⟨rfl, fin⟩) hs
theorem ix_tup : IxR X (Ypn X.K) := by
 show 213
 obtain ⟨p, xs, i, z, rfl, rfl, hq, he, q⟩ := h
 cases rx
 obtain ⟨t, rfl⟩ := ry
 obtain ⟨its, r, pl, hz⟩ := I.tuple hq
 obtain ⟨j, h1, h2, h3, h4, h5⟩ := Ya4 he
 obtain ⟨w, ew, rw'⟩ := r.get h2
 have hl := r.length
 show 178
 have fin : EP X pins σ Q w s := ⟨z, H, I, rw', q⟩
 exact subscriptTail_builtinR (x := w) pl.typeIs slot_tuple_getitem.lookup
  (getItem_tuple (j := j) (Q := fun r s' => r = w /\ EP X pins σ Q r s') pl (by omega) (by omega) (by rw [List.size_toArray, <- hl]; exact h1) (by simpa using ew) ⟨rfl, fin⟩) hs
theorem Yjv : IxR X Ypp := by
 show 213
 obtain ⟨z, i, c, rfl, rfl, hz, he, q⟩ := h
 show 20
 obtain ⟨j, h1, h2, h3, h4, h5⟩ := Ya4 he
 have hl : z.cps.toList.length = z.length := by simp [Str.length]
 rw [hl] at h1 h4 h5
 show 178
 exact tail_any (typeIs_str s z t) slot_str_getitem.lookup (getItem_str (c := c) (by
  have e1 : decide (i < -(2 ^ 63 : Int)) = false := ZAW (by omega)
  have e2 : decide (i >= 2 ^ 63) = false := ZAW (by omega)
  rw [e1, e2, Bool.or_false]) (by rw [h1]; simpa using h2) ⟨.str ⟨#[c]⟩, H, I.tok _, ⟨_, rfl⟩, q⟩) hs
def rIx (K : Frag) : R2 := fun x y H Q => Ypz K x y H Q \/ Ypn K x y H Q \/ Ypp x y H Q
theorem Ykz : IxR X (rIx X.K) := ix_list.or (ix_tup.or Yjv)
theorem YcF (its : List Value) (n j : Nat) (u : Value) : Obj.mapSeq (·.setIfInBounds j u) { cls := .type "list", data := .seq its.toArray n } = { cls := .type "list", data := .seq (its.set j u).toArray n } := by
 simp [Obj.mapSeq]
theorem Inv.lst {pins : LAO} {σ : St} {H : Hp} {s : Shared} {p : Addr} {xs : List V} (I : Inv X pins σ H s) (h : H p = some (.lst xs)) :
 ∃ (its : List Value) (n : Nat), Vals xs its /\ s.heap.get? p = some { cls := .type "list", data := .seq its.toArray n } /\ xs.length <= sizeLine := by
 obtain ⟨z, its, n, r, e⟩ := I.hok p _ h
 exact ⟨its, n, r, e, z⟩
theorem Inv.lstUpd {pins : LAO} {σ : St} {H : Hp} {s : Shared} {p : Addr} {xs ys : List V} {its its' : List Value} {n n' : Nat} {f : Obj -> Obj} (I : Inv X pins σ H s) (h : H p = some (.lst xs))
 (ho : s.heap.get? p = some { cls := .type "list", data := .seq its.toArray n }) (hf : f { cls := .type "list", data := .seq its.toArray n } = { cls := .type "list", data := .seq its'.toArray n' }) (r : Vals ys its') (hz : ys.length <= sizeLine) (t : Nat) :
 Inv X pins σ (upd H p (.lst ys)) { s with heap := s.heap.update p f, toks := t } := by
 have e : (s.heap.update p f).get? p = some { cls := .type "list", data := .seq its'.toArray n' } := by
  rw [ZBF f ho (by rw [hf] <;> rfl), hf]
 refine I.write (x := p) (e := p) (by rw [h]; trivial) (.inl rfl) (fun b u hb q => (ZAt _ _ (ZA1 hb)).trans q) ⟨_, e⟩ ?_
 exact ⟨hz, its', n', r, e⟩
def YoP : V -> V -> V -> Hp -> (Hp -> Prop) -> Prop := fun o i v H Q => ∃ p xs k j, o = .ref p /\ i = .int k /\ H p = some (.lst xs) /\ ixN xs.length k = some j /\ Q (upd H p (.lst (xs.set j v)))
theorem Ygt : YpC X YoP := by
 intro pins s σ H o i v ov iv u Q I ro ri rv h
 obtain ⟨p, xs, k, j, rfl, rfl, hp, hj, q⟩ := h
 cases ro
 obtain ⟨t, rfl⟩ := ri
 obtain ⟨its, n, r, ho, hz⟩ := I.lst hp
 obtain ⟨h1, h2, h3, h4⟩ := Ydq hj
 have hl := r.length
 show 178
 have I' : Inv X pins σ (upd H p (.lst (xs.set j v))) { s with heap := s.heap.update p (Obj.mapSeq (·.setIfInBounds j u)) } :=
  I.lstUpd hp ho (YcF its n j u) (r.set rv j) (by rw [ZBs]; exact hz) s.toks
 by_cases h0 : 0 <= k
 ·have hk : k.toNat = j := by
   rw [seqIndex_of h0 h4] at h1
   show 231
  exact PySem.W.ki_setAt ho h0 (by omega) (by rw [ZAj, <- hl]; exact h4) (by rw [hk]; exact ⟨_, I', q⟩)
 ·have hk : (k + (its.toArray.size : Int)).toNat = j := by
   rw [seqIndex_neg (by omega) h3] at h1
   rw [ZAj, <- hl]
   show 231
  exact PySem.W.ki_setBack ho (by omega) (by rw [ZAj, <- hl]; exact h3) (by omega) (by rw [hk]; exact ⟨_, I', q⟩)
theorem YbG (lo hi : Option Int) (n : Nat) : (sliceBounds lo hi none n).1 = ((HT.sIx n 0 lo : Nat) : Int) /\ (sliceBounds lo hi none n).2.1 = ((HT.sIx n n hi : Nat) : Int) /\ (sliceBounds lo hi none n).2.2 = 1 := by
 refine ⟨?_, ?_, rfl⟩
 ·cases lo with
  | none => simp [sliceBounds, HT.sIx]
  | some i =>
   simp only [sliceBounds, HT.sIx, Option.getD_none, show (1 : Int) > 0 by decide, if_true]
   by_cases h : i < 0
   ·simp only [h, if_true] <;> omega
   ·simp only [h, if_false] <;> omega
 ·cases hi with
  | none => simp [sliceBounds, HT.sIx]
  | some i =>
   simp only [sliceBounds, HT.sIx, Option.getD_none, show (1 : Int) > 0 by decide, if_true]
   by_cases h : i < 0
   ·simp only [h, if_true] <;> omega
   ·simp only [h, if_false] <;> omega
theorem Yaq (its : List Value) (lo hi : Option Int) : slicePick its.toArray lo hi none = ((its.drop (HT.sIx its.length 0 lo)).take (HT.sIx its.length its.length hi - HT.sIx its.length 0 lo)).toArray := by
 obtain ⟨h1, h2, h3⟩ := YbG lo hi its.toArray.size
 unfold slicePick
 rw [h1, h2, h3]
 simp only [sliceRange_one, pick_run, List.size_toArray] <;> rfl
def YpX (K : Frag) : V -> Option Int -> Option Int -> Hp -> VK -> Prop := fun x lo hi H Q => ∃ a xs, x = .ref a /\ SqL K H a xs /\ ∀ p, H p = none -> Q (.ref p) (upd H p (.lst (YnO xs lo hi)))
theorem YhS : SlR X (YpX X.K) := by
 show 225
 obtain ⟨a, xs, rfl, hx, q⟩ := h
 cases rx
 obtain ⟨its, r, ht, hz⟩ := I.list hx
 have hlen := r.length
 refine ⟨"list", _, slot_list_getitem.lookup, ht.isList.typeIs, ?_⟩
 refine wpAny_getItem_list_slice ht.isList hs pl pu .none (by simp) ?_ (by rw [List.size_toArray] <;> omega)
 rw [Yaq, <- hlen]
 refine ⟨.ref s.heap.objs.size, _, I.laid (t' := s.toks) (o := .lst (YnO xs lo hi)) (fun b ob q => ZAC _ q) (ZAI _) ?_, rfl, q _ (I.hok.fresh (ZAI _))⟩
 exact ⟨ZAR (V9 xs lo hi) hz, _, 0, (r.drop (HT.sIx xs.length 0 lo)).take (HT.sIx xs.length xs.length hi - HT.sIx xs.length 0 lo), ZAK _ rfl⟩
def YmV : V -> Bool
 | .non => true
 | .bl _ => true
 | .int _ => true
 | .str _ => true
 | _ => false
def eqV : V -> V -> Bool
 | .non, .non => true
 | .bl a, .bl b => a == b
 | .bl a, .int b => (if a then 1 else 0) == b
 | .int a, .bl b => a == (if b then 1 else 0)
 | .int a, .int b => a == b
 | .str a, .str b => a == b
 | _, _ => false
theorem Yjw {A : Around} {s : Shared} {y x : V} {u v : Value} (ry : RelV y u) (rx : RelV x v) (fy : YmV y = true) (fx : YmV x = true) : SeqAt.EqAt A s u v (eqV y x) := by
 cases y with
 | non =>
  cases ry
  cases x with
  | non => cases rx; exact SeqAt.EqAt.same _
  | bl b => cases rx; exact SeqAt.EqAt.none_bool b
  | int b => obtain ⟨t, rfl⟩ := rx; exact SeqAt.EqAt.none_int b t
  | str b => obtain ⟨t, rfl⟩ := rx; exact SeqAt.EqAt.none_str b t
  | _ => show 204
 | bl a =>
  cases ry
  cases x with
  | non => cases rx; exact SeqAt.EqAt.bool_none a
  | bl b => cases rx; exact SeqAt.EqAt.bool_bool a b
  | int b => obtain ⟨t, rfl⟩ := rx; exact SeqAt.EqAt.bool_int a b t
  | str b => obtain ⟨t, rfl⟩ := rx; exact SeqAt.EqAt.bool_str a b t
  | _ => show 204
 | int a =>
  show 239
  cases x with
  | non => cases rx; exact SeqAt.EqAt.int_none a t'
  | bl b => cases rx; exact SeqAt.EqAt.int_bool a t' b
  | int b => obtain ⟨t, rfl⟩ := rx; exact SeqAt.EqAt.int_int a t' b t
  | str b => obtain ⟨t, rfl⟩ := rx; exact SeqAt.EqAt.int_str a t' b t
  | _ => show 204
 | str a =>
  show 239
  cases x with
  | non => cases rx; exact SeqAt.EqAt.str_none a t'
  | bl b => cases rx; exact SeqAt.EqAt.str_bool a t' b
  | int b => obtain ⟨t, rfl⟩ := rx; exact SeqAt.EqAt.str_int a t' b t
  | str b => obtain ⟨t, rfl⟩ := rx; exact SeqAt.EqAt.str_str a t' b t
  | _ => show 204
 | _ => exact absurd (show false = true from fy) ZAN
def eqU (x : V) (u : Value) : Bool := match u with
 | .none => eqV .non x
 | .bool b => eqV (.bl b) x
 | .int i _ => eqV (.int i) x
 | .str z _ => eqV (.str z) x
 | _ => false
theorem Yg8 {x y : V} {u : Value} (r : RelV y u) (f : YmV y = true) : eqU x u = eqV y x := by
 cases y with
 | non => cases r; rfl
 | bl b => cases r; rfl
 | int i => show 189
 | str z => show 189
 | _ => exact absurd (show false = true from f) ZAN
theorem Vn {x : V} : ∀ {xs : List V} {us : List Value}, Vals xs us -> xs.all YmV = true -> us.any (eqU x) = xs.any fun y => eqV y x
 | _, _, .nil, _ => rfl
 | y :: xs, u :: us, .cons r t, f => by
  rw [ZBc, ZAi] at f
  rw [ZBS, ZBS, Yg8 r f.1, Vn t f.2]
theorem Wn {A : Around} {s : Shared} {x : V} {v : Value} (rx : RelV x v) (fx : YmV x = true) : ∀ {xs : List V} {us : List Value}, Vals xs us -> xs.all YmV = true -> ∀ u ∈ us, SeqAt.EqAt A s u v (eqU x u)
 | _, _, .nil, _ => fun u hu => by cases hu
 | y :: xs, u :: us, .cons r t, f => fun u' hu => by
  rw [ZBc, ZAi] at f
  rcases ZAZ.mp hu with rfl | hu
  ·rw [Yg8 r f.1]; exact Yjw r rx f.1 fx
  ·exact Wn rx fx t f.2 u' hu
def inV (x : V) (xs : List V) : Bool := xs.any fun y => eqV y x
def rIn (K : Frag) (neg : Bool) : R2 := fun x y H Q => ∃ p xs, y = .ref p /\ (SqL K H p xs \/ SqT K H p xs) /\ YmV x = true /\ xs.all YmV = true /\ Q (.bl (if neg then !inV x xs else inV x xs)) H
theorem Yew : OpR X (compareOp .In) (rIn X.K false) := by
 show 163
 obtain ⟨p, xs, rfl, hq, fx, fs, q⟩ := h
 cases ry
 show 195
 ·obtain ⟨its, r, pl, hz⟩ := I.list hq
  refine SeqAt.in_listAt (eqU x) pl.isList (fun w hw => Wn rx fx r fs w (by simpa using hw)) ⟨.bl _, H, I, rfl, ?_⟩
  show 48
 ·obtain ⟨its, r, pl, hz⟩ := I.tuple hq
  refine SeqAt.in_tupleAt (eqU x) pl (fun w hw => Wn rx fx r fs w (by simpa using hw)) ⟨.bl _, H, I, rfl, ?_⟩
  show 48
theorem YbH : OpR X (compareOp .NotIn) (rIn X.K true) := by
 show 163
 obtain ⟨p, xs, rfl, hq, fx, fs, q⟩ := h
 cases ry
 show 195
 ·obtain ⟨its, r, pl, hz⟩ := I.list hq
  refine SeqAt.notIn_listAt (eqU x) pl.isList (fun w hw => Wn rx fx r fs w (by simpa using hw)) ⟨.bl _, H, I, rfl, ?_⟩
  show 48
 ·obtain ⟨its, r, pl, hz⟩ := I.tuple hq
  refine SeqAt.notIn_tupleAt (eqU x) pl (fun w hw => Wn rx fx r fs w (by simpa using hw)) ⟨.bl _, H, I, rfl, ?_⟩
  show 48
theorem Z9 : Yl0 X (.builtin "len") (fun xs H Q => ∃ p ys, xs = [.ref p] /\ (SqL X.K H p ys \/ SqT X.K H p ys) /\ Q (.int ys.length) H) := by
 show 191
 obtain ⟨p, ys, rfl, hq, q⟩ := h
 obtain ⟨u, rfl, rx⟩ := vals1 r
 cases rx
 show 178
 show 195
 ·obtain ⟨its, r', pl, hz⟩ := I.list hq
  have hlen := r'.length
  exact Calls.call_len_list pl.isList (by simp only [List.size_toArray] <;> omega) ⟨.int ys.length, H, I.tok _, ⟨s.toks + 1, by rw [List.size_toArray, hlen]⟩, q⟩
 ·obtain ⟨its, r', pl, hz⟩ := I.tuple hq
  have hlen := r'.length
  exact len_tuple pl (by simp only [List.size_toArray] <;> omega) ⟨.int ys.length, H, I.tok _, ⟨s.toks + 1, by rw [List.size_toArray, hlen]⟩, q⟩
theorem YbE : Yl0 X (.builtin "len") (fun xs H Q => ∃ z, xs = [.str z] /\ z.length <= sizeLine /\ Q (.int z.length) H) := by
 show 191
 obtain ⟨z, rfl, hz, q⟩ := h
 show 228
 show 178
 exact len_str (by omega) ⟨.int z.length, H, I.tok _, ⟨_, rfl⟩, q⟩
theorem WQ : Yl0 X (.type "tuple") (fun xs H Q => ∃ p ys, xs = [.ref p] /\ ((SqL X.K H p ys /\ ∀ l, H l = none -> Q (.ref l) (upd H l (.tup ys))) \/ (SqT X.K H p ys /\ Q (.ref p) H))) := by
 show 191
 obtain ⟨p, ys, rfl, h⟩ := h
 obtain ⟨u, rfl, rx⟩ := vals1 r
 cases rx
 rcases h with ⟨hq, q⟩ | ⟨hq, q⟩
 ·obtain ⟨its, r', pl, hz⟩ := I.list hq
  have hlen := r'.length
  refine call_tuple_list pl.isList (fun h' kp => ?_) (by simp only [List.size_toArray] <;> omega)
  have I1 : Inv X pins σ H { s with heap := h' } := I.kept (t' := s.toks) kp
  have I2 : Inv X pins σ (upd H h'.objs.size (.tup ys)) { s with heap := h'.push { cls := .type "tuple", data := .seq its.toArray } } :=
   I1.laid (t' := s.toks) (fun b o e => ZAC _ e) (ZAI _) (show YlZ X.prog X.w _ _ _ (.tup ys) from ⟨hz, its, r', IsTup.new _ _⟩)
  exact ⟨.ref h'.objs.size, _, I2, rfl, q _ (I1.hok.fresh (ZAI _))⟩
 ·obtain ⟨its, r', pl, hz⟩ := I.tuple hq
  exact call_tuple_same pl ⟨.ref p, H, I, rfl, q⟩
def tyV (K : Frag) (T : String) (x : V) (H : Hp) : Prop := match x with
 | .str _ => T = "str"
 | .int _ => T = "int"
 | .ref p => (T = "list" /\ ∃ xs, SqL K H p xs) \/ (T = "tuple" /\ ∃ o, K.lookup p = some o /\ o.cls = .type "tuple" /\ o.dict = none) \/
  (T = "dict" /\ ((∃ kvs, H p = some (.dK kvs)) \/ ∃ kvs, H p = some (.dT kvs))) \/ (T = "set" /\ ∃ S n, H p = some (.set S n))
 | _ => False
theorem Yfo {pins : LAO} {σ : St} {H : Hp} {s : Shared} {T : String} {x : V} {v : Value} (I : Inv X pins σ H s) (r : RelV x v) (ty : tyV X.K T x H) :
 s.TypeIs v T /\ ∀ a, v = .ref a -> ∃ ob, s.heap.get? a = some ob /\ ob.dict = none := by
 cases x with
 | str z =>
  obtain ⟨t, rfl⟩ := r
  cases (show T = "str" from ty)
  exact ⟨typeIs_str s z t, fun _ e => nomatch e⟩
 | int i =>
  obtain ⟨t, rfl⟩ := r
  cases (show T = "int" from ty)
  exact ⟨typeIs_int s i t, fun _ e => nomatch e⟩
 | ref p =>
  cases r
  rcases ty with ⟨rfl, xs, hq⟩ | ⟨rfl, o, hk, hc, hd⟩ | ⟨rfl, hk⟩ | ⟨rfl, S, n, hk⟩
  ·obtain ⟨its, _, pl, _⟩ := I.list hq
   refine ⟨pl.isList.typeIs, fun a e => ?_⟩
   cases e
   obtain ⟨o, n, e, c, hd, _⟩ := pl
   exact ⟨o, e, hd⟩
  ·refine ⟨⟨o, I.kIn p o hk, hc⟩, fun a e => ?_⟩
   cases e
   exact ⟨o, I.kIn _ o hk, hd⟩
  ·have z : ∃ o, s.heap.get? p = some o /\ o.ExactDict := by
    rcases hk with ⟨kvs, hk⟩ | ⟨kvs, hk⟩
    ·obtain ⟨_, _, _, _, o, _, _, e, ex, _⟩ := I.hok p _ hk
     exact ⟨o, e, ex⟩
    ·obtain ⟨_, _, _, _, o, _, _, e, ex, _⟩ := I.hok p _ hk
     exact ⟨o, e, ex⟩
   obtain ⟨o, e, ex⟩ := z
   refine ⟨⟨o, e, ex.1⟩, fun a e2 => ?_⟩
   cases e2
   exact ⟨o, e, ex.2.1⟩
  ·obtain ⟨o, _, _, _, e, ex, _⟩ := I.hok p _ hk
   refine ⟨⟨o, e, ex.1⟩, fun a e2 => ?_⟩
   cases e2
   exact ⟨o, e, ex.2.1⟩
 | _ => exact False.elim ty
def YpP (K : Frag) (T : String) (r : V -> List V -> Hp -> VK -> Prop) (to : TE) : TE := fun σ H Q => to σ H fun x H1 => tyV K T x H1 /\ r x [] H1 Q
def tBM (K : Frag) (T : String) (r : V -> List V -> Hp -> VK -> Prop) (to : TE) (t : TA) : TE := fun σ H Q => to σ H fun x H1 => tyV K T x H1 /\ t σ H1 fun xs H2 => r x xs H2 Q
variable {o e : Expr} {es : List Expr} {to : TE} {t : TA} {name : Str} {apos cpos : Pos} {T id : String} {r : V -> List V -> Hp -> VK -> Prop}
theorem YjV (pa : PlainAttrs T) (slot : Slot T name id) (hty : typeOf (.builtin id) = pure (.type "method_descriptor")) (hm : MtR X id r) (ho : PE X o to)
 (hbase : attributeBase o name X.env (eval o X.env) = eval o X.env := by rfl) (hline : (apos.endLine == cpos.line) = true := by rfl) : PE X (.Call (.Attribute o name apos) [] [] cpos) (YpP X.K T r to) := by
 show 139
 refine wpAny_Call_method0_late hbase hline (thn (ho pins s σ H _ I h) fun v s1 ⟨x, H1, I1, r1, ty, q1⟩ => ?_)
 obtain ⟨h1, h2⟩ := Yfo I1 r1 ty
 exact ⟨T, id, pa, slot, hty, h1, h2, Calls.callWith_builtin rfl (PySem.evalArgs_none (hm pins s1 σ H1 x [] v [] Q I1 r1 .nil q1))⟩
theorem YiM (pa : PlainAttrs T) (slot : Slot T name id) (hty : typeOf (.builtin id) = pure (.type "method_descriptor")) (hm : MtR X id r) (ho : PE X o to) (ha : PA X (e :: es) t)
 (hbase : attributeBase o name X.env (eval o X.env) = eval o X.env := by rfl)
 (hfew : ((backTo cpos (starEach (e :: es) X.env)).all (fun x => !x.1) && (backToKw cpos (keywordEach [] X.env)).all (fun x => x.1.isSome)
  && decide ((e :: es).length + ([] : List Keyword).length + (if ([] : List Keyword).isEmpty then 0 else 1) < 30)) = true := by rfl)
 (hline : (apos.endLine == cpos.line) = true := by rfl) (hs : starEach (e :: es) X.env = (false, eval e X.env) :: starEach es X.env := by rfl) (hplain : (backTo cpos (starEach es X.env)).any (·.1) = false := by rfl) :
 PE X (.Call (.Attribute o name apos) (e :: es) [] cpos) (tBM X.K T r to t) := by
 show 139
 refine wpAny_Call_method_late hbase hfew hline rfl (thn (ho pins s σ H _ I h) fun v s1 ⟨x, H1, I1, r1, ty, q1⟩ => ?_)
 obtain ⟨h1, h2⟩ := Yfo I1 r1 ty
 refine ⟨T, id, pa, slot, hty, h1, h2, ?_⟩
 have hA := ha cpos pins s1 σ H1 _ I1 q1
 rw [hs] at hA ⊢
 refine Calls.callWith_builtin (by show (false || (backTo cpos (starEach es X.env)).any (·.1)) = false; rw [hplain] <;> rfl) (Calls.evalArgs_plain ?_)
 exact thn hA fun us s2 ⟨vs, H2, I2, r2, q2⟩ => hm pins s2 σ H2 x vs v us Q I2 r1 r2 q2
/- xs.append(e), list.index on a module's tuple .. are MtR facts of 06m -/
end
end L2
namespace L2
open PySem PySem.Spec PyProof.Rows
def MtM (X : Cx) (id : String) (r : V -> List V -> Hp -> VK -> Prop) : Prop :=
 ∀ (pins : LAO) (s : Shared) (σ : St) (H : Hp) (x : V) (xs : List V) (v : Value) (us : List Value) (Q : VK), Inv X pins σ H s -> RelV x v -> Vals xs us -> r x xs H Q ->
  wpAny (model X.prog X.w) X.A (call (.builtin id) (v :: us)) (EP X pins σ Q) X.xe s
theorem Vals.one : ∀ {x : V} {us : List Value}, Vals [x] us -> ∃ u, us = [u] /\ RelV x u
 | _, _, .cons r .nil => ⟨_, rfl, r⟩
theorem Vals.two : ∀ {x y : V} {us : List Value}, Vals [x, y] us -> ∃ u v, us = [u, v] /\ RelV x u /\ RelV y v
 | _, _, _, .cons r (.cons q .nil) => ⟨_, _, rfl, r, q⟩
theorem Vals.zero : ∀ {us : List Value}, Vals [] us -> us = []
 | _, .nil => rfl
theorem Vals.dropLast {xs : List V} {us : List Value} (h : Vals xs us) : Vals xs.dropLast us.dropLast := by
 induction h with
 | nil => exact .nil
 | cons r t ih =>
  cases t with
  | nil => exact .nil
  | cons q t' => exact .cons r ih
theorem Vals.eraseIdx : ∀ {xs : List V} {us : List Value} (i : Nat), Vals xs us -> Vals (xs.eraseIdx i) (us.eraseIdx i)
 | _, _, _, .nil => .nil
 | _, _, 0, .cons _ t => t
 | _, _, i + 1, .cons r t => .cons r (Vals.eraseIdx i t)
theorem Vals.reverse {xs : List V} {us : List Value} (h : Vals xs us) : Vals xs.reverse us.reverse := by
 induction h with
 | nil => exact .nil
 | cons r t ih => rw [ZBx, ZBx]; exact Vals.append ih (.cons r .nil)
section
variable {X : Cx} {pins : LAO} {σ : St} {H : Hp} {s : Shared} {l b : Addr} {xs ys zs : List V}
theorem Inv.lset {its its' : List Value} {n : Nat} {f : Array Value -> Array Value} {t' : Nat} (I : Inv X pins σ H s) (hH : H l = some (.lst xs))
 (e : s.heap.get? l = some { cls := .type "list", data := .seq its.toArray n }) (hf : f its.toArray = its'.toArray) (hv : Vals ys its') (hz : ys.length <= sizeLine) :
 Inv X pins σ (upd H l (.lst ys)) { s with heap := s.heap.update l (Obj.mapSeq f), toks := t' } := by
 have q := PySem.IsL.update e f
 rw [hf] at q
 refine I.write (x := l) (e := l) (by rw [hH]; exact trivial) (.inl rfl) (fun b' u hb hu => (ZAt s.heap (Obj.mapSeq f) (ZA1 hb)).trans hu) ⟨_, q⟩ ?_
 exact ⟨hz, its', _, hv, q⟩
theorem Inv.lnew {its : List Value} {t' : Nat} (I : Inv X pins σ H s) (hv : Vals ys its) (hz : ys.length <= sizeLine) :
 Inv X pins σ (upd H s.heap.objs.size (.lst ys)) { s with heap := s.heap.push { cls := .type "list", data := .seq its.toArray }, toks := t' } :=
 I.laid (fun _ _ q => ZAC _ q) (ZAI _) ⟨hz, its, 0, hv, ZAK _ rfl⟩
theorem Inv.fresh (I : Inv X pins σ H s) : H s.heap.objs.size = none := I.hok.fresh (ZAI _)
theorem Inv.lstM (I : Inv X pins σ H s) (hH : H l = some (.lst xs)) : xs.length <= sizeLine /\ ∃ (its : List Value) (n : Nat), Vals xs its /\ xs.length = its.length /\ s.heap.get? l = some { cls := .type "list", data := .seq its.toArray n } := by
 obtain ⟨z, its, n, r, e⟩ := I.hok l _ hH
 exact ⟨z, its, n, r, r.length, e⟩
theorem Yop {n : Nat} (h : n <= sizeLine) : Builtin.List.listTooLong n = false := by
 unfold Builtin.List.listTooLong
 exact ZAW (by omega)
end
section
variable {X : Cx}
def YoJ : V -> List V -> Hp -> VK -> Prop := fun x vs H Q => ∃ l xs y, x = .ref l /\ vs = [y] /\ H l = some (.lst xs) /\ xs.length < sizeLine /\ Q .non (upd H l (.lst (xs ++ [y])))
theorem YdL : MtM X "list.append" YoJ := by
 intro pins s σ H x vs v us Q I rx rv h
 obtain ⟨l, xs, y, rfl, rfl, hH, hz, q⟩ := h
 cases rx
 obtain ⟨u, rfl, ru⟩ := rv.one
 obtain ⟨z, its, n, r, hl, e⟩ := I.lstM hH
 refine call_meets F.slot_list_append ⟨_, e, rfl⟩ F.entry_list_append (F.args_list_append_2 _ _) (PySem.list_append l its.toArray n u (by rw [ZAj]; omega)) ⟨e, ?_⟩
 refine ⟨.non, _, I.lset (its' := its ++ [u]) hH e (by simp) (r.append (.cons ru .nil)) ?_, rfl, q⟩
 rw [ZAH, ZAV]
 omega
def YoG : V -> List V -> Hp -> VK -> Prop := fun x vs H Q => ∃ l b xs zs, x = .ref l /\ vs = [.ref b] /\ H l = some (.lst xs) /\ H b = some (.lst zs) /\ xs.length + zs.length <= sizeLine /\ Q .non (upd H l (.lst (xs ++ zs)))
theorem YeW : MtM X "list.extend" YoG := by
 intro pins s σ H x vs v us Q I rx rv h
 obtain ⟨l, b, xs, zs, rfl, rfl, hH, hB, hz, q⟩ := h
 cases rx
 obtain ⟨u, rfl, ru⟩ := rv.one
 cases ru
 obtain ⟨z, its, n, r, hl, e⟩ := I.lstM hH
 obtain ⟨z2, its2, n2, r2, hl2, e2⟩ := I.lstM hB
 have hsz : its.toArray.size + its2.toArray.size <= sizeLine := by rw [ZAj, ZAj]; omega
 have hlong : ¬ (!its.toArray.isEmpty && Builtin.List.listTooLong (its.toArray.size + its2.toArray.size)) = true := by
  rw [Yop hsz, Bool.and_false]
  exact ZAN
 refine call_meets F.slot_list_extend ⟨_, e, rfl⟩ F.entry_list_extend (F.args_list_extend_2 _ _)
  (AutoSeq1.list_extend_list_list_0 l its.toArray n b its2.toArray n2 hlong (by rw [ZAj]; omega) (by omega)) ⟨e, e2, ?_⟩
 refine ⟨.non, _, I.lset (its' := its ++ its2) hH e (by simp) (r.append r2) ?_, rfl, q⟩
 rw [ZAH]
 omega
def Yp5 : R2 := fun x y H Q => ∃ l b xs zs, x = .ref l /\ y = .ref b /\ H l = some (.lst xs) /\ H b = some (.lst zs) /\ xs.length + zs.length <= sizeLine /\ ∀ p, H p = none -> Q (.ref p) (upd H p (.lst (xs ++ zs)))
theorem Yi2 : OpR X (binaryOp .Add) Yp5 := by
 show 163
 obtain ⟨l, b, xs, zs, rfl, rfl, hH, hB, hz, q⟩ := h
 show 97
 obtain ⟨z, its, n, r, hl, e⟩ := I.lstM hH
 obtain ⟨z2, its2, n2, r2, hl2, e2⟩ := I.lstM hB
 refine PySem.P.add_list e e2 ?_ (by rw [ZAj, ZAj]; omega)
 have ea : its.toArray ++ its2.toArray = (its ++ its2).toArray := by simp
 rw [ea]
 exact ⟨.ref _, _, I.lnew (t' := s.toks) (r.append r2) (by rw [ZAH]; omega), rfl, q _ I.fresh⟩
end
section
variable {prog : Program} {w : World} {A : Around} {E : VSP} {s : Shared}
end
section
variable {X : Cx}
end
end L2
namespace L2
open PySem PySem.Spec PyProof.Rows
section
variable {κ : Type} [DecidableEq κ]
def YmO (kvs : List (κ × V)) (k : κ) : Option V := (kvs.find? fun kv => decide (kv.1 = k)).map (·.2)
def putK (kvs : List (κ × V)) (k : κ) (v : V) : List (κ × V) :=
 if (kvs.any fun kv => decide (kv.1 = k)) = true then kvs.map (fun kv => if kv.1 = k then (kv.1, v) else kv) else kvs ++ [(k, v)]
def YoR (kvs : List (κ × V)) (k : κ) : List (κ × V) := kvs.filter fun kv => decide (kv.1 ≠ k)
theorem Vk {p : κ × V} {r : List (κ × V)} {k : κ} (e : p.1 = k) : YmO (p :: r) k = some p.2 := by simp [YmO, List.find?_cons, e]
theorem Vo {p : κ × V} {r : List (κ × V)} {k : κ} (e : ¬ p.1 = k) : YmO (p :: r) k = YmO r k := by simp [YmO, List.find?_cons, e]
theorem Yb8 (k : κ) : ∀ kvs : List (κ × V), (kvs.any fun kv => decide (kv.1 = k)) = (YmO kvs k).isSome
 | [] => rfl
 | p :: r => by
  rw [ZBS]
  show 183
  ·simp only [Vk e, decide_eq_true e, Bool.true_or, Option.isSome_some]
  ·rw [Vo e, ZAW e, ZCb]; exact Yb8 k r
theorem V2 (kvs : List (κ × V)) (k : κ) (v : V) : (putK kvs k v).length <= kvs.length + 1 := by
 unfold putK
 split
 ·rw [ZAJ]; omega
 ·rw [ZAH, ZA4, List.length_nil]; omega
theorem Ynb.isSome_eq {o : Option V} {u : Option Value} (r : Ynb o u) : o.isSome = u.isSome := by
 cases o with
 | none => cases u with
  | none => rfl
  | some _ => show 203
 | some _ => cases u with
  | none => show 203
  | some _ => rfl
theorem Ynb.getD {o : Option V} {u : Option Value} {d : V} {d' : Value} (r : Ynb o u) (rd : RelV d d') : RelV (o.getD d) (u.getD d') := by
 cases o with
 | none => cases u with
  | none => exact rd
  | some _ => show 203
 | some _ => cases u with
  | none => show 203
  | some _ => exact r
theorem KV.val {kvs : List (κ × V)} {vs : List (κ × Value)} (r : KV kvs vs) (k : κ) : Ynb (YmO kvs k) (valueAt vs k) := by
 unfold KV at r
 induction r with
 | nil => exact True.intro
 | @cons p q ps qs h t ih =>
  show 230
  show 183
  ·have e' : q.1 = k := h1.symm.trans e
   have b : valueAt (q :: qs) k = some q.2 := by simp [valueAt, List.find?_cons, e']
   rw [Vk e, b]; exact h2
  ·have e' : ¬ q.1 = k := fun z => e (h1.trans z)
   have b : valueAt (q :: qs) k = valueAt qs k := by simp [valueAt, List.find?_cons, e']
   rw [Vo e, b]; exact ih
theorem KV.any {kvs : List (κ × V)} {vs : List (κ × Value)} (r : KV kvs vs) (k : κ) : (kvs.any fun kv => decide (kv.1 = k)) = vs.any fun kv => decide (kv.1 = k) := by
 unfold KV at r
 induction r with
 | nil => rfl
 | cons h t ih => rw [ZBS, ZBS, ih, h.1]
theorem KV.repl {kvs : List (κ × V)} {vs : List (κ × Value)} (r : KV kvs vs) (k : κ) {y : V} {u : Value} (ry : RelV y u) :
 KV (kvs.map fun kv => if kv.1 = k then (kv.1, y) else kv) (vs.map fun kv => if kv.1 = k then (kv.1, u) else kv) := by
 unfold KV at r ⊢
 induction r with
 | nil => exact .nil
 | @cons p q ps qs h t ih =>
  rw [ZAY, ZAY]
  refine .cons ?_ ih
  show 230
  show 183
  ·rw [ZAG e, ZAG (h1.symm.trans e)]; exact ⟨h1, ry⟩
  ·rw [ZAF e, ZAF (fun z => e (h1.trans z))]; exact ⟨h1, h2⟩
theorem KV.put {kvs : List (κ × V)} {vs : List (κ × Value)} (r : KV kvs vs) (k : κ) {y : V} {u : Value} (ry : RelV y u) : KV (putK kvs k y) (stored vs k u) := by
 unfold putK stored
 rw [r.any k]
 by_cases e : (vs.any fun kv => decide (kv.1 = k)) = true
 ·rw [ZAG e, ZAG e]; exact r.repl k ry
 ·rw [ZAF e, ZAF e]; exact Paired.snoc r ⟨rfl, ry⟩
theorem KV.drop {kvs : List (κ × V)} {vs : List (κ × Value)} (r : KV kvs vs) (k : κ) : KV (YoR kvs k) (without vs k) := by
 unfold KV at r ⊢
 unfold YoR without
 induction r with
 | nil => exact .nil
 | @cons p q ps qs h t ih =>
  show 230
  rw [List.filter_cons, List.filter_cons]
  show 183
  ·have a : ¬ decide (p.1 ≠ k) = true := by simp [e]
   have b : ¬ decide (q.1 ≠ k) = true := by simp [h1.symm.trans e]
   rw [ZAF a, ZAF b]; exact ih
  ·have e' : ¬ q.1 = k := fun z => e (h1.trans z)
   have a : decide (p.1 ≠ k) = true := by simp [e]
   have b : decide (q.1 ≠ k) = true := by simp [e']
   rw [ZAG a, ZAG b]; exact .cons ⟨h1, h2⟩ ih
theorem KV.keys {kvs : List (κ × V)} {vs : List (κ × Value)} (r : KV kvs vs) : kvs.map (·.1) = vs.map (·.1) := by
 unfold KV at r
 induction r with
 | nil => rfl
 | cons h t ih => rw [ZAY, ZAY, ih, h.1]
theorem KV.length {kvs : List (κ × V)} {vs : List (κ × Value)} (r : KV kvs vs) : kvs.length = vs.length := Paired.length r
end
theorem YaF {P : Program} {w : World} {k : Key} {u : Value} (r : RelV (kV k) u) : (YlC P w).is k u = true := by
 cases k with
 | inl i => obtain ⟨t, e⟩ := (show ∃ t, u = Value.int i t from r); subst e; exact YbQ P w i t
 | inr x => obtain ⟨t, e⟩ := (show ∃ t, u = Value.str x t from r); subst e; exact YbL P w x t
theorem YaR {P : Program} {w : World} : ∀ {ks : List Key} {us : List Value}, Vals (ks.map kV) us -> ItemsAre (YlC P w) ks us
 | [], _, r => by rw [ZCI] at r; cases r; exact .nil
 | k :: ks, _, r => by
  rw [ZAY] at r
  cases r with
  | cons h t => exact .cons (YaF h) (YaR t)
abbrev KT (H : Hp) : List (List Key × V) -> List (List Key × Addr × Value) -> Prop := Paired fun p q => p.1 = q.1 /\ H q.2.1 = some (.tup (p.1.map kV)) /\ RelV p.2 q.2.2
theorem KT.val {H : Hp} {kvs : List (List Key × V)} {xs : List (List Key × Addr × Value)} (r : KT H kvs xs) (k : List Key) : Ynb (YmO kvs k) ((atKey xs k).map (·.2)) := by
 induction r with
 | nil => exact True.intro
 | @cons p q ps qs h t ih =>
  obtain ⟨h1, _, h2⟩ := h
  show 183
  ·have e' : q.1 = k := h1.symm.trans e
   have b : atKey (q :: qs) k = some q.2 := by simp [atKey, List.find?_cons, e']
   rw [Vk e, b]; exact h2
  ·have e' : ¬ q.1 = k := fun z => e (h1.trans z)
   have b : atKey (q :: qs) k = atKey qs k := by simp [atKey, List.find?_cons, e']
   rw [Vo e, b]; exact ih
theorem KT.repl {H : Hp} {kvs : List (List Key × V)} {xs : List (List Key × Addr × Value)} (r : KT H kvs xs) (k : List Key) {y : V} {u : Value} (ry : RelV y u) :
 KT H (kvs.map fun kv => if kv.1 = k then (kv.1, y) else kv) (xs.map (putAt k u)) := by
 induction r with
 | nil => exact .nil
 | @cons p q ps qs h t ih =>
  rw [ZAY, ZAY]
  refine .cons ?_ ih
  obtain ⟨h1, h2, h3⟩ := h
  unfold putAt
  show 183
  ·rw [ZAG e, ZAG (h1.symm.trans e)]; exact ⟨h1, h2, ry⟩
  ·rw [ZAF e, ZAF (fun z => e (h1.trans z))]; exact ⟨h1, h2, h3⟩
theorem KT.put {H : Hp} {kvs : List (List Key × V)} {xs : List (List Key × Addr × Value)} (r : KT H kvs xs) (k : List Key) {b : Addr} {y : V} {u : Value} (hb : H b = some (.tup (k.map kV))) (ry : RelV y u) :
 KT H (putK kvs k y) (storedH xs k b u) := by
 have e : (kvs.any fun kv => decide (kv.1 = k)) = (atKey xs k).isSome := by
  rw [Yb8, (r.val k).isSome_eq, ZBy]
 unfold putK storedH
 rw [e]
 by_cases q : (atKey xs k).isSome = true
 ·rw [ZAG q, ZAG q]; exact r.repl k ry
 ·rw [ZAF q, ZAF q]; exact Paired.snoc r ⟨rfl, hb, ry⟩
theorem KT.keeps {H H' : Hp} {kvs : List (List Key × V)} {xs : List (List Key × Addr × Value)} (r : KT H kvs xs) (ht : ∀ b ys, H b = some (.tup ys) -> H' b = some (.tup ys)) : KT H' kvs xs :=
 Paired.mapP r fun _ _ z => ⟨z.1, ht _ _ z.2.1, z.2.2⟩
section
variable {P : Program} {w : World} {H : Hp} {h : Heap} {a : Addr}
theorem YiS {u : HO} (ok : HOk P w H h) (e : Rd H a u) : YlZ P w H h a u := e.ok ok
theorem Jc {kvs : List (Key × V)} (ok : HOk P w H h) (e : Rd H a (.dK kvs)) : kvs.length <= sizeLine /\ (a == sysModules) = false /\ ∃ vs, KV kvs vs /\ h.DictOf (YlC P w) a vs :=
 show YlZ P w H h a (.dK kvs) from YiS ok e
theorem YkY {kvs : List (Key × V)} (ok : HOk P w H h) (e : H a = some (.dK kvs)) : kvs.length <= sizeLine /\ (a == sysModules) = false /\ ∃ vs, KV kvs vs /\ h.DictOf (YlC P w) a vs := Jc ok (.inl e)
theorem VS {ks : List Key} (ok : HOk P w H h) (e : H a = some (.tup (ks.map kV))) : (tupleKind (YlC P w)).is h ks a := by
 obtain ⟨_, its, r, o, h1, h2, n, h3⟩ := (show YlZ P w H h a (.tup (ks.map kV)) from ok a _ e)
 exact ⟨o, its.toArray, n, h1, h2, h3, by simpa using YaR r⟩
theorem Yah {kvs : List (List Key × V)} (ok : HOk P w H h) (e : Rd H a (.dT kvs)) : kvs.length <= sizeLine /\ (a == sysModules) = false /\
 ∃ xs, KT H kvs xs /\ h.DictOfH (tupleKind (YlC P w)) a xs := by
 obtain ⟨z, y, xs, r, o, es, ep, h1, h2, h3, h4, h5⟩ := (show YlZ P w H h a (.dT kvs) from YiS ok e)
 refine ⟨z, y, xs, r, o, es, ep, h1, h2, h3, h4, fun x hx => ?_, h5⟩
 have all : ∀ {l : List (List Key × V)} {m : List (List Key × Addr × Value)}, KT H l m -> ∀ x ∈ m, (tupleKind (YlC P w)).is h x.1 x.2.1 := by
  intro l m q
  induction q with
  | nil => intro x hx; exact nomatch hx
  | @cons p q ps qs hq t ih =>
   intro x hx
   rcases ZAZ.mp hx with e | hx
   ·subst e
    exact VS ok (by rw [<- hq.1]; exact hq.2.1)
   ·exact ih x hx
 exact all r x hx
theorem Ygm {kvs : List (List Key × V)} (ok : HOk P w H h) (e : H a = some (.dT kvs)) : kvs.length <= sizeLine /\ (a == sysModules) = false /\
 ∃ xs, KT H kvs xs /\ h.DictOfH (tupleKind (YlC P w)) a xs := Yah ok (.inl e)
end
def YmK (H : Hp) (a : Addr) (y : V) (r : Option V) : Prop :=
 (∃ kvs k, Rd H a (.dK kvs) /\ y = kV k /\ r = YmO kvs k) \/ ∃ kvs k b, Rd H a (.dT kvs) /\ y = .ref b /\ H b = some (.tup (k.map kV)) /\ r = YmO kvs k
def YnV (H : Hp) (a : Addr) (y v : V) (H' : Hp) : Prop :=
 (∃ kvs k, H a = some (.dK kvs) /\ y = kV k /\ kvs.length < sizeLine /\ H' = upd H a (.dK (putK kvs k v))) \/
 ∃ kvs k b, H a = some (.dT kvs) /\ y = .ref b /\ H b = some (.tup (k.map kV)) /\ kvs.length < sizeLine /\ H' = upd H a (.dT (putK kvs k v))
theorem YmK.k {H : Hp} {a : Addr} {kvs : List (Key × V)} {k : Key} (e : H a = some (.dK kvs)) : YmK H a (kV k) (YmO kvs k) := .inl ⟨kvs, k, .inl e, rfl, rfl⟩
theorem YmK.t {H : Hp} {a b : Addr} {kvs : List (List Key × V)} {k : List Key} (e : H a = some (.dT kvs)) (eb : H b = some (.tup (k.map kV))) : YmK H a (.ref b) (YmO kvs k) := .inr ⟨kvs, k, b, .inl e, rfl, eb, rfl⟩
theorem YnV.k {H : Hp} {a : Addr} {kvs : List (Key × V)} {k : Key} {v : V} (e : H a = some (.dK kvs)) (hl : kvs.length < sizeLine) : YnV H a (kV k) v (upd H a (.dK (putK kvs k v))) := .inl ⟨kvs, k, e, rfl, hl, rfl⟩
theorem YnV.t {H : Hp} {a b : Addr} {kvs : List (List Key × V)} {k : List Key} {v : V} (e : H a = some (.dT kvs)) (eb : H b = some (.tup (k.map kV))) (hl : kvs.length < sizeLine) :
 YnV H a (.ref b) v (upd H a (.dT (putK kvs k v))) := .inr ⟨kvs, k, b, e, rfl, eb, hl, rfl⟩
section
variable {X : Cx} {pins : LAO} {σ : St} {H : Hp} {s : Shared} {a : Addr} {y v : V} {u r : Value} {o : Option V} {A : Around} {E : VSP}
theorem Inv.big (I : Inv X pins σ H s) : sysModules < s.heap.objs.size := by
 have h : mainGlobals < s.heap.objs.size := (I.mod.glob.keeps I.bk).lt
 exact Nat.lt_trans (by decide) h
theorem Yd2 {Q : VSP} (hu : A.units + 1 < cLine) (I : Inv X pins σ H s) (g : YmK H a y (some v)) (ry : RelV y u) (h : ∀ w' s', Inv X pins σ H s' -> RelV v w' -> Q w' s') :
 wpAny (model X.prog X.w) A (getItem (.ref a) u) Q E s := by
 show 229
 ·show 45
  obtain ⟨w', hw, rw'⟩ := Ynb.some_of (v := v) (o := valueAt vs k) (by rw [l]; exact rel.val k)
  exact wpAny_getItem_of (YaF ry) dd.mapOf hw (h w' _ (I.tok _) rw')
 ·show 60
  obtain ⟨w', hw, rw'⟩ := Ynb.some_of (v := v) (o := (atKey xs k).map (·.2)) (by rw [l]; exact rel.val k)
  obtain ⟨p, hp, hp2⟩ := ZCR.mp hw
  refine wpAny_getItem_heap (tupleKind_room_in1 hu) (VS I.hok eb) dd hp ?_
  rw [hp2]
  exact h w' _ (I.tok _) rw'
theorem d_in {Q : VSP} (hu : A.units + 1 < cLine) (I : Inv X pins σ H s) (g : YmK H a y o) (ry : RelV y u) (h : ∀ s', Inv X pins σ H s' -> Q (.bool o.isSome) s') :
 wpAny (model X.prog X.w) A (compareOp .In u (.ref a)) Q E s := by
 show 229
 ·show 45
  refine wpAny_in_of (YaF ry) hd dd.mapOf ?_
  rw [<- (rel.val k).isSome_eq, <- l]
  exact h _ (I.tok _)
 ·show 60
  refine wpAny_in_heap (tupleKind_room_in1 hu) (VS I.hok eb) hd dd ?_
  have q := (rel.val k).isSome_eq
  rw [ZBy] at q
  rw [<- q, <- l]
  exact h _ (I.tok _)
theorem YdE {Q : VSP} (hu : A.units + 1 < cLine) (I : Inv X pins σ H s) (g : YmK H a y o) (ry : RelV y u) (h : ∀ s', Inv X pins σ H s' -> Q (.bool (!o.isSome)) s') :
 wpAny (model X.prog X.w) A (compareOp .NotIn u (.ref a)) Q E s := by
 show 229
 ·show 45
  refine wpAny_notIn_of (YaF ry) hd dd.mapOf ?_
  rw [<- (rel.val k).isSome_eq, <- l]
  exact h _ (I.tok _)
 ·show 60
  refine wpAny_notIn_heap (tupleKind_room_in1 hu) (VS I.hok eb) hd dd ?_
  have q := (rel.val k).isSome_eq
  rw [ZBy] at q
  rw [<- q, <- l]
  exact h _ (I.tok _)
theorem Ydo {h' : Heap} {t' : Nat} {ob : HO} (I : Inv X pins σ H s) (mu : Mut (H a)) (hs : Heap.SameBut a s.heap h') (he : ∃ q, h'.get? a = some q) (new : YlZ X.prog X.w (upd H a ob) h' a ob) :
 Inv X pins σ (upd H a ob) { s with heap := h', toks := t' } :=
 I.write (x := a) (e := a) mu (.inl rfl) (fun b q hb z => (hs.2 b hb).trans z) he new
theorem YgF {P : Program} {w : World} {H' : Hp} {h' : Heap} {kvs : List (Key × V)} {vs : List (Key × Value)} (z : kvs.length <= sizeLine) (hd : (a == sysModules) = false) (rel : KV kvs vs) (dd : h'.DictOf (YlC P w) a vs) :
 YlZ P w H' h' a (.dK kvs) := ⟨z, hd, vs, rel, dd⟩
theorem YeL {H' : Hp} {Q : Unit -> Shared -> Prop} (hu : A.units + 1 < cLine) (I : Inv X pins σ H s) (g : YnV H a y v H') (ry : RelV y u) (rv : RelV v r) (h : ∀ s', Inv X pins σ H' s' -> Q () s') :
 wpAny (model X.prog X.w) A (setItem (.ref a) u r) Q E s := by
 rcases g with ⟨kvs, k, e, ey, l, eH⟩ | ⟨kvs, k, b, e, ey, eb, l, eH⟩
 ·subst ey eH
  obtain ⟨z, hd, vs, rel, dd⟩ := YkY I.hok e
  have hz : vs.length <= sizeLine := by rw [<- rel.length]; exact z
  have hl : (putK kvs k v).length <= sizeLine := by have := V2 kvs k v; omega
  refine wpAny_setItem_pairs (hsz := hz) (YaF ry) dd fun h' dd' hs => h _ ?_
  have he : ∃ q, h'.get? a = some q := let ⟨q, _, _, hq, _⟩ := dd'; ⟨q, hq⟩
  exact Ydo I (by rw [e]; exact True.intro) hs he (YgF hl hd (rel.put k rv) dd')
 ·subst ey eH
  show 253
  obtain ⟨z, hd, xs, rel, dd⟩ := Ygm I.hok e
  have hz : xs.length <= sizeLine := by rw [<- Paired.length rel]; exact z
  have hl : (putK kvs k v).length <= sizeLine := by have := V2 kvs k v; omega
  refine wpAny_setItem_heap (hsz := hz) (tupleKind_room_in1 hu) (VS I.hok eb) dd fun h' dd' hs => h _ ?_
  obtain ⟨q, es, ep, hq, h2, h3, h4, _, h5⟩ := dd'
  refine Ydo I (by rw [e]; exact True.intro) hs ⟨q, hq⟩ ⟨hl, hd, _, (rel.put k eb rv).keeps fun c ys ec => ?_, q, es, ep, hq, h2, h3, h4, h5⟩
  rw [Yg (YkG ec e (fun z => nomatch z))]
  exact ec
end
section
variable {X : Cx} {pins : LAO} {σ : St} {H : Hp} {s : Shared} {a : Addr} {kvs : List (Key × V)} {k : Key} {u : Value} {A : Around} {E : VSP}
theorem YkS {Q : VSP} (I : Inv X pins σ H s) (e : Rd H a (.dK kvs)) (h : ∀ t s', Inv X pins σ H s' -> Q (.int kvs.length t) s') : wpAny (model X.prog X.w) A (call (.builtin "len") [.ref a]) Q E s := by
 show 250
 refine call_len_dict hd dd (by rw [<- rel.length]; rw [sizeLine_eq] at z; omega) ?_
 rw [<- rel.length]
 exact h _ _ (I.tok _)
end
theorem Ycb {X : Cx} {pins : LAO} {σ : St} {H : Hp} {s : Shared} {a : Addr} {y : V} {o : Option V} (I : Inv X pins σ H s) (g : YmK H a y o) : s.TypeIs (.ref a) "dict" := by
 rcases g with ⟨kvs, k, e, _, _⟩ | ⟨kvs, k, b, e, _, _, _⟩
 ·obtain ⟨_, _, vs, _, dd⟩ := Jc I.hok e
  exact dd.typeIs
 ·obtain ⟨_, _, xs, _, dd⟩ := Yah I.hok e
  exact dd.typeIs
section
variable {X : Cx} {o i e value : Expr} {pos pos' tpos : Pos} {td ty tv : TE}
end
theorem Yg0 {P : Program} {w : World} {H : Hp} (h : Heap) (hb : sysModules < h.objs.size) : YlZ P w H (h.push { cls := .type "dict", data := .dict #[] }) h.objs.size (.dK []) :=
 ⟨ZBM _, beq_eq_false_iff_ne.mpr (ZA1 (ZAL hb)), [], .nil, Heap.DictOf.new h⟩
theorem YfO {P : Program} {w : World} {H : Hp} (h : Heap) (hb : sysModules < h.objs.size) : YlZ P w H (h.push { cls := .type "dict", data := .dict #[] }) h.objs.size (.dT []) :=
 ⟨ZBM _, beq_eq_false_iff_ne.mpr (ZA1 (ZAL hb)), [], .nil, _, #[], 0, ZAK _ rfl, ⟨rfl, rfl, rfl⟩, rfl, rfl, List.nodup_nil⟩
def Yo8 : TE := fun _ H Q => ∀ p, H p = none -> Q (.ref p) (upd H p (.dK []))
def Ypc : TE := fun _ H Q => ∀ p, H p = none -> Q (.ref p) (upd H p (.dT []))
section
variable {X : Cx} {pos : Pos}
theorem YfY : PE X (.Dict [] [] pos) Yo8 := fun pins s σ H Q I h =>
 wpAny_Dict_empty ⟨.ref s.heap.objs.size, _, I.laid (a := s.heap.objs.size) (o := .dK []) (t' := s.toks) (fun _ _ q => ZAC _ q) (ZAI _) (Yg0 s.heap I.big), rfl, h _ (I.hok.fresh (ZAI _))⟩
theorem Ye6 : PE X (.Dict [] [] pos) Ypc := fun pins s σ H Q I h =>
 wpAny_Dict_empty ⟨.ref s.heap.objs.size, _, I.laid (a := s.heap.objs.size) (o := .dT []) (t' := s.toks) (fun _ _ q => ZAC _ q) (ZAI _) (YfO s.heap I.big), rfl, h _ (I.hok.fresh (ZAI _))⟩
end
structure M1 (X : Cx) (o : Expr) (m : Str) (apos : Pos) (e : Expr) (cpos : Pos) : Prop where
 base : attributeBase o m X.env (eval o X.env) = eval o X.env
 few : ((backTo cpos (starEach [e] X.env)).all (fun x => !x.1) && (backToKw cpos (keywordEach [] X.env)).all (fun x => x.1.isSome)
  && decide (([e] : List Expr).length + ([] : List Keyword).length + (if ([] : List Keyword).isEmpty then 0 else 1) < 30)) = true
 line : (apos.endLine == cpos.line) = true
 trees : backTo cpos (starEach [e] X.env) = [(false, eval e X.env)]
structure M2 (X : Cx) (o : Expr) (m : Str) (apos : Pos) (e f : Expr) (cpos : Pos) : Prop where
 base : attributeBase o m X.env (eval o X.env) = eval o X.env
 few : ((backTo cpos (starEach [e, f] X.env)).all (fun x => !x.1) && (backToKw cpos (keywordEach [] X.env)).all (fun x => x.1.isSome)
  && decide (([e, f] : List Expr).length + ([] : List Keyword).length + (if ([] : List Keyword).isEmpty then 0 else 1) < 30)) = true
 line : (apos.endLine == cpos.line) = true
 trees : backTo cpos (starEach [e, f] X.env) = [(false, eval e X.env), (false, eval f X.env)]
def IsD (H : Hp) (a : Addr) : Prop := (∃ kvs, Rd H a (.dK kvs)) \/ ∃ kvs, Rd H a (.dT kvs)
theorem Yj1 {X : Cx} {pins : LAO} {σ : St} {H : Hp} {s : Shared} {a : Addr} (I : Inv X pins σ H s) (d : IsD H a) :
 s.TypeIs (.ref a) "dict" /\ (∀ b, Value.ref a = .ref b -> ∃ ob, s.heap.get? b = some ob /\ ob.dict = none) /\ (a == sysModules) = false := by
 rcases d with ⟨kvs, e⟩ | ⟨kvs, e⟩
 ·obtain ⟨_, hd, vs, _, dd⟩ := Jc I.hok e
  refine ⟨dd.typeIs, fun b q => ?_, hd⟩
  cases q
  obtain ⟨ob, _, _, h1, h2, _⟩ := dd
  exact ⟨ob, h1, h2.2.1⟩
 ·obtain ⟨_, hd, xs, _, dd⟩ := Yah I.hok e
  refine ⟨dd.typeIs, fun b q => ?_, hd⟩
  cases q
  obtain ⟨ob, _, _, h1, h2, _⟩ := dd
  exact ⟨ob, h1, h2.2.1⟩
section
variable {X : Cx} {pins : LAO} {σ : St} {H : Hp} {s : Shared} {a : Addr} {y d : V} {u r : Value} {o : Option V} {A : Around} {E : VSP}
theorem Yjb {Q : VSP} (hu : A.units + 1 < cLine) (I : Inv X pins σ H s) (g : YmK H a y o) (ry : RelV y u) (rd : RelV d r) (h : ∀ w' s', Inv X pins σ H s' -> RelV (o.getD d) w' -> Q w' s') :
 wpAny (model X.prog X.w) A (call (.builtin "dict.get") [.ref a, u, r]) Q E s := by
 show 229
 ·show 45
  refine call_meetsIn PySem.F.slot_dict_get dd.typeIs PySem.F.entry_dict_get (PySem.F.args_dict_get_3 _ _ _) (meets_dict_get_default (YlC X.prog X.w) a (YaF ry) hd r) ⟨_, dd.mapOf, h _ _ (I.tok _) ?_⟩
  rw [l]
  exact (rel.val k).getD rd
 ·show 60
  refine call_meetsIn PySem.F.slot_dict_get dd.typeIs PySem.F.entry_dict_get (PySem.F.args_dict_get_3 _ _ _) (meetsH_dict_get_default (tupleKind (YlC X.prog X.w)) a b hd r) ⟨tupleKind_room_in1 hu, k, xs, VS I.hok eb, dd, h _ _ (I.tok _) ?_⟩
  rw [l]
  exact (rel.val k).getD rd
end
def YoZ (td ty tx : TE) : TE := fun σ H Q => td σ H fun x H1 => ∃ a, x = .ref a /\ IsD H1 a /\ ty σ H1 fun y H2 => tx σ H2 fun z H3 => ∃ o, YmK H3 a y o /\ Q (o.getD z) H3
section
variable {X : Cx} {o e f : Expr} {apos cpos : Pos} {td ty tx : TE}
theorem Yfl (hu : X.A.units + 1 < cLine) (ho : PE X o td) (he : PE X e ty) (hf : PE X f tx) (m : M2 X o "get" apos e f cpos) : PE X (.Call (.Attribute o "get" apos) [e, f] [] cpos) (YoZ td ty tx) := by
 show 139
 refine wpAny_Call_method m.base m.few m.line PySem.F.plainAttrs_dict PySem.F.slot_dict_get PySem.F.type_dict_get (thn (ho pins s σ H _ I h) fun u s1 ⟨x, H1, I1, rx, a, ex, d, q1⟩ => ?_)
 subst ex
 obtain rfl : u = Value.ref a := rx
 obtain ⟨t1, t2, _⟩ := Yj1 I1 d
 refine ⟨t1, t2, ?_⟩
 rw [m.trees]
 refine Calls.callWith_builtin rfl (Calls.evalArgs_plain (Calls.spliced_cons (thn (he pins s1 σ H1 _ I1 q1) fun iv s2 ⟨y, H2, I2, ry, q2⟩ =>
  Calls.spliced_cons (thn (hf pins s2 σ H2 _ I2 q2) fun fv s3 ⟨z, H3, I3, rz, ov, g, q3⟩ => Calls.spliced_nil ?_))))
 exact Yjb hu I3 g ry rz fun w' s4 I4 rw' => ⟨_, H3, I4, rw', q3⟩
end
section
variable {X : Cx} {pins : LAO} {σ : St} {H : Hp} {s : Shared} {a : Addr} {kvs : List (Key × V)} {A : Around} {E : VSP}
end
section
variable {X : Cx} {pins : LAO} {σ : St} {H : Hp} {s : Shared} {a : Addr} {y : V} {u : Value} {A : Around} {E : VSP}
end
end L2
namespace Att
open PySem PySem.W PySem.Calls PyProof.Rows
theorem Je {P : Params} {h : Heap} : ∀ (ns : List Int) (vs : List Value), WellAll P h vs (ns.map WData.int) -> IntsAre vs ns := by
 intro ns
 induction ns with
 | nil =>
  intro vs w
  rw [ZCI] at w
  cases w
  exact .nil
 | cons n ns ih =>
  intro vs w
  rw [ZAY] at w
  cases w with
  | cons a b =>
   cases a
   exact .cons _ _ (ih _ b)
theorem Yd7 {l : OpenLaw} {n : Nat} (hn : l.most = some n) {P : Params} {h : Heap} {args : List WData} {vals : List Value}
 (hpre : l.row.toRowW.claim.pre args = true) (hwl : WellAll P h vals args) :
 ∃ a vs ns, vals = [Value.ref a] /\ args = [WData.list (ns.map WData.int)] /\ h.get? a = some { cls := .type "list", data := .seq vs.toArray } /\ IntsAre vs ns /\ ns.length <= n := by
 have hsh : WShape.hasAll [] args [.list .int] = true := (pre_splitW hpre).1
 have hc : l.pre.holds [] { args := args } = true := (pre_splitW hpre).2
 obtain ⟨d, r, rfl, h1, h2⟩ := hasAllW_cons hsh
 obtain rfl := hasAllW_nil h2
 obtain ⟨xs, rfl, h3⟩ := hasW_list h1
 obtain ⟨ns, rfl⟩ := items_int h3
 have hlen : ns.length <= n := by
  unfold OpenLaw.pre at hc
  have h4 : (WTm.not (.lt (.lit (.int (n : Int))) (.len (.arg 0)))).holds [] { args := [.list (ns.map .int)] } = true := by
   have h4 := (holds_andW hc).1
   rw [hn] at h4
   exact h4
  have h5 := condW_of h4 (w_not (w_lt w_lit (w_len_list (w_arg rfl))))
  rw [ZAJ] at h5
  refine Nat.le_of_not_lt fun q => ?_
  have q' : (n : Int) < ((ns.length : Nat) : Int) := by omega
  first
   | (rw [ZAh q'] at h5; exact absurd h5 (by decide))
   | (simp at h5; omega)
 cases hwl with
 | cons w1 w2 =>
  cases w2
  cases w1 with
  | list ho hall => exact ⟨_, _, ns, rfl, rfl, ho, Je ns _ hall, hlen⟩
theorem Yei (l : OpenLaw) (args : List WData) : l.row.toRowW.claim.post args (.bool true) args = true :=
 postW_of (r := l.row.toRowW) (X := (true == true))
  (show WShape.has [] (.bool true) .bool = true by first | rfl | decide | simp [WShape.has, WShape.arms, WShape.armsAll])
  (show (WTm.eq .res (.lit (.bool true))).value [] { args := args, res := some (.bool true), after := args } = some (.bool (true == true)) from w_eq_bool (w_res rfl) w_lit) rfl
theorem attach_call {l : OpenLaw} {n : Nat} {q : Program} {loose : List Str} {XP : (Str -> Option Value) -> Heap -> Prop} {YP : World -> Heap -> Prop} {d : DefRec}
 (hn : l.most = some n) (hdf : d.params.defaults = [])
 (call : ∀ (w : World) (s₀ s₁ : Shared) (mg mb : SOV) (fa : Addr) (o : Obj) (pm cd doc : Value) (a : Addr) (vs : List Value) (ns : List Int),
  Ground q loose [] XP w s₀ mg mb s₁.heap -> YP w s₁.heap ->
  s₁.heap.get? fa = some o -> o.data = .func (docDef d.name d.params d.body d.scope pm cd doc) -> s₁.heap.CodeRec cd d.name -> mg d.name = some (.ref fa) ->
  s₁.heap.get? a = some { cls := .type "list", data := .seq vs.toArray } -> IntsAre vs ns -> ns.length <= n -> s₁.gens = #[] ->
  codeAny (model l.prog w) callerA (.call (.ref fa) ⟨[.ref a], []⟩) (fun r s' => r = .ok (.ret (.bool true)) /\ OldK s₁.heap s'.heap /\ s'.os = s₁.os /\ AllBare s'.gens) s₁) :
 WalkO q loose XP YP l.row.toRowW d [] (fun f vs => PySem.call f vs) := by
 intro w s₀ s₁ mg mb G Y fa o pm cd doc dV kV ho hd hcd hD hmg hg args vals as hpre hlay hrd hwl hlo
 obtain rfl : dV = .none := Dflts.none hD hdf
 obtain rfl : kV = .none := Dflts.noKw hD
 obtain ⟨a, vs, ns, rfl, rfl, hobj, hints, hlen⟩ := Yd7 hn hpre hwl
 refine enter_call (codeAny_mono (call w s₀ s₁ mg mb fa o pm cd doc a vs ns G Y ho (fd_plain hd) hcd hmg hobj hints hlen hg) fun r s' hq => ?_)
 obtain ⟨rfl, h2, h3, h4⟩ := hq
 exact ⟨.inl ⟨.bool true, .bool true, [], rfl, fun _ => rfl, .bool true, Yei l _, fun _ => ⟨List.Pairwise.nil, fun _ hm => (nomatch hm)⟩⟩, h2, h3, h4⟩
section
variable {prog : Program} {w : World} {A : Around} {E : VSP} {s : Shared} {K : Frag}
def ledger (h : Heap) (L d : Addr) : List (Addr × Obj) := (List.range h.objs.size).filterMap fun a => if a = L \/ a = d then none else (h.get? a).map fun o => (a, o)
end
end Att
namespace L2
open PySem PySem.Spec PyProof.Rows
theorem Ya3 : ∀ {vs : List Value} {ns : List Int}, IntsAre vs ns -> Vals (ns.map V.int) vs
 | _, _, .nil => .nil
 | _, _, .cons n t h => .cons ⟨t, rfl⟩ (Ya3 h)
def Only (H : Hp) : Prop := ∀ b, H b = none \/ ∃ o xs, H b = some (.frz o (.lst xs))
theorem Yfi {P : Program} {w : World} {K : Frag} {mg mb : SOV} {CX : CXT} {k : Nat} {fa a : Addr} {fd : FuncData} {x : Str} {sp : Sp} {s₁ : Shared} {vs : List Value} {ns : List Int}
 (KX : K.In s₁.heap) (hns : s₁.heap.Ns mainGlobals mg) (hb : s₁.heap.Ns builtinsNs mb) (hbb : ∀ x : Str, x ≠ "__name__" -> mb x = bootBuiltins x) (hlim : s₁.heap.NoLimit) (hg : s₁.gens = #[])
 (ha : s₁.heap.get? a = some { cls := .type "list", data := .seq vs.toArray }) (hi : IntsAre vs ns) (hl : ns.length <= sizeLine) (hr : Ymm k callerA)
 (F : ∀ base : Heap, K.In base -> base.Ns mainGlobals mg -> Ym7 P w K mg base CX k fa fd [x] sp) (hbind : ∀ (s : Shared) (u : Value), BindsTo s fd ⟨[u], []⟩ [(x, u)])
 (hsp : ∀ H : Hp, Only H -> SqL K H a (ns.map V.int) -> sp [.ref a] H (fun v _ => v = .bl true) fun _ _ _ => False)
 (hCX : ∀ H e s', CX [] H s₁ (fun _ _ _ => False) e s' -> False) :
 codeAny (model P w) callerA (.call (.ref fa) ⟨[.ref a], []⟩) (fun r s' => r = .ok (.ret (.bool true)) /\ OldK s₁.heap s'.heap /\ s'.os = s₁.os /\ AllBare s'.gens) s₁ := by
 have rv := Ya3 hi
 have lenV := hi.length
 have core : ∀ H : Hp, Only H -> SqL K H a (ns.map V.int) -> HOk P w H s₁.heap -> (∀ b, H b ≠ none -> b = a) -> (H a ≠ none -> K.lookup a = none) ->
  codeAny (model P w) callerA (.call (.ref fa) ⟨[.ref a], []⟩) (fun r s' => r = .ok (.ret (.bool true)) /\ OldK s₁.heap s'.heap /\ s'.os = s₁.os /\ AllBare s'.gens) s₁ := by
  intro H hO hS hok hA hK
  have base_of : ∀ {b : Addr} {o : Obj}, s₁.heap.get? b = some o -> H b = none -> (YnJ s₁.heap H).get? b = some o := fun e n => Ygi e n
  have noA : ∀ {b : Addr} {o : Obj} {es : Array DictEntry} {ep : Nat}, s₁.heap.get? b = some o -> o.data = .dict es ep -> H b = none := fun {b o es ep} e d => by
   cases q : H b with
   | none => rfl
   | some u =>
    have e' : b = a := hA b (by rw [q]; simp)
    subst e'
    rw [ha] at e; cases e
    have d' : Data.seq vs.toArray _ = Data.dict es ep := d
    cases d'
  have nsK : ∀ {b : Addr} {m : SOV}, s₁.heap.Ns b m -> (YnJ s₁.heap H).Ns b m := fun {b m} ⟨o, es, ep, e, d, r⟩ => ⟨o, es, ep, base_of e (noA e d), d, r⟩
  have hKb : K.In (YnJ s₁.heap H) := fun b o e => base_of (KX b o e) (by
   cases q : H b with
   | none => rfl
   | some u =>
    have e' : b = a := hA b (by rw [q]; simp)
    subst e'
    rw [hK (by rw [q]; simp)] at e; cases e)
  have hM : Mod K mg (YnJ s₁.heap H) := ⟨hKb, nsK hns, ⟨mb, nsK hb, hbb⟩, let ⟨mc, h1, h2⟩ := hlim; ⟨mc, nsK h1, h2⟩⟩
  have e0 : Yn1 P w K mg (YnJ s₁.heap H) callerA [] s₁ H := ⟨rfl, hM, fun b o e => Yh3 e, Nat.le_of_eq (Yee _ _), trivial, fun b hb => absurd (show b ∈ ([] : List Addr) from hb) (by simp), hok, .of_eq hg⟩
  refine codeAny_mono ((F _ hKb (nsK hns)).run callerA [] s₁ H ⟨[.ref a], []⟩ [.ref a] [.ref a] _ _ hr e0 (hbind s₁ (.ref a)) (.cons rfl .nil) (hsp H hO hS)) fun r s' h => ?_
  cases r with
  | error e => exact (hCX H e s' h).elim
  | ok fl =>
   cases fl with
   | next => exact False.elim h
   | brk => exact False.elim h
   | cont => exact False.elim h
   | ret u =>
    obtain ⟨v, H', os, bare, un, hok', r', q⟩ := h
    have q' : v = .bl true := q
    subst q'
    obtain rfl : u = Value.bool true := r'
    refine ⟨rfl, OldK.of_keep fun b o e => ?_, os, bare⟩
    cases q : H b with
    | none => exact un.keep b o e q (by intro z; exact absurd (show b ∈ ([] : List Addr) from z) (by simp)) (by simp)
    | some u =>
     rcases hO b with z | ⟨ob, xs, z⟩
     ·rw [q] at z; cases z
     ·have z2 := un.frzs b ob _ z
      obtain ⟨e1, _⟩ := hok b _ z
      obtain ⟨e2, _⟩ := hok' b _ z2
      rw [e] at e1; cases e1
      exact e2
 cases hk : K.lookup a with
 | some o =>
  have e := KX a o hk
  rw [ha] at e
  cases e
  refine core (fun _ => none) (fun _ => .inl rfl) (.inr ⟨_, vs.toArray, _, hk, rfl, rfl, rfl, by rw [List.size_toArray, lenV]; exact hl, by simpa using rv⟩) (fun b u z => by have z' : (none : Option HO) = some u := z; cases z') (fun b z => absurd rfl z) fun z => absurd rfl z
 | none =>
  refine core (fun b => if b = a then some (.frz { cls := .type "list", data := .seq vs.toArray } (.lst (ns.map V.int))) else none) (fun b => ?_) (.inl (.inr ⟨{ cls := .type "list", data := .seq vs.toArray }, ZAG rfl⟩)) (fun b u z => ?_) (fun b z => ?_) fun _ => hk
  ·show 180
   ·exact .inr ⟨_, _, ZAG hb⟩
   ·exact .inl (ZAF hb)
  ·show 180
   ·have z' := (ZAG hb).symm.trans z
    cases z'
    subst hb
    exact ⟨ha, by rw [ZAJ]; exact hl, vs, _, rv, ha⟩
   ·have z' := (ZAF hb).symm.trans z
    cases z'
  ·show 180
   ·exact hb
   ·exact absurd (ZAF hb) z
end L2
namespace L2
open PySem PySem.Spec PyProof.Rows
theorem walk_of {l : PySem.W.OpenLaw} {n k : Nat} {q : Program} {loose : List Str} {XP : (Str -> Option Value) -> Heap -> Prop} {YP : World -> Heap -> Prop} {d : DefRec} {K : Params -> Frag} {CX : World -> CXT} {sp : World -> Sp} {x : Str}
 (hn : l.most = some n) (hn2 : n <= sizeLine) (hdf : d.params.defaults = []) (hr : Ymm k callerA)
 (hY : ∀ (w : World) (h : Heap), YP w h -> (K w.params).In h)
 (F : ∀ (w : World) (mg : SOV) (fa : Addr) (h : Heap), (K w.params).In h -> h.Ns mainGlobals mg -> mg d.name = some (.ref fa) ->
  ∃ fd : FuncData, (∀ (s : Shared) (u : Value), BindsTo s fd ⟨[u], []⟩ [(x, u)]) /\
   ∀ base : Heap, (K w.params).In base -> base.Ns mainGlobals mg -> Ym7 l.prog w (K w.params) mg base (CX w) k fa fd [x] (sp w))
 (hsp : ∀ (w : World) (H : Hp) (a : Addr) (ns : List Int), ns.length <= n -> Only H -> SqL (K w.params) H a (ns.map V.int) -> sp w [.ref a] H (fun v _ => v = .bl true) fun _ _ _ => False)
 (hCX : ∀ (w : World) (H : Hp) (s : Shared) (e : Value) (s' : Shared), CX w [] H s (fun _ _ _ => False) e s' -> False) :
 PySem.W.WalkO q loose XP YP l.row.toRowW d [] (fun f vs => PySem.call f vs) := by
 refine Att.attach_call hn hdf fun w s₀ s₁ mg mb fa o pm cd doc a vs ns G Y ho hd hcd hmg hobj hints hlen hg => ?_
 have KX := hY w _ Y
 obtain ⟨fd, hb, hF⟩ := F w mg fa _ KX G.T.g hmg
 exact Yfi KX G.T.g G.T.b G.T.builtins G.T.nolimit hg hobj hints (ZAR hlen hn2) hr hF hb (fun H hO hS => hsp w H a ns hlen hO hS) fun H e s' => hCX w H s₁ e s'
end L2
namespace L2
open PySem PySem.Spec PyProof.Rows
def YlD (s : Stmt) : Arguments := match s with
 | .FunctionDef _ a _ _ _ _ _ _ _ _ => a
 | _ => { posonlyargs := [], args := [], vararg := none, kwonlyargs := [], kw_defaults := [], kwarg := none, defaults := [] }
def YlB (s : Stmt) : List Stmt := match s with
 | .FunctionDef _ _ b _ _ _ _ _ _ _ => b
 | _ => []
def Ylu (s : Stmt) : Scope := match s with
 | .FunctionDef _ _ _ _ _ _ sc _ _ _ => sc
 | _ => { kind := .function, names := [], isGenerator := false, isCoroutine := false }
abbrev CX0 : CXT := fun _ _ _ _ _ _ => False
abbrev E0 : XK := fun _ _ _ => False
theorem pass0 {X : Cx} : Yn0 CX0 X E0 := fun _ _ _ _ _ _ _ h => h.elim
structure Fun (K : Frag) (x qual : Str) (st : Stmt) (f : Addr) (fd : FuncData) : Prop where
 ex : ∃ (oc : Value) (od : Option Addr) (kV doc pm : Value) (an : Option Addr) (cdv ct : Value) (osl : Array (Option Value)),
  fd = fnOf x qual (YlD st) (YlB st) (Ylu st) .none kV doc pm an cdv ct /\ K.lookup f = some ⟨oc, od, .func fd, osl⟩ /\ PySem.W.codeIn K cdv qual = true
 kp : PySem.W.keepIn K (.ref f) = true
section
variable {P : Program} {w : World} {K : Frag} {mg : SOV} {base : Heap}
theorem Fun.ok {x qual : Str} {st : Stmt} {f : Addr} {fd : FuncData} {N ps : List Str} {k : Nat} {sp : Sp} (F : Fun K x qual st f fd) (S : YlH N ps (Ylu st)) (len : ∀ vs H Q E, sp vs H Q E -> vs.length = ps.length)
 (hbody : ∀ (cdv : Value) (A : Around) (outer : List Env) (s : Shared) (H : Hp) (vs : List V) (Q : VK) (E : XK), Ymm k (A.deeper (envOfC qual (Ylu st) s.heap.objs.size f cdv)) -> sp vs H Q E ->
  ∃ t, PSs (YnL CX0 P w K mg base N qual (Ylu st) f cdv A outer s H E).nox (YlB st) t /\ t { nx := fun _ H' => Q .non H', rt := Q } (start N vs) H) : Ym7 P w K mg base CX0 (k + 1) f fd ps sp := by
 obtain ⟨oc, od, kV, doc, pm, an, cdv, ct, osl, rfl, lk, hcd⟩ := F.ex
 refine YkK lk hcd S len fun A outer s H vs Q E hr hsp => ?_
 obtain ⟨t, h, q⟩ := hbody cdv A outer s H vs Q E hr hsp
 exact ⟨t, h.nox, q⟩
theorem Fun.binds {x qual : Str} {st : Stmt} {f : Addr} {fd : FuncData} {ps : List Str} (F : Fun K x qual st f fd)
 (h : ∀ (kV doc pm : Value) (an : Option Addr) (cdv ct : Value) (us : List Value), us.length = ps.length -> bindArgs (fnOf x qual (YlD st) (YlB st) (Ylu st) .none kV doc pm an cdv ct) ⟨us, []⟩ = pure (ps.zip us)) : Binds K fd ps [] := by
 obtain ⟨oc, od, kV, doc, pm, an, cdv, ct, osl, rfl, lk, hcd⟩ := F.ex
 exact .all (h kV doc pm an cdv ct)
theorem YfE {x qual : Str} {st : Stmt} {f : Addr} {oc : Value} {od an : Option Addr} {osl : Array (Option Value)} {kV doc pm cdv ct : Value} (l : K.lookup f = some ⟨oc, od, .func (fnOf x qual (YlD st) (YlB st) (Ylu st) .none kV doc pm an cdv ct), osl⟩)
 (c : PySem.W.codeIn K cdv qual = true) (k : PySem.W.keepIn K (.ref f) = true) : Fun K x qual st f (fnOf x qual (YlD st) (YlB st) (Ylu st) .none kV doc pm an cdv ct) := ⟨⟨oc, od, kV, doc, pm, an, cdv, ct, osl, rfl, l, c⟩, k⟩
end
theorem YI {A : Around} {k : Nat} (hr : Ymm k A) : A.units + 1 < cLine := ZBu (Nat.add_le_add_left (by decide : 1 <= 64) _) hr.units
section
variable {X : Cx}
theorem pv (i : Nat) {x : Str} {pos : Pos} (hN : X.N[i]? = some x := by rfl) (hv : Vis X.env.scope x := by first | exact Or.inl rfl | exact Or.inr (Or.inl rfl) | exact Or.inr (Or.inr rfl)) (hd : (x == ("__debug__" : Str)) = false := by decide)
 (hcd : (x == ("__classdict__" : Str)) = false := by decide) : PE X (.Name x pos) (Yo6 i) := Yhf hN hv hd hcd
end
def YnQ (H H' : Hp) : Prop := ∀ b o, H b = some o -> H' b = some o
theorem YnQ.refl (H : Hp) : YnQ H H := fun _ _ h => h
theorem YnQ.trans {H H1 H2 : Hp} (a : YnQ H H1) (b : YnQ H1 H2) : YnQ H H2 := fun c o h => b c o (a c o h)
theorem YnQ.free {H H' : Hp} (e : YnQ H H') {l : Addr} (h : H' l = Option.none) : H l = Option.none := by
 cases q : H l with
 | none => rfl
 | some o =>
  rw [e l o q] at h
  cases h
end L2
namespace L2
open PySem PySem.Spec PyProof.Rows
section
variable {X : Cx}
theorem Ye4 : Yl0 X (.builtin "len") (fun xs H Q => ∃ a kvs, xs = [V.ref a] /\ H a = some (.dK kvs) /\ Q (.int kvs.length) H) := by
 show 191
 obtain ⟨a, kvs, rfl, ha, q⟩ := h
 obtain ⟨u, rfl, ru⟩ := vals1 r
 cases ru
 exact YkS I (.inl ha) fun t s' I' => ⟨.int kvs.length, H, I', ⟨t, rfl⟩, q⟩
end
section
variable {κ : Type} [DecidableEq κ]
end
end L2
namespace Mi
open PySem PySem.Spec L2
open PyProof.Rows hiding St
inductive P where
 | non | bl (b : Bool) | int (i : Int) | str (x : Str) | tup (xs : List P) | ref (k : Nat)
inductive O where
 | lst (xs : List P) | ro (xs : List P) | dct (kvs : List (Key × P)) | exc (c : Str) (fs : List (Str × P)) | dtt (kvs : List (List Key × P)) | fdc (kvs : List (Key × P))
abbrev Yls := List O
abbrev Rho := List (Option P)
mutual
inductive Den (K : Frag) (as : List Addr) (H : Hp) : V -> P -> Prop where
 | non : Den K as H .non .non
 | bl {b} : Den K as H (.bl b) (.bl b)
 | int {i} : Den K as H (.int i) (.int i)
 | str {x} : Den K as H (.str x) (.str x)
 | ref {k a} : as[k]? = some a -> Den K as H (.ref a) (.ref k)
 | tup {a vs ps} (sq : SqT K H a vs) (ds : Dens K as H vs ps) (tk : H a = some (.tup vs) := by first | assumption | exact Yj) : Den K as H (.ref a) (.tup ps)
inductive Dens (K : Frag) (as : List Addr) (H : Hp) : List V -> List P -> Prop where
 | nil : Dens K as H [] []
 | cons {v p vs ps} : Den K as H v p -> Dens K as H vs ps -> Dens K as H (v :: vs) (p :: ps)
end
def Mu : HO -> Prop
 | .lst _ => True
 | .dK _ => True
 | .dT _ => True
 | _ => False
structure Ext (as : List Addr) (H : Hp) (as' : List Addr) (H' : Hp) : Prop where
 pre : ∀ (k : Nat) a, as[k]? = some a -> as'[k]? = some a
 keep : ∀ b u, H b = some u -> ¬ Mu u -> H' b = some u
theorem Ext.refl {as : List Addr} {H : Hp} : Ext as H as H := ⟨fun _ _ e => e, fun _ _ e _ => e⟩
theorem Ext.trans {as as1 as2 : List Addr} {H H1 H2 : Hp} (a : Ext as H as1 H1) (b : Ext as1 H1 as2 H2) : Ext as H as2 H2 :=
 ⟨fun k x e => b.pre k x (a.pre k x e), fun c u e m => b.keep c u (a.keep c u e m) m⟩
theorem SqT.ext {K : Frag} {as as' : List Addr} {H H' : Hp} {a : Addr} {vs : List V} (x : Ext as H as' H') (h : SqT K H a vs) : SqT K H' a vs := by
 rcases h with (h | ⟨o, h⟩) | h
 ·exact .inl (.inl (x.keep _ _ h fun z => z))
 ·exact .inl (.inr ⟨o, x.keep _ _ h fun z => z⟩)
 ·exact .inr h
mutual
theorem Den.ext {K : Frag} {as as' : List Addr} {H H' : Hp} {v : V} {p : P} (x : Ext as H as' H') (h : Den K as H v p) : Den K as' H' v p :=
 match h with
 | .non => .non
 | .bl => .bl
 | .int => .int
 | .str => .str
 | .ref e => .ref (x.pre _ _ e)
 | .tup e r t => .tup (SqT.ext x e) (Dens.ext x r) (x.keep _ _ t fun z => z)
theorem Dens.ext {K : Frag} {as as' : List Addr} {H H' : Hp} {vs : List V} {ps : List P} (x : Ext as H as' H') (h : Dens K as H vs ps) : Dens K as' H' vs ps :=
 match h with
 | .nil => .nil
 | .cons a r => .cons (Den.ext x a) (Dens.ext x r)
end
section
variable {K : Frag} {as : List Addr} {H : Hp}
theorem Dens.length : ∀ {vs : List V} {ps : List P}, Dens K as H vs ps -> vs.length = ps.length
 | _, _, .nil => rfl
 | _, _, .cons _ r => by simp [Dens.length r]
theorem Dens.get : ∀ {vs : List V} {ps : List P} {i : Nat} {p : P}, Dens K as H vs ps -> ps[i]? = some p -> ∃ v, vs[i]? = some v /\ Den K as H v p
 | _, _, _, _, .nil, e => by simp at e
 | _, _, 0, _, .cons a _, e => by simp at e; subst e; exact ⟨_, rfl, a⟩
 | _, _, i + 1, _, .cons _ r, e => by
  obtain ⟨v, h1, h2⟩ := Dens.get (i := i) r (by simpa using e)
  exact ⟨v, by simpa using h1, h2⟩
theorem Dens.append : ∀ {vs ws : List V} {ps qs : List P}, Dens K as H vs ps -> Dens K as H ws qs -> Dens K as H (vs ++ ws) (ps ++ qs)
 | _, _, _, _, .nil, s => s
 | _, _, _, _, .cons a r, s => .cons a (Dens.append r s)
theorem Dens.set {v : V} {p : P} (d : Den K as H v p) : ∀ {vs : List V} {ps : List P} (i : Nat), Dens K as H vs ps -> Dens K as H (vs.set i v) (ps.set i p)
 | _, _, _, .nil => .nil
 | _, _, 0, .cons _ t => .cons d t
 | _, _, i + 1, .cons q t => .cons q (Dens.set d i t)
theorem Dens.take : ∀ {vs : List V} {ps : List P} (n : Nat), Dens K as H vs ps -> Dens K as H (vs.take n) (ps.take n)
 | _, _, 0, _ => .nil
 | _, _, _ + 1, .nil => .nil
 | _, _, n + 1, .cons r t => .cons r (Dens.take n t)
theorem Dens.drop : ∀ {vs : List V} {ps : List P} (n : Nat), Dens K as H vs ps -> Dens K as H (vs.drop n) (ps.drop n)
 | _, _, 0, r => r
 | _, _, _ + 1, .nil => .nil
 | _, _, n + 1, .cons _ t => Dens.drop n t
theorem Dens.reverse : ∀ {vs : List V} {ps : List P}, Dens K as H vs ps -> Dens K as H vs.reverse ps.reverse
 | _, _, .nil => .nil
 | _, _, .cons r t => by rw [ZBx, ZBx]; exact (Dens.reverse t).append (.cons r .nil)
end
def YpW (a : Addr) (C : Value) (od : Option Addr) (h : Heap) : Prop := ∃ o vs, h.get? a = some o /\ o.cls = C /\ o.dict = od /\ o.data = .fields vs
def Yoh (K : Frag) (as : List Addr) (H : Hp) (od : Option Addr) (fs : List (Str × P)) : Prop :=
 (od = none /\ fs = []) \/ ∃ d ws, od = some d /\ H d = some (.xd ws) /\ ws.map (·.1) = fs.map (·.1) /\ Dens K as H (ws.map (·.2)) (fs.map (·.2))
theorem Yoh.ext {K : Frag} {as as' : List Addr} {H H' : Hp} {od : Option Addr} {fs : List (Str × P)} (x : Ext as H as' H') (h : Yoh K as H od fs) : Yoh K as' H' od fs := by
 rcases h with h | ⟨d, ws, h4, h5, h6, h7⟩
 ·exact .inl h
 ·exact .inr ⟨d, ws, h4, x.keep _ _ h5 fun z => z, h6, h7.ext x⟩
def Yns (K : Frag) (as : List Addr) (H : Hp) (a : Addr) : O -> Prop
 | .lst xs => ∃ vs, H a = some (.lst vs) /\ Dens K as H vs xs
 | .ro xs => ∃ vs, ((∃ o, H a = some (.frz o (.lst vs))) \/ ∃ (o : Obj) (its : Array Value) (n : Nat), K.lookup a = some o /\ o.cls = .type "list" /\ o.dict = none /\ o.data = .seq its n /\ its.size <= sizeLine /\ Vals vs its.toList) /\ Dens K as H vs xs
 | .dct kvs => ∃ ws, H a = some (.dK ws) /\ ws.map (·.1) = kvs.map (·.1) /\ Dens K as H (ws.map (·.2)) (kvs.map (·.2))
 | .exc c fs => ∃ C od, nsIn K mainGlobals c = some (some (.ref C)) /\ H a = some (.ext (YpW a (.ref C) od)) /\ Yoh K as H od fs
 | .dtt kvs => ∃ ws, H a = some (.dT ws) /\ ws.map (·.1) = kvs.map (·.1) /\ Dens K as H (ws.map (·.2)) (kvs.map (·.2))
 | .fdc kvs => ∃ o ws, H a = some (.frz o (.dK ws)) /\ ws.map (·.1) = kvs.map (·.1) /\ Dens K as H (ws.map (·.2)) (kvs.map (·.2))
def Ym0 : Option O -> Prop
 | some (.ro _) => True
 | _ => False
structure Rep (K : Frag) (as : List Addr) (st : Yls) (H : Hp) : Prop where
 len : as.length = st.length
 nd : ∀ (i j : Nat) a, as[i]? = some a -> as[j]? = some a -> ¬ Ym0 st[i]? -> ¬ Ym0 st[j]? -> i = j
 ob : ∀ (k : Nat) a o, as[k]? = some a -> st[k]? = some o -> Yns K as H a o
section
variable {K : Frag} {as as' : List Addr} {H H' : Hp} {st : Yls}
theorem Yns.ext {a : Addr} {o : O} (x : Ext as H as' H') (hm : ∀ u, H a = some u -> H' a = some u) (h : Yns K as H a o) : Yns K as' H' a o := by
 cases o with
 | lst xs => obtain ⟨vs, h1, h2⟩ := h; exact ⟨vs, hm _ h1, h2.ext x⟩
 | ro xs =>
  obtain ⟨vs, h1, h2⟩ := h
  refine ⟨vs, ?_, h2.ext x⟩
  rcases h1 with ⟨o, h1⟩ | h1
  ·exact .inl ⟨o, hm _ h1⟩
  ·exact .inr h1
 | dct kvs => obtain ⟨ws, h1, h2, h3⟩ := h; exact ⟨ws, hm _ h1, h2, h3.ext x⟩
 | exc c fs =>
  obtain ⟨C, od, h1, h2, h3⟩ := h
  exact ⟨C, od, h1, hm _ h2, h3.ext x⟩
 | dtt kvs => obtain ⟨ws, h1, h2, h3⟩ := h; exact ⟨ws, hm _ h1, h2, h3.ext x⟩
 | fdc kvs => obtain ⟨o, ws, h1, h2, h3⟩ := h; exact ⟨o, ws, hm _ h1, h2, h3.ext x⟩
theorem Rep.tracked (r : Rep K as st H) {k : Nat} {a : Addr} (e : as[k]? = some a) (n : ¬ Ym0 st[k]?) : ∃ u, H a = some u := by
 have hk : k < st.length := by rw [<- r.len]; exact (ZAD.mp e).1
 have q : st[k]? = some st[k] := by simp [hk]
 have h := r.ob k a _ e q
 rw [q] at n
 cases w : st[k] with
 | lst xs => rw [w] at h; obtain ⟨vs, h1, _⟩ := h; exact ⟨_, h1⟩
 | ro xs => rw [w] at n; exact absurd trivial n
 | dct kvs => rw [w] at h; obtain ⟨vs, h1, _⟩ := h; exact ⟨_, h1⟩
 | exc c fs => rw [w] at h; obtain ⟨C, od, _, h2, _⟩ := h; exact ⟨_, h2⟩
 | dtt kvs => rw [w] at h; obtain ⟨vs, h1, _⟩ := h; exact ⟨_, h1⟩
 | fdc kvs => rw [w] at h; obtain ⟨o, vs, h1, _⟩ := h; exact ⟨_, h1⟩
theorem Ext.new {p : Addr} {u : HO} (hp : H p = none) : Ext as H (as ++ [p]) (upd H p u) where
 pre := fun k a e => by rw [ZA0 (ZAD.mp e).1]; exact e
 keep := fun b w e _ => by rw [Yg (Yd e hp)]; exact e
theorem Ext.laid {p : Addr} {u : HO} (hp : H p = none) : Ext as H as (upd H p u) where
 pre := fun k a e => e
 keep := fun b w e _ => by rw [Yg (Yd e hp)]; exact e
theorem Rep.laid {p : Addr} {u : HO} (r : Rep K as st H) (hp : H p = none) : Rep K as st (upd H p u) :=
 ⟨r.len, r.nd, fun k a o e q => (r.ob k a o e q).ext (Ext.laid hp) fun w z => by rw [Yg (Yd z hp)]; exact z⟩
def Yny (as : List Addr) (st : Yls) (l : Addr) : Prop := ∀ i : Nat, as[i]? = some l -> Ym0 st[i]?
theorem Rep.fresh {p : Addr} (r : Rep K as st H) (hp : H p = none) : Yny as st p := fun i e => by
 by_cases h : Ym0 st[i]?
 ·exact h
 ·obtain ⟨u, hu⟩ := r.tracked e h
  rw [hp] at hu; cases hu
theorem Ext.add {p : Addr} : Ext as H (as ++ [p]) H where
 pre := fun k a e => by rw [ZA0 (ZAD.mp e).1]; exact e
 keep := fun b w e _ => e
theorem Rep.add {p : Addr} {o : O} (r : Rep K as st H) (fr : Yny as st p) (ho : Yns K (as ++ [p]) H p o) : Rep K (as ++ [p]) (st ++ [o]) H where
 len := by simp [r.len]
 nd := fun i j a hi hj ni nj => by
  have hl := r.len
  have key : ∀ (i : Nat), (as ++ [p])[i]? = some a -> (¬ Ym0 (st ++ [o])[i]?) -> (i < as.length /\ as[i]? = some a /\ (¬ Ym0 st[i]?)) \/ (i = as.length /\ a = p) := fun i hi ni => by
   by_cases h : i < as.length
   ·rw [ZA0 h] at hi
    rw [ZA0 (by omega)] at ni
    exact .inl ⟨h, hi, ni⟩
   ·have h' : i < (as ++ [p]).length := (ZAD.mp hi).1
    rw [ZAH, ZAV] at h'
    have e : i = as.length := by omega
    subst e
    rw [ZBT (ZAI _)] at hi
    simp at hi
    exact .inr ⟨rfl, hi.symm⟩
  rcases key i hi ni with ⟨a1, a2, a3⟩ | ⟨a1, a2⟩
  ·rcases key j hj nj with ⟨b1, b2, b3⟩ | ⟨b1, b2⟩
   ·exact r.nd i j a a2 b2 a3 b3
   ·subst b2; exact absurd (fr i a2) a3
  ·rcases key j hj nj with ⟨b1, b2, b3⟩ | ⟨b1, b2⟩
   ·subst a2; exact absurd (fr j b2) b3
   ·omega
 ob := fun k a q hk hq => by
  have hl := r.len
  by_cases h : k < as.length
  ·rw [ZA0 h] at hk
   rw [ZA0 (by omega)] at hq
   exact (r.ob k a q hk hq).ext Ext.add fun w z => z
  ·have h' : k < (as ++ [p]).length := (ZAD.mp hk).1
   rw [ZAH, ZAV] at h'
   have e : k = as.length := by omega
   subst e
   rw [ZBT (ZAI _)] at hk
   rw [ZBT (by omega)] at hq
   simp at hk
   simp [hl] at hq
   subst hk; subst hq
   exact ho
theorem Rep.new {p : Addr} {u : HO} {o : O} (r : Rep K as st H) (hp : H p = none) (ho : Yns K (as ++ [p]) (upd H p u) p o) : Rep K (as ++ [p]) (st ++ [o]) (upd H p u) :=
 (r.laid hp).add (r.fresh hp) ho
theorem VL {p : Addr} : (as ++ [p])[as.length]? = Option.some p := by simp
theorem Rep.lnew {p : Addr} {vs : List V} {xs : List P} (r : Rep K as st H) (hp : H p = none) (d : Dens K as H vs xs) : Rep K (as ++ [p]) (st ++ [.lst xs]) (upd H p (.lst vs)) :=
 r.new hp ⟨vs, Yj, d.ext (Ext.new hp)⟩
theorem Ext.write {a : Addr} {u w : HO} (ha : H a = Option.some w) (mu : Mu w) : Ext as H as (upd H a u) where
 pre := fun k a e => e
 keep := fun b z e m => by
  rw [Yg]
  ·exact e
  ·rintro rfl
   rw [ha] at e; cases e
   exact m mu
theorem Rep.write {k : Nat} {a : Addr} {u w : HO} {o : O} (r : Rep K as st H) (hk : as[k]? = Option.some a) (ha : H a = Option.some w) (mu : Mu w) (no : ¬ Ym0 (Option.some o)) (nr : ¬ Ym0 st[k]?) (ho : Yns K as (upd H a u) a o) : Rep K as (st.set k o) (upd H a u) where
 len := by rw [ZBs]; exact r.len
 nd := fun i j b hi hj ni nj => by
  have key : ∀ (i : Nat), as[i]? = Option.some b -> (¬ Ym0 (st.set k o)[i]?) -> ¬ Ym0 st[i]? := fun i hi ni z => by
   by_cases h : k = i
   ·subst h; exact nr z
   ·rw [ZAP h] at ni; exact ni z
  exact r.nd i j b hi hj (key i hi ni) (key j hj nj)
 ob := fun i b q hi hq => by
  have hkl : k < st.length := by rw [<- r.len]; exact (ZAD.mp hk).1
  by_cases h : k = i
  ·subst h
   rw [hk] at hi; cases hi
   rw [ZAU hkl] at hq
   cases hq
   exact ho
  ·rw [ZAP h] at hq
   have old := r.ob i b q hi hq
   show 180
   ·subst hb
    by_cases hr : Ym0 st[i]?
    ·rw [hq] at hr
     cases q with
     | ro xs =>
      obtain ⟨vs, h1, h2⟩ := old
      refine ⟨vs, ?_, h2.ext (Ext.write ha mu)⟩
      rcases h1 with ⟨ob, h1⟩ | h1
      ·rw [ha] at h1; cases h1; exact mu.elim
      ·exact .inr h1
     | _ => exact hr.elim
    ·exact absurd (r.nd k i b hk hi nr hr) h
   ·exact old.ext (Ext.write ha mu) fun w z => by rw [Yg hb]; exact z
theorem Rep.lset {k : Nat} {a : Addr} {vs vs' : List V} {xs xs' : List P} (r : Rep K as st H) (hk : as[k]? = Option.some a) (ha : H a = Option.some (.lst vs)) (hs : st[k]? = Option.some (.lst xs)) (d : Dens K as H vs' xs') : Rep K as (st.set k (.lst xs')) (upd H a (.lst vs')) :=
 r.write hk ha trivial (fun z => z) (by rw [hs]; exact fun z => z) ⟨vs', Yj, d.ext (Ext.write ha trivial)⟩
end
abbrev Xc := Str × List (Str × P)
inductive R (α : Type) where
 | ok (a : α) (st : Yls)
 | exc (k : Xc) (st : Yls)
 | bad
def R.bind {α β : Type} (r : R α) (f : α -> Yls -> R β) : R β :=
 match r with
 | .ok a st => f a st
 | .exc k st => .exc k st
 | .bad => .bad
@[simp] theorem R.bind_ok {α β : Type} {a : α} {st : Yls} {f : α -> Yls -> R β} : (R.ok a st).bind f = f a st := rfl
@[simp] theorem R.bind_exc {α β : Type} {k : Xc} {st : Yls} {f : α -> Yls -> R β} : (R.exc k st : R α).bind f = .exc k st := rfl
@[simp] theorem R.bind_bad {α β : Type} {f : α -> Yls -> R β} : (R.bad : R α).bind f = .bad := rfl
def ofO {α : Type} : Option (α × Yls) -> R α
 | some (a, st) => .ok a st
 | none => .bad
@[simp] theorem Yf5 {α : Type} {a : α} {st : Yls} : ofO (some (a, st)) = .ok a st := rfl
@[simp] theorem Ygv {α : Type} : ofO (none : Option (α × Yls)) = .bad := rfl
abbrev ME := Rho -> Yls -> R P
abbrev MT := Rho -> Yls -> R Bool
abbrev MA := Rho -> Yls -> R (List P)
inductive RS where
 | nx (ρ : Rho) (st : Yls)
 | rt (p : P) (st : Yls)
 | bk (ρ : Rho) (st : Yls)
 | ct (ρ : Rho) (st : Yls)
 | exc (k : Xc) (ρ : Rho) (st : Yls)
 | bad
abbrev MS := Rho -> Yls -> RS
structure YlM (K : Frag) (as : List Addr) (H : Hp) (ρ : Rho) (σ : St) : Prop where
 len : ρ.length = σ.length
 val : ∀ (i : Nat) p, ρ[i]? = some (some p) -> ∃ v, σ[i]? = some (some v) /\ Den K as H v p
theorem YlM.ext {K : Frag} {as as' : List Addr} {H H' : Hp} {ρ : Rho} {σ : St} (x : Ext as H as' H') (h : YlM K as H ρ σ) : YlM K as' H' ρ σ :=
 ⟨h.len, fun i p e => let ⟨v, h1, h2⟩ := h.val i p e; ⟨v, h1, h2.ext x⟩⟩
theorem YlM.set {K : Frag} {as : List Addr} {H : Hp} {ρ : Rho} {σ : St} {i : Nat} {p : P} {v : V} (h : YlM K as H ρ σ) (d : Den K as H v p) : YlM K as H (ρ.set i (some p)) (σ.set i (some v)) :=
 ⟨by simp [h.len], fun j q e => by
  have hl := h.len
  by_cases hj : i = j
  ·subst hj
   by_cases hi : i < ρ.length
   ·rw [ZAU hi] at e
    cases e
    exact ⟨v, by rw [ZAU (by omega)], d⟩
   ·rw [ZCJ (by omega)] at e
    have := (ZAD.mp e).1
    omega
  ·rw [ZAP hj] at e
   obtain ⟨w, h1, h2⟩ := h.val j q e
   exact ⟨w, by rw [ZAP hj]; exact h1, h2⟩⟩
structure Yow (Nw : Addr -> Prop) (H : Hp) (a : Addr) (C : Value) (od : Option Addr) (h : Heap) : Prop where
 na : Nw a
 ha : H a = none
 tr : ∃ oe vs, h.get? a = some oe /\ oe.cls = C /\ oe.dict = od /\ oe.data = .fields vs /\ (vs[1]? = some .none \/
  ∃ T oT ts, vs[1]? = some (.ref T) /\ Nw T /\ H T = none /\ T ≠ a /\ h.get? T = some oT /\ oT.data = .fields ts /\ 3 < ts.size)
theorem Yow.mono {N N' : Addr -> Prop} {H : Hp} {a : Addr} {C : Value} {od : Option Addr} {h : Heap} (f : Yow N H a C od h) (i : ∀ b, N b -> N' b) : Yow N' H a C od h := by
 obtain ⟨n, e, oe, vs, h1, h2, h3, h4, h5⟩ := f
 refine ⟨i a n, e, oe, vs, h1, h2, h3, h4, ?_⟩
 rcases h5 with h5 | ⟨T, oT, ts, g1, g2, g3⟩
 ·exact .inl h5
 ·exact .inr ⟨T, oT, ts, g1, i T g2, g3⟩
def Nw (X : Cx) (pins : LAO) (b : Addr) : Prop := (b ∈ X.ex \/ X.s₀.heap.get? b = none) /\ ∀ p ∈ X.pn ++ pins, p.1 ≠ b
def Fly (X : Cx) (pins : LAO) (x : Xc) (a : Addr) (as : List Addr) (H : Hp) (s : Shared) : Prop :=
 ∃ C od, nsIn X.K mainGlobals x.1 = some (some (.ref C)) /\ Yow (Nw X pins) H a (.ref C) od s.heap /\ Yoh X.K as H od x.2
def XOk (X : Cx) (as : List Addr) (H : Hp) (ρ : Rho) (k : Xc) (st' : Yls) : Prop :=
 ∀ (pins : LAO) (σ' : St) (s' : Shared) (as' : List Addr) (H' : Hp) (a : Addr), Inv X pins σ' H' s' -> YlM X.K as' H' ρ σ' -> Ext as H as' H' -> Rep X.K as' st' H' -> Fly X pins k a as' H' s' -> X.xe (.ref a) s'
theorem XOk.ext {X : Cx} {as as1 : List Addr} {H H1 : Hp} {ρ : Rho} {k : Xc} {st' : Yls} (x : Ext as H as1 H1) (h : XOk X as H ρ k st') : XOk X as1 H1 ρ k st' :=
 fun pins σ' s' as' H' a I e y r q => h pins σ' s' as' H' a I e (x.trans y) r q
def YlJ (X : Cx) (as : List Addr) (H : Hp) (ρ : Rho) (r : R P) (Q : VK) : Prop :=
 match r with
 | .ok p st' => ∀ as' H' v, Ext as H as' H' -> Rep X.K as' st' H' -> Den X.K as' H' v p -> Q v H'
 | .exc k st' => XOk X as H ρ k st'
 | .bad => False
def Yl9 (X : Cx) (as : List Addr) (H : Hp) (ρ : Rho) (r : R Bool) (Q : Bool -> Hp -> Prop) : Prop :=
 match r with
 | .ok b st' => ∀ as' H', Ext as H as' H' -> Rep X.K as' st' H' -> Q b H'
 | .exc k st' => XOk X as H ρ k st'
 | .bad => False
def Ymc (X : Cx) (as : List Addr) (H : Hp) (ρ : Rho) (r : R (List P)) (Q : List V -> Hp -> Prop) : Prop :=
 match r with
 | .ok ps st' => ∀ as' H' vs, Ext as H as' H' -> Rep X.K as' st' H' -> Dens X.K as' H' vs ps -> Q vs H'
 | .exc k st' => XOk X as H ρ k st'
 | .bad => False
def YlW (X : Cx) (as : List Addr) (H : Hp) (ρ : Rho) (r : R (List P)) (Q : VK) : Prop :=
 match r with
 | .ok ps st' => ∀ as' H' l vs, Ext as H as' H' -> Rep X.K as' st' H' -> H' l = some (.lst vs) -> Yny as' st' l -> Dens X.K as' H' vs ps -> Q (.ref l) H'
 | .exc k st' => XOk X as H ρ k st'
 | .bad => False
def YlN (X : Cx) (as : List Addr) (H : Hp) (r : RS) (D : Ends) : Prop :=
 match r with
 | .nx ρ' st' => ∀ as' H' σ', Ext as H as' H' -> Rep X.K as' st' H' -> YlM X.K as' H' ρ' σ' -> D.nx σ' H'
 | .bk ρ' st' => ∀ as' H' σ', Ext as H as' H' -> Rep X.K as' st' H' -> YlM X.K as' H' ρ' σ' -> D.bk σ' H'
 | .ct ρ' st' => ∀ as' H' σ', Ext as H as' H' -> Rep X.K as' st' H' -> YlM X.K as' H' ρ' σ' -> D.ct σ' H'
 | .rt p st' => ∀ as' H' v, Ext as H as' H' -> Rep X.K as' st' H' -> Den X.K as' H' v p -> D.rt v H'
 | .exc k ρ' st' => XOk X as H ρ' k st'
 | .bad => False
def YlL (X : Cx) (as : List Addr) (H : Hp) (r : Option (P × Yls)) (Q : VK) : Prop :=
 match r with
 | some (p, st') => ∀ as' H' v, Ext as H as' H' -> Rep X.K as' st' H' -> Den X.K as' H' v p -> Q v H'
 | none => False
def tE (X : Cx) (m : ME) : TE := fun σ H Q => ∃ as ρ st, YlM X.K as H ρ σ /\ Rep X.K as st H /\ YlJ X as H ρ (m ρ st) Q
def tT (X : Cx) (m : MT) : TT := fun σ H Q => ∃ as ρ st, YlM X.K as H ρ σ /\ Rep X.K as st H /\ Yl9 X as H ρ (m ρ st) Q
def tA (X : Cx) (m : MA) : TA := fun σ H Q => ∃ as ρ st, YlM X.K as H ρ σ /\ Rep X.K as st H /\ Ymc X as H ρ (m ρ st) Q
def tL (X : Cx) (m : MA) : TE := fun σ H Q => ∃ as ρ st, YlM X.K as H ρ σ /\ Rep X.K as st H /\ YlW X as H ρ (m ρ st) Q
def tS (X : Cx) (m : MS) : TS := fun D σ H => ∃ as ρ st, YlM X.K as H ρ σ /\ Rep X.K as st H /\ YlN X as H (m ρ st) D
abbrev JE (X : Cx) (e : Expr) (m : ME) : Prop := PE X e (tE X m)
abbrev JT (X : Cx) (e : Expr) (m : MT) : Prop := PT X e (tT X m)
abbrev JA (X : Cx) (es : List Expr) (m : MA) : Prop := PA X es (tA X m)
abbrev JL (X : Cx) (e : Expr) (m : MA) : Prop := PE X e (tL X m)
abbrev JS (X : Cx) (s : Stmt) (m : MS) : Prop := PS X s (tS X m)
abbrev JSs (X : Cx) (ss : List Stmt) (m : MS) : Prop := PSs X ss (tS X m)
theorem PE.imp {X : Cx} {e : Expr} {t t' : TE} (h : PE X e t) (i : ∀ σ H Q, t' σ H Q -> t σ H Q) : PE X e t' := fun pins s σ H Q I q => h pins s σ H Q I (i σ H Q q)
theorem PT.imp {X : Cx} {e : Expr} {t t' : TT} (h : PT X e t) (i : ∀ σ H Q, t' σ H Q -> t σ H Q) : PT X e t' := fun pins s σ H Q I q => h pins s σ H Q I (i σ H Q q)
theorem PA.imp {X : Cx} {es : List Expr} {t t' : TA} (h : PA X es t) (i : ∀ σ H Q, t' σ H Q -> t σ H Q) : PA X es t' := fun pos pins s σ H Q I q => h pos pins s σ H Q I (i σ H Q q)
theorem PS.imp {X : Cx} {e : Stmt} {t t' : TS} (h : PS X e t) (i : ∀ D σ H, t' D σ H -> t D σ H) : PS X e t' := fun pins s σ H D I q => h pins s σ H D I (i D σ H q)
theorem PSs.imp {X : Cx} {e : List Stmt} {t t' : TS} (h : PSs X e t) (i : ∀ D σ H, t' D σ H -> t D σ H) : PSs X e t' := fun pins s σ H D I q => h pins s σ H D I (i D σ H q)
section
variable {X : Cx} {as as1 : List Addr} {H H1 : Hp} {ρ : Rho}
theorem YlJ.ext {r : R P} {Q : VK} (x : Ext as H as1 H1) (h : YlJ X as H ρ r Q) : YlJ X as1 H1 ρ r Q := by
 cases r with
 | ok p st' => exact fun as' H' v y => h as' H' v (x.trans y)
 | exc k st' => show 171
 | bad => exact h
theorem Yl9.ext {r : R Bool} {Q : Bool -> Hp -> Prop} (x : Ext as H as1 H1) (h : Yl9 X as H ρ r Q) : Yl9 X as1 H1 ρ r Q := by
 cases r with
 | ok p st' => exact fun as' H' y => h as' H' (x.trans y)
 | exc k st' => show 171
 | bad => exact h
theorem Ymc.ext {r : R (List P)} {Q : List V -> Hp -> Prop} (x : Ext as H as1 H1) (h : Ymc X as H ρ r Q) : Ymc X as1 H1 ρ r Q := by
 cases r with
 | ok p st' => exact fun as' H' vs y => h as' H' vs (x.trans y)
 | exc k st' => show 171
 | bad => exact h
theorem YlW.ext {r : R (List P)} {Q : VK} (x : Ext as H as1 H1) (h : YlW X as H ρ r Q) : YlW X as1 H1 ρ r Q := by
 cases r with
 | ok p st' => exact fun as' H' l vs y => h as' H' l vs (x.trans y)
 | exc k st' => show 171
 | bad => exact h
theorem YlN.ext {r : RS} {D : Ends} (x : Ext as H as1 H1) (h : YlN X as H r D) : YlN X as1 H1 r D := by
 cases r with
 | nx ρ' st' => exact fun as' H' σ' y => h as' H' σ' (x.trans y)
 | bk ρ' st' => exact fun as' H' σ' y => h as' H' σ' (x.trans y)
 | ct ρ' st' => exact fun as' H' σ' y => h as' H' σ' (x.trans y)
 | rt p st' => exact fun as' H' v y => h as' H' v (x.trans y)
 | exc k ρ' st' => show 171
 | bad => exact h
theorem YlJ.bindE {r : R P} {f : P -> Yls -> R P} {Q Q' : VK} (h : YlJ X as H ρ (r.bind f) Q)
 (go : ∀ p st1 as1 H1 v, Ext as H as1 H1 -> Rep X.K as1 st1 H1 -> Den X.K as1 H1 v p -> YlJ X as1 H1 ρ (f p st1) Q -> Q' v H1) : YlJ X as H ρ r Q' := by
 cases r with
 | ok p st1 => exact fun as1 H1 v x rp d => go p st1 as1 H1 v x rp d (YlJ.ext x h)
 | exc k st' => exact h
 | bad => exact h
theorem YlJ.bindA {r : R (List P)} {f : List P -> Yls -> R P} {Q : VK} {Q' : List V -> Hp -> Prop} (h : YlJ X as H ρ (r.bind f) Q)
 (go : ∀ ps st1 as1 H1 vs, Ext as H as1 H1 -> Rep X.K as1 st1 H1 -> Dens X.K as1 H1 vs ps -> YlJ X as1 H1 ρ (f ps st1) Q -> Q' vs H1) : Ymc X as H ρ r Q' := by
 cases r with
 | ok p st1 => exact fun as1 H1 v x rp d => go p st1 as1 H1 v x rp d (YlJ.ext x h)
 | exc k st' => exact h
 | bad => exact h
theorem YlJ.bindL {r : R (List P)} {f : List P -> Yls -> R P} {Q Q' : VK} (h : YlJ X as H ρ (r.bind f) Q)
 (go : ∀ ps st1 as1 H1 l vs, Ext as H as1 H1 -> Rep X.K as1 st1 H1 -> H1 l = some (.lst vs) -> Yny as1 st1 l -> Dens X.K as1 H1 vs ps -> YlJ X as1 H1 ρ (f ps st1) Q -> Q' (.ref l) H1) : YlW X as H ρ r Q' := by
 cases r with
 | ok p st1 => exact fun as1 H1 l v x rp hl nl d => go p st1 as1 H1 l v x rp hl nl d (YlJ.ext x h)
 | exc k st' => exact h
 | bad => exact h
theorem YlJ.bindB {r : R Bool} {f : Bool -> Yls -> R P} {Q : VK} {Q' : Bool -> Hp -> Prop} (h : YlJ X as H ρ (r.bind f) Q)
 (go : ∀ b st1 as1 H1, Ext as H as1 H1 -> Rep X.K as1 st1 H1 -> YlJ X as1 H1 ρ (f b st1) Q -> Q' b H1) : Yl9 X as H ρ r Q' := by
 cases r with
 | ok p st1 => exact fun as1 H1 x rp => go p st1 as1 H1 x rp (YlJ.ext x h)
 | exc k st' => exact h
 | bad => exact h
theorem Yl9.bindE {r : R P} {f : P -> Yls -> R Bool} {Q : Bool -> Hp -> Prop} {Q' : VK} (h : Yl9 X as H ρ (r.bind f) Q)
 (go : ∀ p st1 as1 H1 v, Ext as H as1 H1 -> Rep X.K as1 st1 H1 -> Den X.K as1 H1 v p -> Yl9 X as1 H1 ρ (f p st1) Q -> Q' v H1) : YlJ X as H ρ r Q' := by
 cases r with
 | ok p st1 => exact fun as1 H1 v x rp d => go p st1 as1 H1 v x rp d (Yl9.ext x h)
 | exc k st' => exact h
 | bad => exact h
theorem Yl9.bindB {r : R Bool} {f : Bool -> Yls -> R Bool} {Q : Bool -> Hp -> Prop} {Q' : Bool -> Hp -> Prop} (h : Yl9 X as H ρ (r.bind f) Q)
 (go : ∀ b st1 as1 H1, Ext as H as1 H1 -> Rep X.K as1 st1 H1 -> Yl9 X as1 H1 ρ (f b st1) Q -> Q' b H1) : Yl9 X as H ρ r Q' := by
 cases r with
 | ok p st1 => exact fun as1 H1 x rp => go p st1 as1 H1 x rp (Yl9.ext x h)
 | exc k st' => exact h
 | bad => exact h
theorem Ymc.bindE {r : R P} {f : P -> Yls -> R (List P)} {Q : List V -> Hp -> Prop} {Q' : VK} (h : Ymc X as H ρ (r.bind f) Q)
 (go : ∀ p st1 as1 H1 v, Ext as H as1 H1 -> Rep X.K as1 st1 H1 -> Den X.K as1 H1 v p -> Ymc X as1 H1 ρ (f p st1) Q -> Q' v H1) : YlJ X as H ρ r Q' := by
 cases r with
 | ok p st1 => exact fun as1 H1 v x rp d => go p st1 as1 H1 v x rp d (Ymc.ext x h)
 | exc k st' => exact h
 | bad => exact h
theorem Ymc.bindA {r : R (List P)} {f : List P -> Yls -> R (List P)} {Q : List V -> Hp -> Prop} {Q' : List V -> Hp -> Prop} (h : Ymc X as H ρ (r.bind f) Q)
 (go : ∀ p st1 as1 H1 v, Ext as H as1 H1 -> Rep X.K as1 st1 H1 -> Dens X.K as1 H1 v p -> Ymc X as1 H1 ρ (f p st1) Q -> Q' v H1) : Ymc X as H ρ r Q' := by
 cases r with
 | ok p st1 => exact fun as1 H1 v x rp d => go p st1 as1 H1 v x rp d (Ymc.ext x h)
 | exc k st' => exact h
 | bad => exact h
theorem YlW.bindE {r : R P} {f : P -> Yls -> R (List P)} {Q Q' : VK} (h : YlW X as H ρ (r.bind f) Q)
 (go : ∀ p st1 as1 H1 v, Ext as H as1 H1 -> Rep X.K as1 st1 H1 -> Den X.K as1 H1 v p -> YlW X as1 H1 ρ (f p st1) Q -> Q' v H1) : YlJ X as H ρ r Q' := by
 cases r with
 | ok p st1 => exact fun as1 H1 v x rp d => go p st1 as1 H1 v x rp d (YlW.ext x h)
 | exc k st' => exact h
 | bad => exact h
theorem YlW.bindA {r : R (List P)} {f : List P -> Yls -> R (List P)} {Q : VK} {Q' : List V -> Hp -> Prop} (h : YlW X as H ρ (r.bind f) Q)
 (go : ∀ p st1 as1 H1 v, Ext as H as1 H1 -> Rep X.K as1 st1 H1 -> Dens X.K as1 H1 v p -> YlW X as1 H1 ρ (f p st1) Q -> Q' v H1) : Ymc X as H ρ r Q' := by
 cases r with
 | ok p st1 => exact fun as1 H1 v x rp d => go p st1 as1 H1 v x rp d (YlW.ext x h)
 | exc k st' => exact h
 | bad => exact h
theorem YlW.bindL {r : R (List P)} {f : List P -> Yls -> R (List P)} {Q Q' : VK} (h : YlW X as H ρ (r.bind f) Q)
 (go : ∀ ps st1 as1 H1 l vs, Ext as H as1 H1 -> Rep X.K as1 st1 H1 -> H1 l = some (.lst vs) -> Yny as1 st1 l -> Dens X.K as1 H1 vs ps -> YlW X as1 H1 ρ (f ps st1) Q -> Q' (.ref l) H1) : YlW X as H ρ r Q' := by
 cases r with
 | ok p st1 => exact fun as1 H1 l v x rp hl nl d => go p st1 as1 H1 l v x rp hl nl d (YlW.ext x h)
 | exc k st' => exact h
 | bad => exact h
theorem YlJ.ofO {r : Option (P × Yls)} {Q : VK} (h : YlJ X as H ρ (ofO r) Q) : YlL X as H r Q := by
 cases r with
 | none => exact h
 | some p => exact h
end
end Mi
namespace Mi
open PySem PySem.Spec L2
open PyProof.Rows hiding St
def Ylr (i : Nat) : ME := fun ρ st => match ρ[i]? with
 | some (some p) => .ok p st
 | _ => .bad
def eC (p : P) : ME := fun _ st => .ok p st
section
variable {X : Cx} {a b c : Expr} {ma mb mc : ME} {pos : Pos}
theorem Yiu {i : Nat} (h : PE X a (Yo6 i)) : JE X a (Ylr i) := PE.imp h fun σ H Q ⟨as, ρ, st, en, rp, h⟩ => by
 unfold Ylr at h
 cases e : ρ[i]? with
 | none => rw [e] at h; exact h.elim
 | some o =>
  rw [e] at h
  cases o with
  | none => show 124
  | some p =>
   obtain ⟨v, h1, d⟩ := en.val i p e
   exact ⟨v, h1, h as H v Ext.refl rp d⟩
theorem jv (i : Nat) {x : Str} {pos : Pos} (hN : X.N[i]? = some x := by rfl) (hv : Vis X.env.scope x := by first | exact Or.inl rfl | exact Or.inr (Or.inl rfl) | exact Or.inr (Or.inr rfl)) (hd : (x == ("__debug__" : Str)) = false := by decide)
 (hcd : (x == ("__classdict__" : Str)) = false := by decide) : JE X (.Name x pos) (Ylr i) := Yiu (Yhf hN hv hd hcd)
theorem Vr {v : V} {p : P} (h : PE X a (tC v)) (d : ∀ K as H, Den K as H v p) : JE X a (eC p) := PE.imp h fun σ H Q ⟨as, ρ, st, en, rp, h⟩ => h as H v Ext.refl rp (d _ _ _)
theorem Yf {i j pos} : JE X (.Constant (.int i) j pos) (eC (.int i)) := Vr Ykh fun _ _ _ => .int
theorem Ve {b j pos} : JE X (.Constant (.bool b) j pos) (eC (.bl b)) := Vr Yld fun _ _ _ => .bl
theorem Yf2 {j pos} : JE X (.Constant .none j pos) (eC .non) := Vr Ykd fun _ _ _ => .non
theorem YW {x j pos} : JE X (.Constant (.str x) j pos) (eC (.str x)) := Vr Yj9 fun _ _ _ => .str
abbrev G2 := P -> P -> Yls -> Option (P × Yls)
def rM (X : Cx) (g : G2) : R2 := fun x y H Q => ∃ as st p q, Rep X.K as st H /\ Den X.K as H x p /\ Den X.K as H y q /\ YlL X as H (g p q st) Q
def Ylw (g : G2) (ma mb : ME) : ME := fun ρ st => (ma ρ st).bind fun p st1 => (mb ρ st1).bind fun q st2 => ofO (g p q st2)
theorem VT {g : G2} {σ : St} {H : Hp} {Q : VK} (h : tE X (Ylw g ma mb) σ H Q) : tOp (rM X g) (tE X ma) (tE X mb) σ H Q := by
 show 209
 exact ⟨as, ρ, st, en, rp, YlJ.bindE h fun p st1 as1 H1 v x rp1 d h1 => ⟨as1, ρ, st1, en.ext x, rp1, YlJ.bindE h1 fun q st2 as2 H2 u x2 rp2 d2 h2 => ⟨as2, st2, p, q, rp2, d.ext x2, d2, YlJ.ofO h2⟩⟩⟩
theorem Yi {op : Operator} {g : G2} (ho : OpR X (binaryOp op) (rM X g)) (ha : JE X a ma) (hb : JE X b mb) : JE X (.BinOp a op b pos) (Ylw g ma mb) :=
 PE.imp (YkR ho ha hb) fun _ _ _ h => VT h
theorem YcW {op : CmpOp} {g : G2} (ho : OpR X (compareOp op) (rM X g)) (ha : JE X a ma) (hb : JE X b mb) (hm : behindInMarks op b = false) : JE X (.Compare a [op] [b] pos) (Ylw g ma mb) :=
 PE.imp (Yie ho ha hb hm) fun _ _ _ h => VT h
def Yml (m : ME) : MT := fun ρ st => (m ρ st).bind fun p st1 => match p with
 | .bl c => .ok c st1
 | _ => .bad
theorem YjT {m : ME} {t : TE} (ht : ∀ σ H Q, tE X m σ H Q -> t σ H Q) {σ : St} {H : Hp} {Q : Bool -> Hp -> Prop} (h : tT X (Yml m) σ H Q) : YoQ t σ H Q := by
 show 209
 refine ht _ _ _ ⟨as, ρ, st, en, rp, Yl9.bindE h fun p st1 as1 H1 v x rp1 d h1 => ?_⟩
 cases d with
 | bl => exact ⟨_, rfl, h1 as1 H1 Ext.refl rp1⟩
 | _ => exact False.elim h1
theorem Zg {op : CmpOp} {g : G2} (ho : OpR X (compareOp op) (rM X g)) (ha : JE X a ma) (hb : JE X b mb) (hm : behindInMarks op b = false) : JT X (.Compare a [op] [b] pos) (Yml (Ylw g ma mb)) :=
 PT.imp (YiC ho ha hb hm) fun _ _ _ h => YjT (fun _ _ _ h => VT h) h
def Yno (g g' : G2) (ma mb mc : ME) : ME := fun ρ st => (ma ρ st).bind fun p st1 => (mb ρ st1).bind fun q st2 => (ofO (g p q st2)).bind fun z st3 => match z with
 | .bl k => if k = true then (mc ρ st3).bind fun r st4 => ofO (g' q r st4) else .ok (.bl false) st3
 | _ => .bad
theorem YeN {g g' : G2} {σ : St} {H : Hp} {Q : VK} (h : tE X (Yno g g' ma mb mc) σ H Q) : Yoo (rM X g) (rM X g') (tE X ma) (tE X mb) (tE X mc) σ H Q := by
 show 209
 refine ⟨as, ρ, st, en, rp, YlJ.bindE h fun p st1 as1 H1 v x rp1 d h1 => ⟨as1, ρ, st1, en.ext x, rp1, YlJ.bindE h1 fun q st2 as2 H2 u x2 rp2 d2 h2 => ⟨as2, st2, p, q, rp2, d.ext x2, d2, ?_⟩⟩⟩
 refine YlJ.ofO (ρ := ρ) (YlJ.bindE h2 fun z st3 as3 H3 w x3 rp3 d3 h3 => ?_)
 cases d3 with
 | bl =>
  rename_i k
  refine ⟨k, rfl, ?_⟩
  cases k with
  | true =>
   rw [ZAG rfl]
   exact ⟨as3, ρ, st3, ((en.ext x).ext x2).ext x3, rp3, YlJ.bindE h3 fun r st4 as4 H4 w' x4 rp4 d4 h4 => ⟨as4, st4, q, r, rp4, (d2.ext x3).ext x4, d4, YlJ.ofO h4⟩⟩
  | false =>
   rw [ZAF ZAN]
   exact h3 as3 H3 _ Ext.refl rp3 .bl
 | _ => exact False.elim h3
theorem Yca {op op' : CmpOp} {g g' : G2} (ho : OpR X (compareOp op) (rM X g)) (ho' : OpR X (compareOp op') (rM X g')) (ha : JE X a ma) (hb : JE X b mb) (hc : JE X c mc)
 (hm : lastMarks [op, op'] [b, c] = false := by with_unfolding_all rfl) : JE X (.Compare a [op, op'] [b, c] pos) (Yno g g' ma mb mc) := PE.imp (Yfb ho ho' ha hb hc hm) fun _ _ _ h => YeN h
variable {na nb : MT} {rest : List Expr}
abbrev JW (X : Cx) (e : Expr) (m : MT) : Prop := PW X e (tT X m)
theorem PW.imp {e : Expr} {t t' : TT} (h : PW X e t) (i : ∀ σ H Q, t' σ H Q -> t σ H Q) : PW X e t' := fun wh pins s σ H Q I q => h wh pins s σ H Q I (i σ H Q q)
def Yn4 (na nb : MT) : MT := fun ρ st => (na ρ st).bind fun c st1 => if c = true then nb ρ st1 else .ok false st1
def YoX (na nb : MT) : MT := fun ρ st => (na ρ st).bind fun c st1 => if c = true then .ok true st1 else nb ρ st1
def YmC (na : MT) : MT := fun ρ st => (na ρ st).bind fun c st1 => .ok (!c) st1
theorem YdI (ha : JT X a na) : JW X (.BoolOp .And [a] pos) na := YhV ha
theorem Yjy (ha : JT X a na) : JW X (.BoolOp .Or [a] pos) na := Yjf ha
theorem Yfv (ha : JT X a na) (hb : JW X (.BoolOp .And (b :: rest) pos) nb) : JW X (.BoolOp .And (a :: b :: rest) pos) (Yn4 na nb) :=
 PW.imp (Ykn ha hb) fun σ H Q ⟨as, ρ, st, en, rp, h⟩ => ⟨as, ρ, st, en, rp, Yl9.bindB h fun c st1 as1 H1 x rp1 h1 => by
  cases c with
  | true => rw [ZAG rfl] at h1 ⊢; exact ⟨as1, ρ, st1, en.ext x, rp1, h1⟩
  | false => rw [ZAF ZAN] at h1 ⊢; exact h1 as1 H1 Ext.refl rp1⟩
theorem YkE (ha : JT X a na) (hb : JW X (.BoolOp .Or (b :: rest) pos) nb) : JW X (.BoolOp .Or (a :: b :: rest) pos) (YoX na nb) :=
 PW.imp (YkD ha hb) fun σ H Q ⟨as, ρ, st, en, rp, h⟩ => ⟨as, ρ, st, en, rp, Yl9.bindB h fun c st1 as1 H1 x rp1 h1 => by
  cases c with
  | false => rw [ZAF ZAN] at h1 ⊢; exact ⟨as1, ρ, st1, en.ext x, rp1, h1⟩
  | true => rw [ZAG rfl] at h1 ⊢; exact h1 as1 H1 Ext.refl rp1⟩
theorem Jr (ha : JT X a na) : JT X (.UnaryOp .Not a pos) (YmC na) :=
 PT.imp (YjJ ha) fun σ H Q ⟨as, ρ, st, en, rp, h⟩ => ⟨as, ρ, st, en, rp, Yl9.bindB h fun c st1 as1 H1 x rp1 h1 => h1 as1 H1 Ext.refl rp1⟩
def YoD (ma mb : ME) : ME := fun ρ st => (ma ρ st).bind fun p st1 => match p with
 | .bl c => if c = true then mb ρ st1 else .ok (.bl false) st1
 | _ => .bad
def eOr (ma mb : ME) : ME := fun ρ st => (ma ρ st).bind fun p st1 => match p with
 | .bl c => if c = true then .ok (.bl true) st1 else mb ρ st1
 | _ => .bad
def Yp0 (ma : ME) : ME := fun ρ st => (ma ρ st).bind fun p st1 => match p with
 | .bl c => .ok (.bl (!c)) st1
 | _ => .bad
theorem YjD {op} (h : JE X a ma) : JE X (.BoolOp op [a] pos) ma := Ykr h
theorem Yjp (ha : JE X a ma) (hb : JE X (.BoolOp .And (b :: rest) pos) mb) : JE X (.BoolOp .And (a :: b :: rest) pos) (YoD ma mb) :=
 PE.imp (Yjn ha hb) fun σ H Q ⟨as, ρ, st, en, rp, h⟩ => ⟨as, ρ, st, en, rp, YlJ.bindE h fun p st1 as1 H1 v x rp1 d h1 => by
  cases d with
  | bl =>
   rename_i c
   refine ⟨c, rfl, ?_⟩
   cases c with
   | true => exact ⟨as1, ρ, st1, en.ext x, rp1, h1⟩
   | false => exact h1 as1 H1 _ Ext.refl rp1 .bl
  | _ => exact False.elim h1⟩
def eIf (nc : MT) (ma mb : ME) : ME := fun ρ st => (nc ρ st).bind fun c st1 => if c = true then ma ρ st1 else mb ρ st1
def cap : Nat := 1000000
def YnB (p : P) (st : Yls) : Option Bool := match p with
 | .non => some false
 | .bl b => some b
 | .int i => some (i != 0)
 | .str x => if x.length <= cap then some (decide (x.length ≠ 0)) else none
 | .tup xs => some (!xs.isEmpty)
 | .ref k => match st[k]? with
  | some (.lst xs) => some (!xs.isEmpty)
  | some (.ro xs) => some (!xs.isEmpty)
  | some (.dct kvs) => some (!kvs.isEmpty)
  | _ => none
def Ymq (m : ME) : MT := fun ρ st => (m ρ st).bind fun p st1 => match YnB p st1 with
 | some c => .ok c st1
 | none => .bad
theorem Yp : cap <= sizeLine := by rw [sizeLine_eq]; decide
theorem Dens.isEmpty {K : Frag} {as : List Addr} {H : Hp} {vs : List V} {ps : List P} (h : Dens K as H vs ps) : vs.isEmpty = ps.isEmpty := by cases h <;> rfl
theorem ZI {K : Frag} {H : Hp} {a : Addr} {vs : List V} (h : (∃ o, H a = some (.frz o (.lst vs))) \/ ∃ (o : Obj) (its : Array Value) (n : Nat), K.lookup a = some o /\ o.cls = .type "list" /\ o.dict = none /\ o.data = .seq its n /\ its.size <= sizeLine /\ Vals vs its.toList) : SqL K H a vs := by
 rcases h with h | h
 ·exact .inl (.inr h)
 ·exact .inr h
theorem Yij {K : Frag} {as : List Addr} {st : Yls} {H : Hp} {v : V} {p : P} {k : Bool} (rp : Rep K as st H) (d : Den K as H v p) (h : YnB p st = some k) : YoW K v H k := by
 cases d with
 | non => cases h; rfl
 | bl => cases h; rfl
 | int => cases h; rfl
 | str =>
  rename_i x
  unfold YnB at h
  dsimp only at h
  by_cases hx : x.length <= cap
  ·rw [ZAG hx] at h
   refine ⟨ZAR hx Yp, ?_⟩
   rw [<- Option.some.inj h]
   by_cases hz : x.length = 0
   ·simp [hz]
   ·have : ((x.length : Int) != 0) = true := by simp; omega
    rw [this]; simp [hz]
  ·rw [ZAF hx] at h; cases h
 | ref e =>
  rename_i j a
  unfold YnB at h
  dsimp only at h
  cases q : st[j]? with
  | none => show 152
  | some o =>
   rw [q] at h
   have r := rp.ob j a o e q
   cases o with
   | lst xs => obtain ⟨vs, h1, h2⟩ := r; exact .inl ⟨vs, .of h1, by rw [h2.isEmpty]; exact (Option.some.inj h).symm⟩
   | ro xs => obtain ⟨vs, h1, h2⟩ := r; exact .inl ⟨vs, ZI h1, by rw [h2.isEmpty]; exact (Option.some.inj h).symm⟩
   | dct kvs =>
    obtain ⟨ws, h1, h2, h3⟩ := r
    refine .inr (.inr ⟨ws, h1, ?_⟩)
    rw [<- Option.some.inj h]
    have := ZBK List.length h2
    cases ws <;> cases kvs <;> first | rfl | simp at this
   | exc c fs => cases h
   | dtt kvs => cases h
   | fdc kvs => cases h
 | @tup a vs ps e r tk =>
  exact .inr (.inl ⟨_, e, by rw [r.isEmpty]; exact (Option.some.inj h).symm⟩)
theorem Zt (ha : JE X a ma) (he : ∀ whole, isTrue a X.env whole = (do let v <- whole; standAt a.pos; holding [v] (truthy v))) : JT X a (Ymq ma) :=
 PT.imp (YfH ha he) fun σ H Q ⟨as, ρ, st, en, rp, h⟩ => ⟨as, ρ, st, en, rp, Yl9.bindE h fun p st1 as1 H1 v x rp1 d h1 => by
  cases q : YnB p st1 with
  | none => rw [q] at h1; exact False.elim h1
  | some k => rw [q] at h1; exact ⟨k, Yij rp1 d q, h1 as1 H1 Ext.refl rp1⟩⟩
variable {e : Expr} {es : List Expr} {me : ME} {mr : MA}
def YlA : MA := fun _ st => .ok [] st
def Ylt (me : ME) (mr : MA) : MA := fun ρ st => (me ρ st).bind fun p st1 => (mr ρ st1).bind fun ps st2 => .ok (p :: ps) st2
theorem Yc : JA X [] YlA := PA.imp YbF fun σ H Q ⟨as, ρ, st, en, rp, h⟩ => h as H [] Ext.refl rp .nil
theorem Ya (ha : JE X e me) (hr : JA X es mr) (hs : starEach (e :: es) X.env = (false, eval e X.env) :: starEach es X.env := by rfl) : JA X (e :: es) (Ylt me mr) :=
 PA.imp (Vb ha hr hs) fun σ H Q ⟨as, ρ, st, en, rp, h⟩ => ⟨as, ρ, st, en, rp, Ymc.bindE h fun p st1 as1 H1 v x rp1 d h1 =>
  ⟨as1, ρ, st1, en.ext x, rp1, Ymc.bindA h1 fun ps st2 as2 H2 vs x2 rp2 d2 h2 => h2 as2 H2 _ Ext.refl rp2 (.cons (d.ext x2) d2)⟩⟩
def Yoj (mr : MA) : ME := fun ρ st => (mr ρ st).bind fun ps st1 => if ps.length <= cap then .ok (.tup ps) st1 else .bad
theorem Ydi {x1} (h : JA X es mr) : JE X (.Tuple es x1 pos) (Yoj mr) :=
 PE.imp (Yky h) fun σ H Q ⟨as, ρ, st, en, rp, h⟩ => ⟨as, ρ, st, en, rp, YlJ.bindA h fun ps st1 as1 H1 vs x rp1 d h1 => by
  by_cases hl : ps.length <= cap
  ·rw [ZAG hl] at h1
   exact ⟨by rw [d.length]; exact ZAR hl Yp, fun p hp => h1 as1 _ _ (Ext.laid hp) (rp1.laid hp) (.tup (.of Yj) (d.ext (Ext.laid hp)))⟩
  ·rw [ZAF hl] at h1; exact False.elim h1⟩
def lMk (mr : MA) : MA := fun ρ st => (mr ρ st).bind fun ps st1 => if ps.length <= cap then .ok ps st1 else .bad
theorem Z4 (h : JA X es mr) : JL X (.List es pos) (lMk mr) :=
 PE.imp (Yi7 h) fun σ H Q ⟨as, ρ, st, en, rp, h⟩ => ⟨as, ρ, st, en, rp, by
  unfold lMk at h
  cases q : mr ρ st with
  | bad => show 148
  | exc k st' => show 148
  | ok ps st1 =>
   rw [q] at h
   intro as1 H1 vs x rp1 d
   by_cases hl : ps.length <= cap
   ·rw [R.bind_ok, ZAG hl] at h
    exact ⟨by rw [d.length]; exact ZAR hl Yp, fun p hp => h as1 _ p vs (x.trans (Ext.laid hp)) (rp1.laid hp) Yj (rp1.fresh hp) (d.ext (Ext.laid hp))⟩
   ·rw [R.bind_ok, ZAF hl] at h; exact False.elim h⟩
def YmN (m : MA) : ME := fun ρ st => (m ρ st).bind fun ps st1 => .ok (.ref st1.length) (st1 ++ [.lst ps])
theorem Y4 {m : MA} (h : JL X e m) : JE X e (YmN m) :=
 PE.imp h fun σ H Q ⟨as, ρ, st, en, rp, h⟩ => ⟨as, ρ, st, en, rp, YlJ.bindL h fun ps st1 as1 H1 l vs x rp1 hl fr d h1 =>
  h1 (as1 ++ [l]) H1 (.ref l) Ext.add (rp1.add fr ⟨vs, hl, d.ext Ext.add⟩) (.ref (by rw [<- rp1.len]; exact VL))⟩
end
section
variable {X : Cx}
theorem opM {f : Value -> Value -> Sem Value} {g : G2} (h : ∀ pins s σ H x y v u Q as st p q, Inv X pins σ H s -> RelV x v -> RelV y u -> Rep X.K as st H -> Den X.K as H x p -> Den X.K as H y q -> YlL X as H (g p q st) Q ->
 wpAny (model X.prog X.w) X.A (f v u) (EP X pins σ Q) X.xe s) : OpR X f (rM X g) :=
 fun pins s σ H x y v u Q I rx ry ⟨as, st, p, q, rp, d1, d2, po⟩ => h pins s σ H x y v u Q as st p q I rx ry rp d1 d2 po
def okP (p : P) (st : Yls) : Option (P × Yls) := some (p, st)
def YmT (xs : List P) (st : Yls) : Option (P × Yls) := if xs.length <= cap then some (.ref st.length, st ++ [.lst xs]) else none
def YlQ (st : Yls) (k : Nat) : Option (List P) := match st[k]? with
 | some (.lst xs) => some xs
 | _ => none
def Yl6 (p : P) (st : Yls) : Option (List P) := match p with
 | .tup xs => some xs
 | .ref k => match st[k]? with
  | some (.lst xs) => some xs
  | some (.ro xs) => some xs
  | _ => none
 | _ => none
theorem VV {K : Frag} {as : List Addr} {st : Yls} {H : Hp} {k : Nat} {xs : List P} {v : V} (rp : Rep K as st H) (d : Den K as H v (.ref k)) (h : YlQ st k = some xs) :
 ∃ a vs, v = .ref a /\ as[k]? = some a /\ st[k]? = some (.lst xs) /\ H a = some (.lst vs) /\ Dens K as H vs xs := by
 unfold YlQ at h
 cases d with
 | ref e =>
  rename_i a
  cases q : st[k]? with
  | none => show 152
  | some o =>
   rw [q] at h
   cases o with
   | lst ys =>
    cases h
    obtain ⟨vs, h1, h2⟩ := rp.ob k a _ e q
    exact ⟨a, vs, rfl, e, rfl, h1, h2⟩
   | ro ys => cases h
   | dct ys => cases h
   | exc c ys => cases h
   | dtt kvs => cases h
   | fdc kvs => cases h
theorem Yc3 {K : Frag} {as : List Addr} {st : Yls} {H : Hp} {p : P} {xs : List P} {v : V} (rp : Rep K as st H) (d : Den K as H v p) (h : Yl6 p st = some xs) :
 ∃ a vs, v = .ref a /\ (SqL K H a vs \/ SqT K H a vs) /\ Dens K as H vs xs := by
 unfold Yl6 at h
 cases d with
 | ref e =>
  rename_i k a
  simp only at h
  cases q : st[k]? with
  | none => show 152
  | some o =>
   rw [q] at h
   have ob := rp.ob k a _ e q
   cases o with
   | lst ys =>
    show 58
    exact ⟨a, vs, rfl, .inl (.of h1), h2⟩
   | ro ys =>
    show 58
    exact ⟨a, vs, rfl, .inl (ZI h1), h2⟩
   | dct ys => cases h
   | exc c ys => cases h
   | dtt kvs => cases h
   | fdc kvs => cases h
 | tup e r => cases h; exact ⟨_, _, rfl, .inr e, r⟩
 | _ => cases h
theorem Yiw {K : Frag} {as : List Addr} {st : Yls} {H : Hp} {p : P} {xs : List P} {v : V} (rp : Rep K as st H) (d : Den K as H v p) (h : Yl6 p st = some xs) :
 ∃ a vs, v = .ref a /\ (SqL K H a vs \/ SqT K H a vs /\ H a = some (.tup vs)) /\ Dens K as H vs xs := by
 unfold Yl6 at h
 cases d with
 | ref e =>
  rename_i k a
  simp only at h
  cases q : st[k]? with
  | none => show 152
  | some o =>
   rw [q] at h
   have ob := rp.ob k a _ e q
   cases o with
   | lst ys =>
    show 58
    exact ⟨a, vs, rfl, .inl (.of h1), h2⟩
   | ro ys =>
    show 58
    exact ⟨a, vs, rfl, .inl (ZI h1), h2⟩
   | dct ys => cases h
   | exc c ys => cases h
   | dtt kvs => cases h
   | fdc kvs => cases h
 | tup e r tk => cases h; exact ⟨_, _, rfl, .inr ⟨e, tk⟩, r⟩
 | _ => cases h
theorem WI {as : List Addr} {st : Yls} {H : Hp} {xs : List P} {vs : List V} {Q : VK} {l : Addr} (rp : Rep X.K as st H) (d : Dens X.K as H vs xs) (h : YlL X as H (YmT xs st) Q) (hl : H l = none) : Q (.ref l) (upd H l (.lst vs)) := by
 unfold YmT at h
 by_cases z : xs.length <= cap
 ·rw [ZAG z] at h
  exact h (as ++ [l]) _ _ (Ext.new hl) (rp.lnew hl d) (.ref (by rw [<- rp.len]; exact VL))
 ·rw [ZAF z] at h; exact h.elim
theorem Ycm {as : List Addr} {st : Yls} {H : Hp} {xs : List P} {Q : VK} (h : YlL X as H (YmT xs st) Q) : xs.length <= sizeLine := by
 unfold YmT at h
 by_cases z : xs.length <= cap
 ·exact ZAR z Yp
 ·rw [ZAF z] at h; exact h.elim
def Yl2 : G2 := fun p q st => match p, q with
 | .int i, .int j => okP (.int (i + j)) st
 | .str x, .str y => if x.length + y.length <= cap then okP (.str (x ++ y)) st else none
 | .tup xs, .tup ys => if xs.length + ys.length <= cap then okP (.tup (xs ++ ys)) st else none
 | .ref k, .ref l => match YlQ st k, YlQ st l with
  | some xs, some ys => YmT (xs ++ ys) st
  | _, _ => none
 | _, _ => none
theorem Yr : OpR X (binaryOp .Add) (rM X Yl2) := opM fun pins s σ H x y v u Q as st p q I rx ry rp d1 d2 h => by
 cases d1 with
 | int =>
  cases d2 with
  | int => exact YiY pins s σ H _ _ v u Q I rx ry ⟨_, _, rfl, rfl, h as H _ Ext.refl rp .int⟩
  | _ => show 124
 | str =>
  rename_i x
  cases d2 with
  | str =>
   rename_i y
   have h' : YlL X as H (if x.length + y.length <= cap then okP (.str (x ++ y)) st else none) Q := h
   by_cases z : x.length + y.length <= cap
   ·rw [ZAG z] at h'
    exact Ydd pins s σ H _ _ v u Q I rx ry ⟨_, _, rfl, rfl, ZAR z Yp, h' as H _ Ext.refl rp .str⟩
   ·show 185
  | _ => show 124
 | @tup a vs xs e r tk =>
  cases d2 with
  | @tup b ws ys e2 r2 tk =>
   have h' : YlL X as H (if xs.length + ys.length <= cap then okP (.tup (xs ++ ys)) st else none) Q := h
   by_cases z : xs.length + ys.length <= cap
   ·rw [ZAG z] at h'
    show 97
    obtain ⟨its, r1, p1, _⟩ := I.tuple e
    obtain ⟨its2, r3, p2, _⟩ := I.tuple e2
    obtain ⟨⟨cls, dd, data, sl⟩, ho, hc, n, hd⟩ := id p1
    obtain ⟨⟨cls2, dd2, data2, sl2⟩, ho2, hc2, n2, hd2⟩ := id p2
    simp only at hc hd hc2 hd2
    subst hc hd hc2 hd2
    by_cases hv : its = []
    ·have hz : xs = [] := List.eq_nil_of_length_eq_zero (by rw [<- r.length, r1.length, hv]; rfl)
     subst hz
     exact concat_meets ⟨_, ho, rfl⟩ ⟨_, ho2, rfl⟩ noFill_tuple_add seq_tuple_add PySem.F.slot_tuple_add PySem.F.entry_tuple_add (PySem.F.args_tuple_add_2 _ _)
      (tuple_addW0 a b its.toArray its2.toArray n n2 dd dd2 sl sl2 (by simp [hv])) ⟨ho, ho2, ⟨.ref b, H, I, rfl, h' as H _ Ext.refl rp (.tup e2 r2)⟩⟩
    ·refine YhQ pins s σ H (.ref a) (.ref b) _ _ Q I rfl rfl ⟨a, b, vs, ws, rfl, rfl, e, e2, fun w => hv (r1.nil_iff.mpr w), ?_, fun w => ?_, fun _ p hp => ?_⟩
     ·rw [r.length, r2.length]; exact ZAR z Yp
     ·subst w
      cases r2
      refine h' as H _ Ext.refl rp ?_
      rw [ZBd]
      exact .tup e r
     ·exact h' as _ _ (Ext.laid hp) (rp.laid hp) (.tup (.of Yj) ((r.append r2).ext (Ext.laid hp)))
   ·show 185
  | _ => show 124
 | ref e =>
  rename_i k a
  cases d2 with
  | ref e2 =>
   rename_i l b
   have h' : YlL X as H (match YlQ st k, YlQ st l with | some xs, some ys => YmT (xs ++ ys) st | _, _ => none) Q := h
   cases q1 : YlQ st k with
   | none => rw [q1] at h'; exact h'.elim
   | some xs =>
    cases q2 : YlQ st l with
    | none => rw [q1, q2] at h'; exact h'.elim
    | some ys =>
     rw [q1, q2] at h'
     obtain ⟨a', vs, z1, _, _, h1, h2⟩ := VV rp (.ref e) q1
     obtain ⟨b', ws, z2, _, _, h3, h4⟩ := VV rp (.ref e2) q2
     cases z1; cases z2
     have hn := Ycm h'
     rw [ZAH] at hn
     exact Yi2 pins s σ H _ _ v u Q I rx ry ⟨a, b, vs, ws, rfl, rfl, h1, h3, by rw [h2.length, h4.length]; exact hn, fun p hp => WI rp (h2.append h4) h' hp⟩
  | _ => show 124
 | _ => show 124
def YoH : G2 := fun p q st => match p, q with
 | .int i, .int j => okP (.int (i - j)) st
 | _, _ => none
theorem YfT : OpR X (binaryOp .Sub) (rM X YoH) := opM fun pins s σ H x y v u Q as st p q I rx ry rp d1 d2 h => by
 cases d1 with
 | int =>
  cases d2 with
  | int => exact Ykj pins s σ H _ _ v u Q I rx ry ⟨_, _, rfl, rfl, h as H _ Ext.refl rp .int⟩
  | _ => show 124
 | _ => show 124
def small64 (i : Int) : Bool := decide (-(2 ^ 64) < i) && decide (i < 2 ^ 64)
def Yo0 : G2 := fun p q st => match p, q with
 | .int i, .int j => if (small64 i || small64 j) = true then okP (.int (i * j)) st else none
 | _, _ => none
theorem Yju : OpR X (binaryOp .Mult) (rM X Yo0) := opM fun pins s σ H x y v u Q as st p q I rx ry rp d1 d2 h => by
 cases d1 with
 | int =>
  rename_i i
  cases d2 with
  | int =>
   rename_i j
   have h' : YlL X as H (if (small64 i || small64 j) = true then okP (.int (i * j)) st else none) Q := h
   by_cases z : (small64 i || small64 j) = true
   ·rw [ZAG z] at h'
    refine YjK pins s σ H _ _ v u Q I rx ry ⟨_, _, rfl, rfl, ?_, h' as H _ Ext.refl rp .int⟩
    unfold small64 at z
    rcases Bool.or_eq_true_iff.mp z with w | w
    ·exact .inl ⟨ZA9 (ZBI.mp w).1, ZA9 (ZBI.mp w).2⟩
    ·exact .inr ⟨ZA9 (ZBI.mp w).1, ZA9 (ZBI.mp w).2⟩
   ·show 185
  | _ => show 124
 | _ => show 124
def Ym4 : G2 := fun p q st => match p, q with
 | .int i, .int j => if 0 < j /\ j < 1073741824 then okP (.int (i / j)) st else none
 | _, _ => none
theorem WD : OpR X (binaryOp .FloorDiv) (rM X Ym4) := opM fun pins s σ H x y v u Q as st p q I rx ry rp d1 d2 h => by
 cases d1 with
 | int =>
  rename_i i
  cases d2 with
  | int =>
   rename_i j
   have h' : YlL X as H (if 0 < j /\ j < 1073741824 then okP (.int (i / j)) st else none) Q := h
   by_cases z : 0 < j /\ j < 1073741824
   ·rw [ZAG z] at h'
    exact YhC pins s σ H _ _ v u Q I rx ry ⟨_, _, rfl, rfl, z, h' as H _ Ext.refl rp .int⟩
   ·show 185
  | _ => show 124
 | _ => show 124
def Ymx : G2 := fun p q st => match p, q with
 | .int i, .int j => if 0 < j then okP (.int (i % j)) st else none
 | _, _ => none
theorem YF : OpR X (binaryOp .Mod) (rM X Ymx) := opM fun pins s σ H x y v u Q as st p q I rx ry rp d1 d2 h => by
 cases d1 with
 | int =>
  rename_i i
  cases d2 with
  | int =>
   rename_i j
   have h' : YlL X as H (if 0 < j then okP (.int (i % j)) st else none) Q := h
   by_cases z : 0 < j
   ·rw [ZAG z] at h'
    exact YjI pins s σ H _ _ v u Q I rx ry ⟨_, _, rfl, rfl, z, h' as H _ Ext.refl rp .int⟩
   ·show 185
  | _ => show 124
 | _ => show 124
def Ynh (x y : Str) : Bool := decide (x.cps.toList < y.cps.toList)
def ltP : G2 := fun p q st => match p, q with
 | .int i, .int j => okP (.bl (decide (i < j))) st
 | .str x, .str y => okP (.bl (Ynh x y)) st
 | _, _ => none
def leP : G2 := fun p q st => match p, q with
 | .int i, .int j => okP (.bl (decide (i <= j))) st
 | .str x, .str y => okP (.bl (!Ynh y x)) st
 | _, _ => none
def gtP : G2 := fun p q st => match p, q with
 | .int i, .int j => okP (.bl (decide (j < i))) st
 | _, _ => none
def geP : G2 := fun p q st => match p, q with
 | .int i, .int j => okP (.bl (decide (j <= i))) st
 | _, _ => none
theorem YiO : OpR X (compareOp .Lt) (rM X ltP) := opM fun pins s σ H x y v u Q as st p q I rx ry rp d1 d2 h => by
 cases d1 with
 | int =>
  cases d2 with
  | int => exact YkW pins s σ H _ _ v u Q I rx ry ⟨_, _, rfl, rfl, h as H _ Ext.refl rp .bl⟩
  | _ => show 124
 | str =>
  cases d2 with
  | str => exact YeA pins s σ H _ _ v u Q I rx ry ⟨_, _, rfl, rfl, h as H _ Ext.refl rp .bl⟩
  | _ => show 124
 | _ => show 124
theorem Ydw : OpR X (compareOp .LtE) (rM X leP) := opM fun pins s σ H x y v u Q as st p q I rx ry rp d1 d2 h => by
 cases d1 with
 | int =>
  cases d2 with
  | int => exact Yk6 pins s σ H _ _ v u Q I rx ry ⟨_, _, rfl, rfl, h as H _ Ext.refl rp .bl⟩
  | _ => show 124
 | str =>
  cases d2 with
  | str =>
   show 20
   exact PySem.P.le_str ⟨.bl _, H, I, rfl, h as H _ Ext.refl rp .bl⟩
  | _ => show 124
 | _ => show 124
theorem YkT : OpR X (compareOp .Gt) (rM X gtP) := opM fun pins s σ H x y v u Q as st p q I rx ry rp d1 d2 h => by
 cases d1 with
 | int =>
  cases d2 with
  | int => exact Yk8 pins s σ H _ _ v u Q I rx ry ⟨_, _, rfl, rfl, h as H _ Ext.refl rp .bl⟩
  | _ => show 124
 | _ => show 124
def Yov : P -> Bool
 | .non => true
 | _ => false
def isP : G2 := fun p q st => match q with
 | .non => okP (.bl (Yov p)) st
 | _ => none
theorem Yig {K : Frag} {as : List Addr} {H : Hp} {v : V} {p : P} (d : Den K as H v p) : decide (v = .non) = Yov p := by
 cases d <;> simp [Yov]
theorem YkO : OpR X (compareOp .Is) (rM X isP) := opM fun pins s σ H x y v u Q as st p q I rx ry rp d1 d2 h => by
 cases d2 with
 | non => exact Yjs pins s σ H _ _ v u Q I rx ry ⟨rfl, by rw [Yig d1]; exact h as H _ Ext.refl rp .bl⟩
 | _ => show 124
end
def RS.ofE {α : Type} (ρ : Rho) (r : R α) (f : α -> Yls -> RS) : RS := match r with
 | .ok p st => f p st
 | .exc k st => .exc k ρ st
 | .bad => .bad
@[simp] theorem RS.ofE_ok {α : Type} {ρ : Rho} {p : α} {st : Yls} {f : α -> Yls -> RS} : RS.ofE ρ (.ok p st) f = f p st := rfl
@[simp] theorem RS.ofE_exc {α : Type} {ρ : Rho} {k : Xc} {st : Yls} {f : α -> Yls -> RS} : RS.ofE ρ (.exc k st) f = .exc k ρ st := rfl
@[simp] theorem RS.ofE_bad {α : Type} {ρ : Rho} {f : α -> Yls -> RS} : RS.ofE ρ .bad f = .bad := rfl
def YmL : MS := fun ρ st => .nx ρ st
def RS.seq (r : RS) (m : MS) : RS := match r with
 | .nx ρ st => m ρ st
 | r => r
@[simp] theorem RS.seq_nx {ρ : Rho} {st : Yls} {m : MS} : (RS.nx ρ st).seq m = m ρ st := rfl
@[simp] theorem RS.seq_rt {p : P} {st : Yls} {m : MS} : (RS.rt p st).seq m = .rt p st := rfl
@[simp] theorem RS.seq_bk {ρ : Rho} {st : Yls} {m : MS} : (RS.bk ρ st).seq m = .bk ρ st := rfl
@[simp] theorem RS.seq_ct {ρ : Rho} {st : Yls} {m : MS} : (RS.ct ρ st).seq m = .ct ρ st := rfl
@[simp] theorem RS.seq_exc {k : Xc} {ρ : Rho} {st : Yls} {m : MS} : (RS.exc k ρ st).seq m = .exc k ρ st := rfl
@[simp] theorem RS.seq_bad {m : MS} : RS.bad.seq m = .bad := rfl
def YlF (m1 m2 : MS) : MS := fun ρ st => (m1 ρ st).seq m2
section
variable {X : Cx} {a b c e : Expr} {me ma : ME} {pos : Pos} {s : Stmt} {rest ss tt : List Stmt} {m m1 m2 : MS} {nc : MT}
theorem YlN.ofE {as : List Addr} {H : Hp} {ρ : Rho} {r : R P} {f : P -> Yls -> RS} {D : Ends} {Q' : VK} (h : YlN X as H (RS.ofE ρ r f) D)
 (go : ∀ p st1 as1 H1 v, Ext as H as1 H1 -> Rep X.K as1 st1 H1 -> Den X.K as1 H1 v p -> YlN X as1 H1 (f p st1) D -> Q' v H1) : YlJ X as H ρ r Q' := by
 cases r with
 | ok p st1 => exact fun as1 H1 v x rp d => go p st1 as1 H1 v x rp d (YlN.ext x h)
 | exc k st' => exact h
 | bad => exact h
theorem YlN.ofB {as : List Addr} {H : Hp} {ρ : Rho} {r : R Bool} {f : Bool -> Yls -> RS} {D : Ends} {Q' : Bool -> Hp -> Prop} (h : YlN X as H (RS.ofE ρ r f) D)
 (go : ∀ b st1 as1 H1, Ext as H as1 H1 -> Rep X.K as1 st1 H1 -> YlN X as1 H1 (f b st1) D -> Q' b H1) : Yl9 X as H ρ r Q' := by
 cases r with
 | ok p st1 => exact fun as1 H1 x rp => go p st1 as1 H1 x rp (YlN.ext x h)
 | exc k st' => exact h
 | bad => exact h
theorem YY : JSs X [] YmL := PSs.imp YiD fun D σ H ⟨as, ρ, st, en, rp, h⟩ => h as H σ Ext.refl rp en
theorem YlN.seq {as : List Addr} {H : Hp} {r : RS} {m : MS} {D : Ends} (h : YlN X as H (r.seq m) D) : YlN X as H r { D with nx := tS X m D } := by
 cases r with
 | nx ρ st => exact fun as' H' σ' x rp en => ⟨as', ρ, st, en, rp, YlN.ext x h⟩
 | rt p st => exact h
 | bk ρ st => exact h
 | ct ρ st => exact h
 | exc k ρ st => exact h
 | bad => exact h
theorem Yb (h1 : JS X s m1) (h2 : JSs X rest m2) : JSs X (s :: rest) (YlF m1 m2) :=
 PSs.imp (Yfu h1 h2) fun D σ H ⟨as, ρ, st, en, rp, h⟩ => ⟨as, ρ, st, en, rp, YlN.seq h⟩
theorem Ye (h1 : JS X s m1) : JSs X [s] m1 := Yh7 h1
def sRet (me : ME) : MS := fun ρ st => RS.ofE ρ (me ρ st) fun p st1 => .rt p st1
def Ypl : MS := fun _ st => .rt .non st
def Ym8 (me : ME) : MS := fun ρ st => RS.ofE ρ (me ρ st) fun _ st1 => .nx ρ st1
def YlS (i : Nat) (me : ME) : MS := fun ρ st => RS.ofE ρ (me ρ st) fun p st1 => .nx (ρ.set i (some p)) st1
def sIf (nc : MT) (m1 m2 : MS) : MS := fun ρ st => RS.ofE ρ (nc ρ st) fun c st1 => if c = true then m1 ρ st1 else m2 ρ st1
def Yo3 : MS := fun ρ st => .bk ρ st
def YpA : MS := fun ρ st => .ct ρ st
theorem Yn (he : JE X e me) : JS X (.Return (some e) pos) (sRet me) :=
 PS.imp (Yjr he) fun D σ H ⟨as, ρ, st, en, rp, h⟩ => ⟨as, ρ, st, en, rp, YlN.ofE h fun p st1 as1 H1 v x rp1 d h1 => h1 as1 H1 v Ext.refl rp1 d⟩
theorem WE (he : JE X e me) (hs : swapsWith e none pos.line X.env = pure false := by rfl) : JS X (.Expr e pos) (Ym8 me) :=
 PS.imp (Yid he hs) fun D σ H ⟨as, ρ, st, en, rp, h⟩ => ⟨as, ρ, st, en, rp, YlN.ofE h fun p st1 as1 H1 v x rp1 d h1 => h1 as1 H1 σ Ext.refl rp1 (en.ext x)⟩
theorem Ym {i : Nat} {x : Str} {pos' : Pos} (hN : X.N.Nodup) (hi : X.N[i]? = some x) (hx : Loc X.env.scope x) (he : JE X e me) (hs : swapsWith e (some (.Name x pos')) pos.line X.env = pure false := by rfl) (hf : X.fn x = true \/ X.env.scope.names.lookup x = some .local := by first | exact .inl rfl | exact .inr rfl | assumption) :
 JS X (.Assign [.Name x pos'] e pos) (YlS i me) :=
 PS.imp (YjY hN hi hx he hs hf) fun D σ H ⟨as, ρ, st, en, rp, h⟩ => ⟨as, ρ, st, en, rp, YlN.ofE h fun p st1 as1 H1 v x rp1 d h1 => h1 as1 H1 _ Ext.refl rp1 ((en.ext x).set d)⟩
theorem Zn (hc : JT X c nc) (h1 : JSs X ss m1) (h2 : JSs X tt m2) : JS X (.If c ss tt pos) (sIf nc m1 m2) :=
 PS.imp (Yk9 hc h1 h2) fun D σ H ⟨as, ρ, st, en, rp, h⟩ => ⟨as, ρ, st, en, rp, YlN.ofB h fun k st1 as1 H1 x rp1 h1 => by
  cases k with
  | true => rw [ZAG rfl] at h1 ⊢; exact ⟨as1, ρ, st1, en.ext x, rp1, h1⟩
  | false => rw [ZAF ZAN] at h1 ⊢; exact ⟨as1, ρ, st1, en.ext x, rp1, h1⟩⟩
def YmP (nc : MT) (m : MS) : Nat -> Rho -> Yls -> RS
 | 0, _, _ => .bad
 | n + 1, ρ, st => RS.ofE ρ (nc ρ st) fun c st1 => if c = true then
  match m ρ st1 with
  | .nx ρ' st' => YmP nc m n ρ' st'
  | .ct ρ' st' => YmP nc m n ρ' st'
  | .bk ρ' st' => .nx ρ' st'
  | r => r
  else .nx ρ st1
def turns : Nat := 1000000
def YnZ (nc : MT) (m : MS) : MS := YmP nc m turns
theorem YfM {pos : Pos} (hp : PassesOwn (model X.prog X.w) X.A X.env X.xe) (hc : JT X c nc) (hb : JSs X ss m) : JS X (.While c ss [] pos) (YnZ nc m) :=
 PS.imp (Yfg hp hc hb) fun D σ H ⟨as, ρ, st, en, rp, h⟩ => by
  refine ⟨fun n σ H => ∃ as ρ st, YlM X.K as H ρ σ /\ Rep X.K as st H /\ YlN X as H (YmP nc m n ρ st) D, ⟨turns, as, ρ, st, en, rp, h⟩, ?_⟩
  rintro n σ H ⟨as, ρ, st, en, rp, h⟩
  cases n with
  | zero => show 124
  | succ n =>
   refine ⟨as, ρ, st, en, rp, YlN.ofB h fun k st1 as1 H1 x rp1 h1 => ?_⟩
   cases k with
   | false => rw [ZAF ZAN] at h1 ⊢; exact h1 as1 H1 σ Ext.refl rp1 (en.ext x)
   | true =>
    rw [ZAG rfl] at h1 ⊢
    refine ⟨fun σ' H' => ∃ as ρ st, YlM X.K as H' ρ σ' /\ Rep X.K as st H' /\ YlN X as H' (YmP nc m n ρ st) D, fun σ' H' q => ⟨n, ZAz n, q⟩, as1, ρ, st1, en.ext x, rp1, ?_⟩
    cases q : m ρ st1 with
    | nx ρ' st' => rw [q] at h1; exact fun as' H' σ' x rp en => ⟨as', ρ', st', en, rp, YlN.ext x h1⟩
    | ct ρ' st' => rw [q] at h1; exact fun as' H' σ' x rp en => ⟨as', ρ', st', en, rp, YlN.ext x h1⟩
    | bk ρ' st' => rw [q] at h1; exact h1
    | rt p st' => rw [q] at h1; exact h1
    | exc k ρ' st' => rw [q] at h1; exact h1
    | bad => rw [q] at h1; exact h1
abbrev MG := P -> Rho -> Yls -> Option Rho
abbrev MGs := List P -> Rho -> Yls -> Option Rho
def tG (X : Cx) (g : MG) : TG := fun v σ H Q => ∃ as ρ st p ρ', YlM X.K as H ρ σ /\ Rep X.K as st H /\ Den X.K as H v p /\ g p ρ st = some ρ' /\ ∀ σ', YlM X.K as H ρ' σ' -> Q σ' H
def tGs (X : Cx) (g : MGs) : TGs := fun vs σ H Q => ∃ as ρ st ps ρ', YlM X.K as H ρ σ /\ Rep X.K as st H /\ Dens X.K as H vs ps /\ g ps ρ st = some ρ' /\ ∀ σ', YlM X.K as H ρ' σ' -> Q σ' H
abbrev JG (X : Cx) (t : Expr) (g : MG) : Prop := PG X t (tG X g)
abbrev JGs (X : Cx) (ts : List Expr) (g : MGs) : Prop := PGs X ts (tGs X g)
theorem PG.imp {t t' : TG} (h : PG X e t) (i : ∀ v σ H Q, t' v σ H Q -> t v σ H Q) : PG X e t' := fun pins s σ H v u Q I r q => h pins s σ H v u Q I r (i v σ H Q q)
theorem PGs.imp {es : List Expr} {t t' : TGs} (h : PGs X es t) (i : ∀ v σ H Q, t' v σ H Q -> t v σ H Q) : PGs X es t' := fun pins s σ H v u Q I r q => h pins s σ H v u Q I r (i v σ H Q q)
def Ylv (i : Nat) : MG := fun p ρ _ => some (ρ.set i (some p))
def Ymo : MGs := fun ps ρ _ => match ps with
 | [] => some ρ
 | _ => none
def YlP (g : MG) (r : MGs) : MGs := fun ps ρ st => match ps with
 | p :: qs => (g p ρ st).bind fun ρ1 => r qs ρ1 st
 | [] => none
theorem Yl {i : Nat} {x : Str} (hN : X.N.Nodup) (hi : X.N[i]? = some x) (hx : Loc X.env.scope x) (hf : X.fn x = true \/ X.env.scope.names.lookup x = some .local := by first | exact .inl rfl | exact .inr rfl | assumption) : JG X (.Name x pos) (Ylv i) :=
 PG.imp (Yic hN hi hx hf) fun v σ H Q ⟨as, ρ, st, p, ρ', en, rp, d, g, h⟩ => by cases g; exact h _ (en.set d)
theorem Z8 : JGs X [] Ymo := PGs.imp YiJ fun vs σ H Q ⟨as, ρ, st, ps, ρ', en, rp, d, g, h⟩ => by
 cases d with
 | nil => cases g; exact ⟨rfl, h _ en⟩
 | cons a b => cases g
theorem Yx {es : List Expr} {g : MG} {r : MGs} (h1 : JG X e g) (h2 : JGs X es r) (hs : (assignEach (e :: es) X.env).map (·.2) = assign e X.env :: (assignEach es X.env).map (·.2) := by rfl) : JGs X (e :: es) (YlP g r) :=
 PGs.imp (Ye9 h1 h2 hs) fun vs σ H Q ⟨as, ρ, st, ps, ρ', en, rp, d, q, h⟩ => by
  cases d with
  | nil => cases q
  | @cons v p vs ps a b =>
   have q' : (g p ρ st).bind (fun ρ1 => r ps ρ1 st) = some ρ' := q
   cases z : g p ρ st with
   | none => rw [z] at q'; cases q'
   | some ρ1 =>
    rw [z] at q'
    exact ⟨v, vs, rfl, as, ρ, st, p, ρ1, en, rp, a, z, fun σ' en' => ⟨as, ρ1, st, ps, ρ', en', rp, b, q', h⟩⟩
structure Src where
 n : Nat
 nx : Nat -> Yls -> Option (Option P)
abbrev MI := Rho -> Yls -> R Src
structure YnH (K : Frag) (as : List Addr) (H : Hp) (src : Src) (J : It) : Prop where
 go : ∀ i as2 st2 H2 p, Ext as H as2 H2 -> Rep K as2 st2 H2 -> src.nx i st2 = some (some p) -> J.go i H2 /\ ∀ x H3, J.yld i H2 x H3 -> Ext as2 H2 as2 H3 /\ Rep K as2 st2 H3 /\ Den K as2 H3 x p
 stop : ∀ i as2 st2 H2, Ext as H as2 H2 -> Rep K as2 st2 H2 -> src.nx i st2 = some none -> J.stop i H2
def Yl1 (X : Cx) (as : List Addr) (H : Hp) (ρ : Rho) (r : R Src) (Q : It -> Hp -> Prop) : Prop :=
 match r with
 | .ok src st' => ∀ as' H' J, Ext as H as' H' -> Rep X.K as' st' H' -> YnH X.K as' H' src J -> Q J H'
 | .exc k st' => XOk X as H ρ k st'
 | .bad => False
def tI (X : Cx) (m : MI) : TI := fun σ H R => ∃ as ρ st, YlM X.K as H ρ σ /\ Rep X.K as st H /\ Yl1 X as H ρ (m ρ st) R
abbrev JI (X : Cx) (tg iter : Expr) (m : MI) : Prop := PI X tg iter (tI X m)
def Ymg (src : Src) (g : MG) (m : MS) : Nat -> Nat -> Rho -> Yls -> RS
 | 0, i, ρ, st => match src.nx i st with
  | some none => .nx ρ st
  | _ => .bad
 | n + 1, i, ρ, st => match src.nx i st with
  | some none => .nx ρ st
  | none => .bad
  | some (some p) => match g p ρ st with
   | none => .bad
   | some ρ1 => match m ρ1 st with
    | .nx ρ' st' => Ymg src g m n (i + 1) ρ' st'
    | .ct ρ' st' => Ymg src g m n (i + 1) ρ' st'
    | .bk ρ' st' => .nx ρ' st'
    | r => r
def YmB (mi : MI) (g : MG) (m : MS) : MS := fun ρ st => RS.ofE ρ (mi ρ st) fun src st1 => Ymg src g m src.n 0 ρ st1
theorem Y3 {tg iter : Expr} {mi : MI} {g : MG} {pos : Pos} (hp : PassesOwn (model X.prog X.w) X.A X.env X.xe) (hc : X.calm = true) (hi : JI X tg iter mi) (hg : JG X tg g) (hb : JSs X ss m)
 (hs : ∀ x, foldedSetIterable iter X.env x = pure x := by intro _; rfl) : JS X (.For tg iter ss [] pos) (YmB mi g m) :=
 PS.imp (Yi5 hp hc hi hg hb hs) fun D σ H ⟨as, ρ, st, en, rp, h⟩ => by
  refine ⟨as, ρ, st, en, rp, ?_⟩
  unfold YmB at h
  cases q : mi ρ st with
  | bad => show 148
  | exc k st' => show 148
  | ok src st1 =>
   rw [q] at h
   intro as1 H1 J x rp1 ok
   have h1 : YlN X as1 H1 (Ymg src g m src.n 0 ρ st1) D := YlN.ext x h
   refine ⟨fun i n σ H => ∃ as ρ st, Ext as1 H1 as H /\ YlM X.K as H ρ σ /\ Rep X.K as st H /\ YlN X as H (Ymg src g m n i ρ st) D, ⟨src.n, as1, ρ, st1, Ext.refl, en.ext x, rp1, h1⟩, ?_⟩
   rintro i n σ H ⟨as2, ρ, st2, x2, en, rp2, h⟩
   have stopC : src.nx i st2 = some none -> YlN X as2 H (.nx ρ st2) D -> J.stop i H /\ D.nx σ H := fun e p => ⟨ok.stop i as2 st2 H x2 rp2 e, p as2 H σ Ext.refl rp2 en⟩
   cases n with
   | zero =>
    cases e : src.nx i st2 with
    | none => simp only [Ymg, e] at h; exact h.elim
    | some o =>
     cases o with
     | some p => simp only [Ymg, e] at h; exact h.elim
     | none => simp only [Ymg, e] at h; exact .inl (stopC e h)
   | succ n =>
    cases e : src.nx i st2 with
    | none => simp only [Ymg, e] at h; exact h.elim
    | some o =>
     cases o with
     | none => simp only [Ymg, e] at h; exact .inl (stopC e h)
     | some p =>
      obtain ⟨g1, g2⟩ := ok.go i as2 st2 H p x2 rp2 e
      cases z : g p ρ st2 with
      | none => simp only [Ymg, e, z] at h; exact h.elim
      | some ρ1 =>
       simp only [Ymg, e, z] at h
       refine .inr ⟨g1, fun σ' H' => ∃ as ρ st, Ext as1 H1 as H' /\ YlM X.K as H' ρ σ' /\ Rep X.K as st H' /\ YlN X as H' (Ymg src g m n (i + 1) ρ st) D, fun σ' H' q => ⟨n, ZAz n, q⟩, fun v H3 y => ?_⟩
       obtain ⟨x3, rp3, d⟩ := g2 v H3 y
       refine ⟨as2, ρ, st2, p, ρ1, en.ext x3, rp3, d, z, fun σ2 en2 => ⟨as2, ρ1, st2, en2, rp3, ?_⟩⟩
       have h := YlN.ext x3 h
       cases w : m ρ1 st2 with
       | nx ρ' st' => rw [w] at h; exact fun as' H' σ' x4 rp en => ⟨as', ρ', st', (x2.trans x3).trans x4, en, rp, YlN.ext x4 h⟩
       | ct ρ' st' => rw [w] at h; exact fun as' H' σ' x4 rp en => ⟨as', ρ', st', (x2.trans x3).trans x4, en, rp, YlN.ext x4 h⟩
       | bk ρ' st' => rw [w] at h; exact h
       | rt p st' => rw [w] at h; exact h
       | exc k ρ' st' => rw [w] at h; exact h
       | bad => rw [w] at h; exact h
end
def ItR (X : Cx) (tg : Expr) (r : V -> Hp -> (It -> Hp -> Prop) -> Prop) : Prop :=
 ∀ (pins : LAO) (s : Shared) (σ : St) (H : Hp) (x : V) (v : Value) (R : It -> Hp -> Prop), Inv X pins σ H s -> RelV x v -> r x H R -> wpAny (model X.prog X.w) X.A (pyIter v) (PIE X pins σ tg R) X.xe s
def Its (z : Str) : It := ⟨fun i _ => i < z.cps.size, fun i H x H' => H' = H /\ ∃ c, z.cps[i]? = some c /\ x = .str ⟨#[c]⟩, fun i _ => i = z.cps.size⟩
section
variable {X : Cx} {tg : Expr}
theorem Yix : ItR X tg (fun x H R => ∃ a, x = .ref a /\ (∃ xs, SqL X.K H a xs) /\ R (Itl X.K a) H) := by
 show 217
 obtain ⟨a, rfl, ⟨xs, hq⟩, q⟩ := h
 cases rx
 obtain ⟨its, rv, p, hz⟩ := I.list hq
 refine ZBz p.isList ?_
 refine ⟨s.heap.objs.size, [s.heap.objs.size], _, _, H, rfl, I.kept (t' := s.toks) fun b o e => ZAC _ e, YeG a _, ⟨_, ZAK _ rfl, rfl, rfl⟩, fun b hb => ?_, q⟩
 show 53
theorem Yku : ItR X tg (fun x H R => ∃ a, x = .ref a /\ (∃ xs, SqT X.K H a xs) /\ R (Itt X.K a) H) := by
 show 217
 obtain ⟨a, rfl, ⟨xs, hq⟩, q⟩ := h
 cases rx
 obtain ⟨its, rv, p, hz⟩ := I.tuple hq
 refine wpAny_pyIter_tuple (show s.heap.IsTuple a its.toArray from p) ?_
 refine ⟨s.heap.objs.size, [s.heap.objs.size], _, _, H, rfl, I.kept (t' := s.toks) fun b o e => ZAC _ e, YcB a _, ⟨_, ZAK _ rfl, rfl, rfl⟩, fun b hb => ?_, q⟩
 show 53
theorem Yci {P : Program} {w : World} {K : Frag} {n : String} {z : Str} {t : Tok} (it : Addr)
 (hn : ["enumerate", "zip", "dict_itemiterator", "dict_reverseitemiterator", "odict_iterator", "itertools.zip_longest", "itertools.pairwise"].contains n = false)
 (W : ∀ A : Around, A.handled = none -> Walks P w A it [it] [it] z.cps.size (SignAt z) (fun i h => h.IsStrIter it n z t i))
 (sf : ∀ (A : Around) (i : Nat) (s : Shared) (Q : VSP) (E : VSP), s.heap.IsStrIter it n z t i -> Q (.ref it) s -> wpAny (model P w) A (pyIter (.ref it)) Q E s) : Turn P w K tg (Its z) [it] it (fun i h => h.IsStrIter it n z t i) where
 mem := by simp
 obj := fun i h st b hb => by
  show 63
 keep := fun i h h' st k => by
  obtain ⟨o, e, r⟩ := st
  exact ⟨o, k it (by simp) o e, r⟩
 item := by
  show 70
  refine (W X.A (I.ok.hd hc)).item i s _ _ hg st fun v h' tk hv st' kk => ?_
  obtain ⟨c, u, hc', rfl⟩ := hv
  have I1 : Inv X pins σ H { s with heap := h', toks := tk } := I.turned (fun b o hb e => kk b o (by simpa using hb) e) f0 f1 f3 f4 f5
  obtain ⟨o, e, c', d⟩ := id st'
  exact ⟨_, rfl, YbI (s := { s with heap := h', toks := tk }) e c' d hn ⟨.str ⟨#[c]⟩, H, I1, ⟨u, rfl⟩, ⟨rfl, c, hc', rfl⟩, st', fun b hb => (hf b hb).1⟩⟩
 done := by
  show 70
  have e : i = z.cps.size := hg
  subst e
  exact (W X.A (I.ok.hd hc)).done s _ _ st fun h' tk kk => ⟨rfl, I.turned (fun b o hb e => kk b o (by simpa using hb) e) f0 f1 f3 f4 f5⟩
 self := fun A i s Q E st h => sf A i s Q E st h
theorem Yjt : ItR X tg (fun x H R => ∃ z, x = .str z /\ R (Its z) H) := by
 show 217
 obtain ⟨z, rfl, q⟩ := h
 show 165
 have fp : ∀ b ∈ [s.heap.objs.size], Ymt X pins H b := fun b hb => by
  show 53
 cases ha : z.cps.all (· < 128)
 ·refine wpAny_pyIter_wide ha ?_
  exact ⟨s.heap.objs.size, [s.heap.objs.size], _, _, H, rfl, I.kept (t' := s.toks) fun b o e => ZAC _ e, Yci _ (by decide) (fun A hA => Walks.strWide hA _ z t) (fun A i s Q E st h => wpAny_pyIter_striter_wide st h), ⟨_, ZAK _ rfl, rfl, rfl⟩, fp, q⟩
 ·refine wpAny_pyIter_ascii ha ?_
  exact ⟨s.heap.objs.size, [s.heap.objs.size], _, _, H, rfl, I.kept (t' := s.toks) fun b o e => ZAC _ e, Yci _ (by decide) (fun A hA => Walks.strAscii hA _ z t) (fun A i s Q E st h => wpAny_pyIter_striter_ascii st h), ⟨_, ZAK _ rfl, rfl, rfl⟩, fp, q⟩
def YnT (c : Nat) : P := .str ⟨#[c]⟩
def Ynd (xs : List P) : Src := ⟨xs.length, fun i _ => some xs[i]?⟩
def Ynt (z : Str) : Src := ⟨z.cps.size, fun i _ => if i < z.cps.size then some ((z.cps[i]?).map YnT) else if i = z.cps.size then some none else none⟩
def YmU (k : Nat) (n : Nat) : Src := ⟨n, fun i st => match st[k]? with
 | some (.lst ys) => some ys[i]?
 | some (.ro ys) => some ys[i]?
 | _ => none⟩
def srcOf (p : P) (st : Yls) : Option Src := match p with
 | .tup xs => some (Ynd xs)
 | .str z => some (Ynt z)
 | .ref k => match st[k]? with
  | some (.lst xs) => some (YmU k xs.length)
  | some (.ro xs) => some (YmU k xs.length)
  | _ => none
 | _ => none
theorem YaU {K : Frag} {as : List Addr} {H : Hp} {k n : Nat} {a : Addr} (hk : as[k]? = some a) : YnH K as H (YmU k n) (Itl K a) where
 go := fun i as2 st2 H2 p x rp e => by
  have hk2 := x.pre k a hk
  have e' : (match st2[k]? with | some (.lst ys) => some ys[i]? | some (.ro ys) => some ys[i]? | _ => none) = some (some p) := e
  cases q : st2[k]? with
  | none => rw [q] at e'; cases e'
  | some o =>
   rw [q] at e'
   have ob := rp.ob k a o hk2 q
   cases o with
   | lst ys =>
    show 177
    obtain ⟨v, h3, h4⟩ := h2.get (Option.some.inj e')
    exact ⟨⟨vs, v, .of h1, h3⟩, fun y H3 ⟨z1, z2⟩ => by subst z1; rw [z2 vs (.of h1)] at h3; cases h3; exact ⟨Ext.refl, rp, h4⟩⟩
   | ro ys =>
    show 177
    obtain ⟨v, h3, h4⟩ := h2.get (Option.some.inj e')
    exact ⟨⟨vs, v, ZI h1, h3⟩, fun y H3 ⟨z1, z2⟩ => by subst z1; rw [z2 vs (ZI h1)] at h3; cases h3; exact ⟨Ext.refl, rp, h4⟩⟩
   | dct ys => cases e'
   | exc c ys => cases e'
   | dtt kvs => cases e'
   | fdc kvs => cases e'
 stop := fun i as2 st2 H2 x rp e => by
  have hk2 := x.pre k a hk
  have e' : (match st2[k]? with | some (.lst ys) => some ys[i]? | some (.ro ys) => some ys[i]? | _ => none) = some none := e
  cases q : st2[k]? with
  | none => rw [q] at e'; cases e'
  | some o =>
   rw [q] at e'
   have ob := rp.ob k a o hk2 q
   cases o with
   | lst ys =>
    show 177
    exact ⟨vs, .of h1, by rw [h2.length]; exact ZAn.mp (Option.some.inj e')⟩
   | ro ys =>
    show 177
    exact ⟨vs, ZI h1, by rw [h2.length]; exact ZAn.mp (Option.some.inj e')⟩
   | dct ys => cases e'
   | exc c ys => cases e'
   | dtt kvs => cases e'
   | fdc kvs => cases e'
theorem YfJ {K : Frag} {as : List Addr} {H : Hp} {a : Addr} {vs : List V} {xs : List P} (h1 : SqT K H a vs) (h2 : Dens K as H vs xs) : YnH K as H (Ynd xs) (Itt K a) where
 go := fun i as2 st2 H2 p x rp e => by
  have e' : some xs[i]? = some (some p) := e
  obtain ⟨v, h3, h4⟩ := (h2.ext x).get (Option.some.inj e')
  exact ⟨⟨vs, v, SqT.ext x h1, h3⟩, fun y H3 ⟨z1, z2⟩ => by subst z1; rw [z2 vs (SqT.ext x h1)] at h3; cases h3; exact ⟨Ext.refl, rp, h4⟩⟩
 stop := fun i as2 st2 H2 x rp e => by
  have e' : some xs[i]? = some none := e
  exact ⟨vs, SqT.ext x h1, by rw [h2.length]; exact ZAn.mp (Option.some.inj e')⟩
theorem YgN {K : Frag} {as : List Addr} {H : Hp} {z : Str} : YnH K as H (Ynt z) (Its z) where
 go := fun i as2 st2 H2 p x rp e => by
  have e' : (if i < z.cps.size then some ((z.cps[i]?).map YnT) else if i = z.cps.size then some none else none) = some (some p) := e
  by_cases hi : i < z.cps.size
  ·rw [ZAG hi] at e'
   refine ⟨hi, fun y H3 ⟨z1, c, z2, z3⟩ => ?_⟩
   subst z1; subst z3
   rw [z2] at e'
   cases Option.some.inj (Option.some.inj e')
   exact ⟨Ext.refl, rp, .str⟩
  ·rw [ZAF hi] at e'
   by_cases hj : i = z.cps.size
   ·rw [ZAG hj] at e'; cases e'
   ·rw [ZAF hj] at e'; cases e'
 stop := fun i as2 st2 H2 x rp e => by
  have e' : (if i < z.cps.size then some ((z.cps[i]?).map YnT) else if i = z.cps.size then some none else none) = some none := e
  by_cases hi : i < z.cps.size
  ·rw [ZAG hi] at e'
   have := Option.some.inj e'
   simp [hi] at this
  ·rw [ZAF hi] at e'
   by_cases hj : i = z.cps.size
   ·exact hj
   ·rw [ZAF hj] at e'; cases e'
def YmI (me : ME) : MI := fun ρ st => (me ρ st).bind fun p st1 => match srcOf p st1 with
 | some s => .ok s st1
 | none => .bad
theorem Yl1.ext {as as1 : List Addr} {H H1 : Hp} {ρ : Rho} {r : R Src} {Q : It -> Hp -> Prop} (x : Ext as H as1 H1) (h : Yl1 X as H ρ r Q) : Yl1 X as1 H1 ρ r Q := by
 cases r with
 | ok p st' => exact fun as' H' J y => h as' H' J (x.trans y)
 | exc k st' => show 171
 | bad => exact h
theorem Yl1.bindE {as : List Addr} {H : Hp} {ρ : Rho} {r : R P} {f : P -> Yls -> R Src} {Q : It -> Hp -> Prop} {Q' : VK} (h : Yl1 X as H ρ (r.bind f) Q)
 (go : ∀ p st1 as1 H1 v, Ext as H as1 H1 -> Rep X.K as1 st1 H1 -> Den X.K as1 H1 v p -> Yl1 X as1 H1 ρ (f p st1) Q -> Q' v H1) : YlJ X as H ρ r Q' := by
 cases r with
 | ok p st1 => exact fun as1 H1 v x rp d => go p st1 as1 H1 v x rp d (Yl1.ext x h)
 | exc k st' => exact h
 | bad => exact h
theorem Yl1.bindA {as : List Addr} {H : Hp} {ρ : Rho} {r : R (List P)} {f : List P -> Yls -> R Src} {Q : It -> Hp -> Prop} {Q' : List V -> Hp -> Prop} (h : Yl1 X as H ρ (r.bind f) Q)
 (go : ∀ p st1 as1 H1 v, Ext as H as1 H1 -> Rep X.K as1 st1 H1 -> Dens X.K as1 H1 v p -> Yl1 X as1 H1 ρ (f p st1) Q -> Q' v H1) : Ymc X as H ρ r Q' := by
 cases r with
 | ok p st1 => exact fun as1 H1 v x rp d => go p st1 as1 H1 v x rp d (Yl1.ext x h)
 | exc k st' => exact h
 | bad => exact h
theorem Yl1.bindL {as : List Addr} {H : Hp} {ρ : Rho} {r : R (List P)} {f : List P -> Yls -> R Src} {Q : It -> Hp -> Prop} {Q' : VK} (h : Yl1 X as H ρ (r.bind f) Q)
 (go : ∀ ps st1 as1 H1 l vs, Ext as H as1 H1 -> Rep X.K as1 st1 H1 -> H1 l = some (.lst vs) -> Yny as1 st1 l -> Dens X.K as1 H1 vs ps -> Yl1 X as1 H1 ρ (f ps st1) Q -> Q' (.ref l) H1) : YlW X as H ρ r Q' := by
 cases r with
 | ok p st1 => exact fun as1 H1 l v x rp hl nl d => go p st1 as1 H1 l v x rp hl nl d (Yl1.ext x h)
 | exc k st' => exact h
 | bad => exact h
theorem Yi8 : ItR X tg (fun x H R => (∃ a, x = .ref a /\ (∃ xs, SqL X.K H a xs) /\ R (Itl X.K a) H) \/ (∃ a, x = .ref a /\ (∃ xs, SqT X.K H a xs) /\ R (Itt X.K a) H) \/ ∃ z, x = .str z /\ R (Its z) H) := by
 show 217
 rcases h with h | h | h
 ·exact Yix pins s σ H x v R I rx h
 ·exact Yku pins s σ H x v R I rx h
 ·exact Yjt pins s σ H x v R I rx h
theorem YM {e : Expr} {me : ME} (he : JE X e me) : JI X tg e (YmI me) := by
 show 221
 refine thn (he pins s σ H (fun x H1 => (∃ a, x = .ref a /\ (∃ xs, SqL X.K H1 a xs) /\ R (Itl X.K a) H1) \/ (∃ a, x = .ref a /\ (∃ xs, SqT X.K H1 a xs) /\ R (Itt X.K a) H1) \/ ∃ z, x = .str z /\ R (Its z) H1) I
  ⟨as, ρ, st, en, rp, Yl1.bindE h fun p st1 as1 H1 v x rp1 d h1 => ?_⟩) fun v s1 ⟨x, H1, I1, r1, q1⟩ => Yi8 pins s1 σ H1 x v R I1 r1 q1
 cases d with
 | str => exact .inr (.inr ⟨_, rfl, h1 as1 H1 _ Ext.refl rp1 YgN⟩)
 | tup e r => exact .inr (.inl ⟨_, rfl, ⟨_, e⟩, h1 as1 H1 _ Ext.refl rp1 (YfJ e r)⟩)
 | ref e =>
  rename_i k a
  have h2 : Yl1 X as1 H1 ρ (match (match st1[k]? with | some (.lst xs) => some (YmU k xs.length) | some (.ro xs) => some (YmU k xs.length) | _ => none) with | some s => .ok s st1 | none => .bad) R := h1
  cases q : st1[k]? with
  | none => rw [q] at h2; exact h2.elim
  | some o =>
   rw [q] at h2
   have ob := rp1.ob k a o e q
   cases o with
   | lst ys => obtain ⟨vs, g1, g2⟩ := ob; exact .inl ⟨a, rfl, ⟨vs, .of g1⟩, h2 as1 H1 _ Ext.refl rp1 (YaU e)⟩
   | ro ys => obtain ⟨vs, g1, g2⟩ := ob; exact .inl ⟨a, rfl, ⟨vs, ZI g1⟩, h2 as1 H1 _ Ext.refl rp1 (YaU e)⟩
   | dct ys => exact h2.elim
   | exc c ys => exact h2.elim
   | dtt kvs => exact h2.elim
   | fdc kvs => exact h2.elim
 | _ => show 137
def YmG (lo : Int) (n : Nat) : Src := ⟨n, fun i _ => some (if i < n then some (.int (lo + i)) else none)⟩
theorem Yc7 {K : Frag} {as : List Addr} {H : Hp} {lo : Int} {n : Nat} : YnH K as H (YmG lo n) (Itr lo n) where
 go := fun i as2 st2 H2 p x rp e => by
  have e' : some (if i < n then some (P.int (lo + i)) else none) = some (some p) := e
  by_cases hi : i < n
  ·rw [ZAG hi] at e'
   cases Option.some.inj (Option.some.inj e')
   exact ⟨hi, fun y H3 ⟨z1, z2⟩ => by subst z1; subst z2; exact ⟨Ext.refl, rp, .int⟩⟩
  ·rw [ZAF hi] at e'; cases Option.some.inj e'
 stop := fun i as2 st2 H2 x rp e => by
  have e' : some (if i < n then some (P.int (lo + i)) else none) = some none := e
  by_cases hi : i < n
  ·rw [ZAG hi] at e'; cases Option.some.inj e'
  ·exact Nat.le_of_not_lt hi
def small62 (i : Int) : Bool := decide (-(2 ^ 62) <= i) && decide (i < 2 ^ 62)
theorem V7 {i : Int} (h : small62 i = true) : -(2 ^ 62) <= i /\ i < 2 ^ 62 := ⟨ZA9 (ZBI.mp h).1, ZA9 (ZBI.mp h).2⟩
def Ymv (mr : MA) : MI := fun ρ st => (mr ρ st).bind fun ps st1 => match ps with
 | [.int j] => if small62 j = true then .ok (YmG 0 j.toNat) st1 else .bad
 | [.int i, .int j] => if small62 i = true /\ small62 j = true then .ok (YmG i (j - i).toNat) st1 else .bad
 | _ => .bad
theorem Zf {a : Expr} {mr : MA} {p pos : Pos} (hg : Gl X "range") (hm : X.mg "range" = none) (ha : JA X [a] mr) (hl : ∀ ρ st ps st', mr ρ st = .ok ps st' -> ps.length = 1) (hs : starEach [a] X.env = [(false, eval a X.env)] := by rfl) : JI X tg (.Call (.Name "range" p) [a] [] pos) (Ymv mr) := by
 show 221
 refine YeF (tg := tg) hg hm ha hs pins s σ H R I ⟨as, ρ, st, en, rp, ?_⟩
 unfold Ymv at h
 cases q : mr ρ st with
 | bad => show 148
 | exc k st' => show 148
 | ok ps st1 =>
  rw [q] at h
  have hl := hl ρ st ps st1 q
  intro as1 H1 vs x rp1 d
  have h1 := Yl1.ext x h
  cases d with
  | nil => cases hl
  | cons d1 d2 =>
   cases d2 with
   | cons d3 d4 => cases hl
   | nil =>
    cases d1 with
    | int =>
     rename_i j
     have h2 : Yl1 X as1 H1 ρ (if small62 j = true then .ok (YmG 0 j.toNat) st1 else .bad) R := h1
     by_cases hj : small62 j = true
     ·rw [ZAG hj] at h2
      exact ⟨j, rfl, (V7 hj).1, (V7 hj).2, h2 as1 H1 _ Ext.refl rp1 Yc7⟩
     ·rw [ZAF hj] at h2; exact h2.elim
    | _ => show 137
theorem Ze {me : ME} {mr : MA} {n : Nat} (h : ∀ ρ st ps st', mr ρ st = .ok ps st' -> ps.length = n) : ∀ ρ st ps st', Ylt me mr ρ st = .ok ps st' -> ps.length = n + 1 := by
 intro ρ st ps st' e
 unfold Ylt at e
 cases q : me ρ st with
 | bad => show 193
 | exc k s => show 193
 | ok p s1 =>
  rw [q, R.bind_ok] at e
  cases q2 : mr ρ s1 with
  | bad => rw [q2] at e; cases e
  | exc k s => rw [q2] at e; cases e
  | ok qs s2 =>
   rw [q2, R.bind_ok] at e
   cases e
   rw [ZA4, h _ _ _ _ q2]
theorem Zz : ∀ ρ st ps st', YlA ρ st = .ok ps st' -> ps.length = 0 := by
 intro ρ st ps st' e
 cases e
 rfl
end
def Yl3 (cells : List (Str × Addr)) : List (Str × NameKind) -> List (Str × Addr) -> List (Str × Addr)
 | [], acc => acc
 | (n, k) :: r, acc => if (k == NameKind.free) = true then match cells.lookup n with
  | some c => Yl3 cells r ((n, c) :: acc)
  | none => Yl3 cells r acc
  else Yl3 cells r acc
theorem Yap {scope : Scope} {env : Env} (h : ∀ x ∈ scope.names, x.2 = .free -> ∃ c, env.cells.lookup x.1 = some c) : closureFor scope env = pure (Yl3 env.cells scope.names []) := by
 unfold closureFor
 have key : ∀ (names : List (Str × NameKind)) (acc : List (Str × Addr)), (∀ x ∈ names, x.2 = .free -> ∃ c, env.cells.lookup x.1 = some c) ->
  (forIn names acc fun x r => match x with | (name, kind) => (if (kind == NameKind.free) = true then do let y <- cellOf env name; pure (ForInStep.yield ((name, y) :: r)) else pure (ForInStep.yield r) : Sem (ForInStep (List (Str × Addr))))) = (pure (Yl3 env.cells names acc) : Sem _) := by
  intro names
  induction names with
  | nil => intro acc _; rfl
  | cons x r ih =>
   intro acc hx
   obtain ⟨n, k⟩ := x
   rw [List.forIn_cons]
   have hr := fun y hy => hx y (ZAT _ hy)
   by_cases hk : (k == NameKind.free) = true
   ·obtain ⟨c, hc⟩ := hx (n, k) List.mem_cons_self (by simpa using hk)
    simp only [hk, if_true, Yl3]
    have hc' : env.cells.lookup n = some c := hc
    have e : cellOf env n = pure c := by unfold cellOf; rw [hc']
    rw [e, hc']
    exact ih _ hr
   ·simp only [hk, Yl3]
    exact ih _ hr
 exact Eq.trans (ZBK (fun m => m >>= fun cs => pure cs) (key scope.names [] h)) rfl
theorem Zi {cells : List (Str × Addr)} {x : Str} {c : Addr} : ∀ {names : List (Str × NameKind)} {acc : List (Str × Addr)}, (Yl3 cells names acc).lookup x = some c -> acc.lookup x = some c \/ cells.lookup x = some c
 | [], acc, h => .inl h
 | (n, k) :: r, acc, h => by
  unfold Yl3 at h
  split at h
  ·split at h
   ·rename_i c' hc
    rcases Zi h with z | z
    ·rw [ZBD] at z
     cases hx : x == n with
     | true =>
      rw [hx] at z
      have := eq_of_beq hx
      subst this
      exact .inr (by rw [hc]; exact z)
     | false => rw [hx] at z; exact .inl z
    ·exact .inr z
   ·exact Zi h
  ·exact Zi h
theorem ZW {cells : List (Str × Addr)} {x : Str} : ∀ {names : List (Str × NameKind)} {acc : List (Str × Addr)}, (∃ c, acc.lookup x = some c) -> ∃ c, (Yl3 cells names acc).lookup x = some c
 | [], acc, h => h
 | (n, k) :: r, acc, h => by
  unfold Yl3
  split
  ·split
   ·refine ZW ?_
    rw [ZBD]
    cases hx : x == n with
    | true => exact ⟨_, rfl⟩
    | false => exact h
   ·exact ZW h
  ·exact ZW h
theorem ZA {cells : List (Str × Addr)} {x : Str} {c : Addr} (hc : cells.lookup x = some c) : ∀ {names : List (Str × NameKind)} {acc : List (Str × Addr)}, (x, NameKind.free) ∈ names -> ∃ c, (Yl3 cells names acc).lookup x = some c
 | [], acc, h => by cases h
 | (n, k) :: r, acc, h => by
  unfold Yl3
  rcases ZAZ.mp h with e | e
  ·cases e
   simp only [beq_self_eq_true, if_true, hc]
   exact ZW ⟨c, by simp [List.lookup_cons]⟩
  ·split
   ·split
    ·exact ZA hc e
    ·exact ZA hc e
   ·exact ZA hc e
theorem Zu {scope : Scope} {env : Env} {x : Str} {k : NameKind} (h : (relabel scope env).names.lookup x = some k) : scope.names.lookup x = some k \/ (k = .cell /\ scope.names.lookup x = some .free) := by
 unfold relabel at h
 simp only at h
 generalize scope.names = names at h ⊢
 induction names with
 | nil => cases h
 | cons y r ih =>
  obtain ⟨n, j⟩ := y
  rw [ZAY] at h
  rw [ZBD]
  cases hx : x == n with
  | true =>
   simp only
   split at h
   ·rename_i hc
    rw [ZBD, hx] at h
    simp only [Bool.and_eq_true, beq_iff_eq] at hc
    rw [hc.1.1]
    exact .inr ⟨(Option.some.inj h).symm, rfl⟩
   ·rw [ZBD, hx] at h
    exact .inl h
  | false =>
   simp only
   split at h
   ·rw [ZBD, hx] at h; exact ih h
   ·rw [ZBD, hx] at h; exact ih h
theorem YdV {prog : Program} {w : World} {A : Around} {R : Result -> Shared -> Prop} {s : Shared} {elt target iter : Expr} {ifs : List Expr} {scope : Scope} {pos : Pos} {it acc : Value} {env : Env} (I : Nat -> Shared -> Prop)
 (turn : ∀ n s, I n s -> wpAny (model prog w) A (pyNext it) (fun r s₁ => match r with
  | none => R (.ok .next) s₁
  | some v => wpAny (model prog w) A (letOwnedTupleGo target it v) (fun _ s₁' => wpAny (model prog w) A (assign target env v) (fun _ s₂ =>
   wpAny (model prog w) A (forIn ifs true fun c r => if r = true then do let ok <- isTrue c env (eval c env); pure (ForInStep.yield ok) else pure (ForInStep.yield r)) (fun ok s₃ =>
    if ok = true then wpAny (model prog w) A (eval elt env) (fun x s₄ =>
     wpAny (model prog w) A (call (.builtin "list.append") [acc, x]) (fun _ s₅ => ∃ m, m < n /\ I m s₅) (notedBy (model prog w) A env fun e s' => R (.error e) s') s₄) (notedBy (model prog w) A env fun e s' => R (.error e) s') s₃
    else ∃ m, m < n /\ I m s₃) (notedBy (model prog w) A env fun e s' => R (.error e) s') s₂) (notedBy (model prog w) A env fun e s' => R (.error e) s') s₁') (notedBy (model prog w) A env fun e s' => R (.error e) s') s₁) (notedBy (model prog w) A env fun e s' => R (.error e) s') s)
 (n : Nat) (h : I n s) :
 codeAny (model prog w) A (.compLoop (.ListComp elt [⟨target, iter, ifs, 0⟩] scope pos) 0 it acc env) R s := by
 refine codeAny_loop rfl I (fun n s hI => ?_) n h
 show wpAny _ A ((compTurn (.ListComp elt [⟨target, iter, ifs, 0⟩] scope pos) 0 it acc env).onRaise (fun x => do noteFrame x env; theTreesLotGoes x)) _ _ s
 refine wpAny_noted ?_
 rw [compTurn_list]
 refine ZAA (ZCc (ZAA (ZA7 (turn n s hI) (fun r s₁ h₁ => ?_) fun _ _ h' => h')))
 cases r with
 | none => exact ZAB h₁
 | some v =>
  refine ZAA (ZA7 h₁ (fun _ s₁' h₁' => ?_) fun _ _ h' => h')
  refine ZAA (ZA7 h₁' (fun _ s₂ h₂ => ZAA (ZA7 h₂ (fun ok s₃ h₃ => ?_) fun _ _ h' => h')) fun _ _ h' => h')
  cases ok with
  | false => exact ZAB ⟨rfl, h₃⟩
  | true =>
   exact ZAA (ZAA (ZA7 h₃ (fun x s₄ h₄ => ZAA (ZA7 h₄ (fun _ s₅ h₅ => ZAB (ZAB ⟨rfl, h₅⟩)) fun _ _ h' => h')) fun _ _ h' => h'))
def YlT (X : Cx) (scope : Scope) (N : List Str) (C : Addr) (s₀ : Shared) (H₀ : Hp) (ex : List Addr) : Cx where
 prog := X.prog
 w := X.w
 K := X.K
 mg := X.mg
 base := X.base
 A := X.A
 N := N
 s₀ := s₀
 H₀ := H₀
 env := compEnvC scope (Yl3 X.env.cells scope.names []) C X.env
 outer := X.stack
 stack := X.stack
 ex := ex
 fn := fun _ => false
 calm := X.calm
 pn := []
 xe := fun _ _ => False
structure Ymk (X : Cx) (scope : Scope) (TN FN : List Str) (fr : List Nat) : Prop where
 cell : ∀ y ∈ scope.names, y.2 ≠ .cell
 kind : scope.kind = .function
 names : ∀ y ∈ scope.names, y.2 = .local -> scope.names.lookup y.1 = some .local
 free : ∀ y ∈ scope.names, y.2 = .free -> X.env.kindOf y.1 = some .cell \/ X.env.kindOf y.1 = some .free
 lk : ∀ y, scope.names.lookup y = some .free -> (y, NameKind.free) ∈ scope.names
 flen : FN.length = fr.length
 at_ : ∀ (j : Nat) x k, FN[j]? = some x -> fr[j]? = some k -> X.N[k]? = some x /\ scope.names.lookup x = some .free
def rho0 (n : Nat) (fr : List Nat) (ρ : Rho) : Rho := List.replicate n none ++ fr.map fun k => (ρ[k]?).join
section
variable {X : Cx} {scope : Scope} {TN FN : List Str} {fr : List Nat} {pins : LAO} {σ : St} {H : Hp} {s₂ s₄ : Shared} {fp : List Addr} {C : Addr}
theorem Ymk.has (c : Ymk X scope TN FN fr) (ok : X.Ok) : ∀ x ∈ scope.names, x.2 = .free -> ∃ c, X.env.cells.lookup x.1 = some c := fun x hx e => ok.has x.1 (c.free x hx e)
theorem Ymk.cl (c : Ymk X scope TN FN fr) {x : Str} {a : Addr} (h : (Yl3 X.env.cells scope.names []).lookup x = some a) : X.env.cells.lookup x = some a := by
 rcases Zi h with z | z
 ·cases z
 ·exact z
theorem Ymk.freeOf (c : Ymk X scope TN FN fr) {x : Str} (h : (relabel scope X.env).names.lookup x = some .cell \/ (relabel scope X.env).names.lookup x = some .free) : scope.names.lookup x = some .free := by
 have nc : scope.names.lookup x ≠ some .cell := fun z => c.cell _ (PySem.mem_of_lookup z) rfl
 rcases h with h | h
 ·rcases Zu h with z | ⟨_, z⟩
  ·exact absurd z nc
  ·exact z
 ·rcases Zu h with z | ⟨z, _⟩
  ·exact z
  ·cases z
theorem YkL (c : Ymk X scope TN FN fr) (I : Inv X pins σ H s₂) (hf : ∀ b ∈ fp, Ymt X pins H b) (hfo : ∀ b ∈ fp, ∃ o, s₂.heap.get? b = some o) (hC : s₂.heap.objs.size <= C) : (YlT X scope (TN ++ FN) C s₂ H fp).Ok where
 mod := I.ok.mod
 kind := c.kind
 glob := I.ok.glob
 blt := I.ok.blt
 above := hC
 inj := fun x y a h1 h2 => I.ok.inj x y a (c.cl h1) (c.cl h2)
 has := fun x h => by
  have hx := c.freeOf h
  obtain ⟨a, ha⟩ := c.has I.ok _ (c.lk x hx) rfl
  exact ZA ha (c.lk x hx)
 cab := fun x a h => by cases h
 hd := I.ok.hd
 frames := I.ok.frames
 stk := .inl rfl
 exf := fun b hb => by
  obtain ⟨f0, f1, f2, f3, f4, f5⟩ := hf b hb
  obtain ⟨o, ho⟩ := hfo b hb
  exact ⟨ZAL (ZAM (ZAE ho) hC), fun x a h => f4 x a (c.cl h)⟩
 bs := I.bs
 bsz := ZAR I.ok.bsz I.sz
 noex := fun b o e hb => by
  obtain ⟨f0, f1, f2, f3, f4, f5⟩ := hf b hb
  rcases f3 with z | z
  ·exact I.ok.noex b o e z
  ·exact absurd (ZAM (ZAE e) (ZAR I.ok.bsz z)) (ZBJ _)
 exfs := fun b hb hz => by
  obtain ⟨f0, f1, f2, f3, f4, f5⟩ := hf b hb
  rcases ZAZ.mp (I.stkSub b hz) with e | e
  ·exact f1 e
  ·exact f2 e
 funs := I.stack
 frf := I.stkFree
theorem getElem?_rho0 {n : Nat} {ρ : Rho} {i : Nat} {p : P} (h : (rho0 n fr ρ)[i]? = some (some p)) : ∃ j k, i = n + j /\ fr[j]? = some k /\ ρ[k]? = some (some p) := by
 unfold rho0 at h
 by_cases hi : i < n
 ·rw [List.getElem?_append_left (by simpa using hi), List.getElem?_replicate, if_pos hi] at h
  cases h
 ·rw [List.getElem?_append_right (by simpa using hi), List.length_replicate, List.getElem?_map] at h
  refine ⟨i - n, ?_⟩
  cases q : fr[i - n]? with
  | none => show 152
  | some k =>
   rw [q] at h
   refine ⟨k, by omega, rfl, ?_⟩
   have h' : (ρ[k]?).join = some p := Option.some.inj h
   cases w : ρ[k]? with
   | none => rw [w] at h'; cases h'
   | some o => rw [w] at h'; rw [show o = some p from h']
def sig0 (n : Nat) (fr : List Nat) (σ : St) : St := List.replicate n none ++ fr.map fun k => (σ[k]?).join
theorem YfI {n : Nat} : (sig0 n fr σ).length = n + fr.length := by simp [sig0]
theorem getElem?_sig0 {n : Nat} {i : Nat} {v : V} (h : (sig0 n fr σ)[i]? = some (some v)) : ∃ j k, i = n + j /\ fr[j]? = some k /\ σ[k]? = some (some v) := by
 unfold sig0 at h
 by_cases hi : i < n
 ·rw [List.getElem?_append_left (by simpa using hi), List.getElem?_replicate, if_pos hi] at h
  cases h
 ·rw [List.getElem?_append_right (by simpa using hi), List.length_replicate, List.getElem?_map] at h
  refine ⟨i - n, ?_⟩
  cases q : fr[i - n]? with
  | none => show 152
  | some k =>
   rw [q] at h
   refine ⟨k, by omega, rfl, ?_⟩
   have h' : (σ[k]?).join = some v := Option.some.inj h
   cases w : σ[k]? with
   | none => rw [w] at h'; cases h'
   | some o => rw [w] at h'; rw [show o = some v from h']
theorem env0 {K : Frag} {as : List Addr} {ρ : Rho} {n : Nat} (en : YlM K as H ρ σ) : YlM K as H (rho0 n fr ρ) (sig0 n fr σ) :=
 ⟨by simp [rho0, sig0], fun i p e => by
  obtain ⟨j, k, e1, e2, e3⟩ := getElem?_rho0 e
  obtain ⟨v, h1, h2⟩ := en.val k p e3
  refine ⟨v, ?_, h2⟩
  subst e1
  unfold sig0
  rw [List.getElem?_append_right (by simp), List.length_replicate, List.getElem?_map]
  have : n + j - n = j := by omega
  rw [this, e2]
  simp [h1]⟩
theorem Yfa (c : Ymk X scope TN FN fr) (I : Inv X pins σ H s₂) (hf : ∀ b ∈ fp, Ymt X pins H b) (hfo : ∀ b ∈ fp, ∃ o, s₂.heap.get? b = some o) (hC : s₂.heap.objs.size <= C) {h' : Heap} {tk : Nat}
 (hk : ∀ b o, s₂.heap.get? b = some o -> h'.get? b = some o) (hn : h'.Ns C fun _ => none) : Inv (YlT X scope (TN ++ FN) C s₂ H fp) [] (sig0 TN.length fr σ) H { s₂ with heap := h', toks := tk } where
 ok := YkL c I hf hfo hC
 os := rfl
 bare := I.bare
 base := Un.kept hk
 loc := ⟨_, hn, fun i x v h1 h2 h3 => by
  obtain ⟨j, k, e1, e2, e3⟩ := getElem?_sig0 h2
  have h1' : (TN ++ FN)[i]? = some x := h1
  subst e1
  rw [ZBT (by omega)] at h1'
  have : TN.length + j - TN.length = j := by omega
  rw [this] at h1'
  obtain ⟨g1, g2⟩ := c.at_ j x k h1' e2
  obtain ⟨m, _, hl⟩ := I.loc
  have hcf := c.free _ (c.lk x g2) rfl
  have vis : Vis X.env.scope x := .inr hcf
  obtain ⟨u, r, q⟩ := hl k x v g1 e3 vis
  refine ⟨u, r, .inr ?_⟩
  rcases q with ⟨q1, _⟩ | ⟨_, a, q2, q3⟩
  ·rcases hcf with z | z
   ·have : X.env.kindOf x = some .cell := z
    rw [q1] at this; cases this
   ·have : X.env.kindOf x = some .free := z
    rw [q1] at this; cases this
  ·refine ⟨?_, a, ?_, ?_⟩
   ·rcases h3 with z | z | z
    ·have w : (relabel scope X.env).names.lookup x = some .local := z
     rcases Zu w with w | ⟨w, _⟩
     ·rw [g2] at w; cases w
     ·cases w
    ·exact .inl z
    ·exact .inr z
   ·obtain ⟨a', ha'⟩ := ZA (cells := X.env.cells) q2 (acc := []) (c.lk x g2)
    have := c.cl ha'
    rw [q2] at this; cases this
    exact ha'
   ·obtain ⟨o, ho, hd⟩ := q3
    exact ⟨o, hk a o ho, hd⟩⟩
 cell := fun x a h => by
  obtain ⟨v, o, ho, hd⟩ := I.cell x a (c.cl h)
  exact ⟨v, o, hk a o ho, hd⟩
 free := I.hok.fresh hC
 freeC := fun x a h => I.freeC x a (c.cl h)
 pin := fun p hp => absurd (show p ∈ ([] : LAO) from hp) (by simp)
 hok := I.hok.kept hk
 len := by
  rw [YfI]
  show _ = (TN ++ FN).length
  rw [ZAH, c.flen]
theorem Inv.track {s : Shared} {D : Addr} {vs : List V} {its : List Value} {n : Nat} (I : Inv X pins σ H s) (hD : s.heap.get? D = some { cls := .type "list", data := .seq its.toArray n }) (hn : H D = none) (rv : Vals vs its) (hz : vs.length <= sizeLine)
 (h1 : X.s₀.heap.objs.size <= D) (h2 : D ≠ X.env.locals) (h3 : ∀ x c, X.env.cells.lookup x = some c -> c ≠ D) (h4 : ∀ p ∈ X.pn ++ pins, p.1 ≠ D) : Inv X pins σ (upd H D (.lst vs)) s := by
 have q := I.step (H' := upd H D (.lst vs)) (h' := s.heap) (g' := s.gens) (t' := s.toks) (d' := s.drawn) (ch := [D]) (fun b hb => by
  have e : b = D := by simpa using hb
  subst e
  exact ⟨.inr h1, h2, h3, h4⟩) (fun b o _ _ _ e _ => e) (fun b o _ _ _ e _ => ⟨o.slots, e⟩) (fun b o hb e n => by rw [Yg (by simpa using hb)]; exact n) (fun b o _ e => ⟨o, e⟩)
  (fun b xs e => by rw [Yg (Yd e hn)]; exact e) (fun b o u e => by rw [Yg (Yd e hn)]; exact e) (fun b ps e => ⟨#[], by rw [Yg (Yd e hn), e]; simp⟩) (fun m h => h) (fun b u e => ?_) I.bare
 ·exact q
 ·by_cases hb : b = D
  ·subst hb
   rw [Yj] at e
   cases e
   exact ⟨hz, its, n, rv, hD⟩
  ·rw [Yg hb] at e
   exact (I.hok b u e).stay (fun c v _ q => q) (fun c q => by rw [Yg (Yd q hn)]; exact q) fun c xs q => by rw [Yg (Yd q hn)]; exact q
end
def YlX (src : Src) (g : MG) (nt : MT) (me : ME) (ρ0 : Rho) : Nat -> Nat -> Yls -> List P -> R (List P)
 | 0, i, st, acc => match src.nx i st with
  | some none => .ok acc st
  | _ => .bad
 | n + 1, i, st, acc => match src.nx i st with
  | some none => .ok acc st
  | none => .bad
  | some (some p) => match g p ρ0 st with
   | none => .bad
   | some ρ1 => match nt ρ1 st with
    | .ok false st1 => YlX src g nt me ρ0 n (i + 1) st1 acc
    | .ok true st1 => match me ρ1 st1 with
     | .ok q st2 => if acc.length < cap then YlX src g nt me ρ0 n (i + 1) st2 (acc ++ [q]) else .bad
     | _ => .bad
    | _ => .bad
def Yme (mi : MI) (n : Nat) (fr : List Nat) (g : MG) (nt : MT) (me : ME) : MA := fun ρ st => (mi ρ st).bind fun src st1 => YlX src g nt me (rho0 n fr ρ) src.n 0 st1 []
def PTs (X : Cx) (ifs : List Expr) (t : TT) : Prop :=
 ∀ (pins : LAO) (s : Shared) (σ : St) (H : Hp) (Q : Bool -> Hp -> Prop), Inv X pins σ H s -> t σ H Q ->
  wpAny (model X.prog X.w) X.A (forIn ifs true fun c r => if r = true then do let ok <- isTrue c X.env (eval c X.env); pure (ForInStep.yield ok) else pure (ForInStep.yield r)) (TP X pins σ Q) X.xe s
abbrev JTs (X : Cx) (ifs : List Expr) (nt : MT) : Prop := PTs X ifs (tT X nt)
def Ymd : MT := fun _ st => .ok true st
theorem Zq {X : Cx} : JTs X [] Ymd := fun pins s σ H Q I ⟨as, ρ, st, en, rp, h⟩ => wpAny_tests_nil ⟨H, I, h as H Ext.refl rp⟩
theorem Ya9 {X : Cx} {c : Expr} {nt : MT} (h : JT X c nt) : JTs X [c] nt := fun pins s σ H Q I t => wpAny_tests_one (h pins s σ H Q I t)
def Ynw (n : Nat) (g : MG) : Prop := ∀ p ρ st ρ1, g p ρ st = some ρ1 -> ρ1.length = ρ.length /\ ∀ i : Nat, n <= i -> ρ1[i]? = ρ[i]?
def YnE (n : Nat) (g : MGs) : Prop := ∀ p ρ st ρ1, g p ρ st = some ρ1 -> ρ1.length = ρ.length /\ ∀ i : Nat, n <= i -> ρ1[i]? = ρ[i]?
theorem YH {n i : Nat} (h : i < n) : Ynw n (Ylv i) := fun p ρ st ρ1 e => by
 cases e
 exact ⟨by simp, fun j hj => by rw [List.getElem?_set_ne (by omega)]⟩
theorem YdD {n : Nat} : YnE n Ymo := fun p ρ st ρ1 e => by
 cases p with
 | nil => cases e; exact ⟨rfl, fun _ _ => rfl⟩
 | cons a b => cases e
theorem W5 {n : Nat} {g : MG} {r : MGs} (h1 : Ynw n g) (h2 : YnE n r) : YnE n (YlP g r) := fun p ρ st ρ1 e => by
 cases p with
 | nil => cases e
 | cons a b =>
  have e' : (g a ρ st).bind (fun ρ1 => r b ρ1 st) = some ρ1 := e
  cases z : g a ρ st with
  | none => rw [z] at e'; cases e'
  | some ρ2 =>
   rw [z] at e'
   obtain ⟨a1, a2⟩ := h1 _ _ _ _ z
   obtain ⟨b1, b2⟩ := h2 _ _ _ _ (show r b ρ2 st = some ρ1 from e')
   exact ⟨b1.trans a1, fun i hi => (b2 i hi).trans (a2 i hi)⟩
section
variable {X : Cx}
theorem YlM.back {K : Frag} {as : List Addr} {H : Hp} {n : Nat} {fr : List Nat} {ρ ρ1 : Rho} {σ : St} (e : YlM K as H ρ1 σ) (hl : ρ1.length = (rho0 n fr ρ).length) (hk : ∀ i : Nat, n <= i -> ρ1[i]? = (rho0 n fr ρ)[i]?) : YlM K as H (rho0 n fr ρ) σ :=
 ⟨by rw [<- hl]; exact e.len, fun i p q => by
  obtain ⟨j, k, e1, _, _⟩ := getElem?_rho0 q
  exact e.val i p (by rw [hk i (by omega)]; exact q)⟩
set_option maxHeartbeats 4000000 in
theorem YaM {elt tg iter : Expr} {ifs : List Expr} {scope : Scope} {pos pos0 : Pos} {TN FN : List Str} {fr : List Nat} {mi : MI} {g : MG} {nt : MT} {me : ME} {use : Option (Value -> Sem Unit)} {Q0 : VSP} {pins : LAO} {s : Shared} {σ : St} {H : Hp} {Q : VK}
 (hc : X.calm = true) (c : Ymk X scope TN FN fr) (hi : JI X tg iter mi) (hgo : Ynw TN.length g)
 (hb : ∀ C s₀ H₀ ex, JG (YlT X scope (TN ++ FN) C s₀ H₀ ex) tg g /\ JTs (YlT X scope (TN ++ FN) C s₀ H₀ ex) ifs nt /\ JE (YlT X scope (TN ++ FN) C s₀ H₀ ex) elt me)
 (hs : ∀ x, foldedSetIterable iter X.env x = pure x) (I : Inv X pins σ H s) (ht : tL X (Yme mi TN.length fr g nt me) σ H Q)
 (hend : ∀ (s4 : Shared) (C D : Addr) (H' : Hp), (∃ m, s4.heap.Ns C m) -> H' C = none -> Ymt X pins H' C -> (∀ h', Heap.SameBut C s4.heap h' -> Inv X pins σ H' { s4 with heap := h' }) -> Q (.ref D) H' -> compPost (model X.prog X.w) X.A X.xe use Q0 (.ref D) C (.ok .next) s4) :
 wpAny (model X.prog X.w) X.A (comprehension (.ListComp elt [⟨tg, iter, ifs, 0⟩] scope pos) scope X.env pos0 (newList []) false (eval iter X.env) use) Q0 X.xe s := by
 obtain ⟨as, ρ, st, en, rp, h⟩ := ht
 refine wpAny_comprehension_free (use := use) rfl hs (Yap (c.has I.ok)) c.kind c.names ?_
 refine thn (hi pins s σ H (fun J H1 => ∃ as1 src st1, Ext as H as1 H1 /\ Rep X.K as1 st1 H1 /\ YnH X.K as1 H1 src J /\ YlW X as1 H1 ρ (YlX src g nt me (rho0 TN.length fr ρ) src.n 0 st1 []) Q) I ⟨as, ρ, st, en, rp, ?_⟩) fun v s1 h1 => thn h1 fun itv s2 h2 => ?_
 ·unfold Yme at h
  cases q : mi ρ st with
  | bad => show 148
  | exc k st' => show 148
  | ok src st1 =>
   rw [q] at h
   exact fun as1 H1 J x rp1 ok => ⟨as1, src, st1, x, rp1, ok, YlW.ext x h⟩
 obtain ⟨it, fp, tn, J, H2, rfl, I2, T, st2, f2, as1, src, st1, x1, rp1, ok, hp⟩ := h2
 have hfo : ∀ b ∈ fp, ∃ o, s2.heap.get? b = some o := fun b hb => let ⟨o, e, _⟩ := T.obj 0 _ st2 b hb; ⟨o, e⟩
 have hfl : ∀ b ∈ fp, b < s2.heap.objs.size := fun b hb => let ⟨o, e⟩ := hfo b hb; ZAE e
 refine wpAny_newObj_type (wpAny_newFunctionEnv c.cell (by intro y hy; simp at hy) (fun h₁ hns hsb => ?_) c.kind)
 dsimp only at hns hsb ⊢
 generalize hH2 : s2.heap.push { cls := .type "list", dict := none, data := .seq ([] : List Value).toArray } = G at hns hsb ⊢
 have hGC : G.objs.size = s2.heap.objs.size + 1 := by rw [<- hH2, ZAa]
 have hDC : s2.heap.objs.size ≠ G.objs.size := by omega
 have hC : s2.heap.objs.size <= G.objs.size := by omega
 have keep : ∀ b o, s2.heap.get? b = some o -> h₁.get? b = some o := fun b o e => hsb.extBut b o (ZAL (ZAM (ZAE e) hC)) (ZAC _ (hH2 ▸ ZAC _ e))
 have hD0 : h₁.get? s2.heap.objs.size = some { cls := .type "list", data := .seq ([] : List Value).toArray 0 } := hsb.extBut _ _ hDC (ZAC _ (hH2 ▸ ZAK _ rfl))
 have hns' : h₁.Ns G.objs.size fun _ => none := by simpa using hns
 obtain ⟨bg, bt, be⟩ := hb G.objs.size s2 H2 fp
 have HD0 : H2 s2.heap.objs.size = none := I2.hok.fresh (ZAI _)
 have loop : ∀ s₃ : Shared, s₃ = { s2 with heap := h₁, toks := s2.toks + ([] : List (Str × Value)).length } ->
  codeAny (model X.prog X.w) X.A (.compLoop (.ListComp elt [⟨tg, iter, ifs, 0⟩] scope pos) 0 (.ref it) (.ref s2.heap.objs.size) (compEnvC scope (Yl3 X.env.cells scope.names []) G.objs.size X.env))
   (compPost (model X.prog X.w) X.A X.xe use Q0 (.ref s2.heap.objs.size) G.objs.size) s₃ := by
  rintro s₃ rfl
  have IY := Yfa (tk := s2.toks + ([] : List (Str × Value)).length) c I2 f2 hfo hC keep hns'
  have stat : ∀ {H' : Hp} {pl : LAO}, (∀ b ∈ fp, H' b = none) -> (∀ p ∈ pl, ∀ b ∈ fp, p.1 ≠ b) -> ∀ b ∈ fp, Ymt (YlT X scope (TN ++ FN) G.objs.size s2 H2 fp) pl H' b := fun {H' pl} hn hpl b hb => by
   obtain ⟨f0, f1, f2', f3, f4, f5⟩ := f2 b hb
   refine ⟨hn b hb, ?_, ?_, .inl hb, fun y a e => f4 y a (c.cl e), fun p hp => hpl p hp b hb⟩
   ·exact ZAL (ZAM (hfl b hb) hC)
   ·intro z
    rcases ZAZ.mp (I2.stkSub b z) with e | e
    ·exact f1 e
    ·exact f2' e
  have nDf : s2.heap.objs.size ∉ frs X.stack := fun z => by
   rcases ZAZ.mp (I2.stkSub _ z) with e | e
   ·exact absurd (e ▸ I2.lt) (ZBJ _)
   ·exact I2.nofs (ZAI _) e
  have cellD : ∀ y a, X.env.cells.lookup y = some a -> a ≠ s2.heap.objs.size := fun y a e => by
   obtain ⟨v, q⟩ := I2.cell y a e
   exact ZAL q.lt
  refine YdV (fun n s' => ∃ i as' st' H' σ' acc vs its m, Inv (YlT X scope (TN ++ FN) G.objs.size s2 H2 fp) [] σ' H' s' /\ YlM X.K as' H' (rho0 TN.length fr ρ) σ' /\ Ext as1 H2 as' H' /\ Rep X.K as' st' H' /\ tn i s'.heap /\ (∀ b ∈ fp, H' b = none) /\
   s'.heap.get? s2.heap.objs.size = some { cls := .type "list", data := .seq its.toArray m } /\ H' s2.heap.objs.size = none /\ Vals vs its /\ Dens X.K as' H' vs acc /\ acc.length <= cap /\ YlW X as' H' ρ (YlX src g nt me (rho0 TN.length fr ρ) n i st' acc) Q) ?_ src.n
   ⟨0, as1, st1, H2, _, [], [], [], 0, IY, env0 (YlM.ext x1 en), Ext.refl, rp1, T.keep _ _ _ st2 fun b hb o e => keep b o e, fun b hb => (f2 b hb).1, hD0, HD0, .nil, .nil, ZBM _, hp⟩
  rintro n s3 ⟨i, as3, st3, H3, σ3, acc, vs, its, m, I3, en3, x3, rp3, tn3, fr3, hD, nD, rv, dn, hl, h⟩
  have nDloc : s2.heap.objs.size ≠ (YlT X scope (TN ++ FN) G.objs.size s2 H2 fp).env.locals := hDC
  have IP : Inv (YlT X scope (TN ++ FN) G.objs.size s2 H2 fp) [(s2.heap.objs.size, { cls := .type "list", data := .seq its.toArray m })] σ3 H3 s3 := I3.pins_of fun p hp => by
   have e : p = (s2.heap.objs.size, { cls := .type "list", data := .seq its.toArray m }) := by simpa using hp
   subst e
   exact ⟨hD, nD, nDloc, nDf, fun v z => by cases z⟩
  have hpl : ∀ p ∈ [(s2.heap.objs.size, ({ cls := .type "list", data := .seq its.toArray m } : Obj))], ∀ b ∈ fp, p.1 ≠ b := fun p hp b hb => by
   have e : p = (s2.heap.objs.size, { cls := .type "list", data := .seq its.toArray m }) := by simpa using hp
   subst e
   exact ZA5 (hfl b hb)
  have done : src.nx i st3 = some none -> YlW X as3 H3 ρ (.ok acc st3) Q -> wpAny (model X.prog X.w) X.A (pyNext (.ref it)) (fun r s₁ => r = none /\ compPost (model X.prog X.w) X.A X.xe use Q0 (.ref s2.heap.objs.size) G.objs.size (.ok .next) s₁)
   (notedBy (model X.prog X.w) X.A (compEnvC scope (Yl3 X.env.cells scope.names []) G.objs.size X.env) fun e s' => compPost (model X.prog X.w) X.A X.xe use Q0 (.ref s2.heap.objs.size) G.objs.size (.error e) s') s3 := fun e h => by
   refine thn (T.done (YlT X scope (TN ++ FN) G.objs.size s2 H2 fp) rfl rfl rfl hc i _ s3 σ3 H3 _ IP (stat fr3 hpl) tn3 (ok.stop i as3 st3 H3 x3 rp3 e)) fun r s4 ⟨hr, I4⟩ => ⟨hr, ?_⟩
   obtain ⟨m4, hn4, _⟩ := id I4.loc
   obtain ⟨hD4, nD4, _⟩ := I4.pin _ (ZAc _ ZAQ)
   have inv : ∀ h', Heap.SameBut G.objs.size s4.heap h' -> Inv X pins σ (upd H3 s2.heap.objs.size (.lst vs)) { s4 with heap := h' } := fun h' sb => by
    have un : Un (frs X.stack) fp H2 H3 s2.heap h' := by
     have u := I4.base
     have up : ∀ b o, s2.heap.get? b = some o -> b ≠ G.objs.size := fun b o e => ZAL (ZAM (ZAE e) hC)
     exact ⟨fun b o e n hb hx => (sb.2 b (up b o e)).trans (u.keep b o e n hb hx), fun b o e n hb hx => let ⟨sl, q⟩ := u.slot b o e n hb hx; ⟨sl, (sb.2 b (up b o e)).trans q⟩, u.free, fun b o e hx => let ⟨o', q⟩ := u.there b o e hx; ⟨o', (sb.2 b (up b o e)).trans q⟩, u.tups, u.frzs, u.tbls⟩
    have hok : HOk X.prog X.w H3 h' := fun b u e => (I4.hok b u e).stay (fun c' v hc' q => by
     refine (sb.2 c' ?_).trans q
     rintro rfl
     have nC : H3 G.objs.size = none := I4.free
     rcases hc' with z | z
     ·rw [<- z, nC] at e; cases e
     ·rw [nC] at z; cases z) (fun _ q => q) fun _ _ q => q
    have IX : Inv X pins σ H3 { s4 with heap := h' } := I2.call' (s' := { s4 with heap := h' }) (ch := fp) I4.os un hok I4.bare fun b hb => ⟨(f2 b hb).2.2.2.1, (f2 b hb).2.1, (f2 b hb).2.2.2.2.1, (f2 b hb).2.2.2.2.2⟩
    have hDh : h'.get? s2.heap.objs.size = some { cls := .type "list", data := .seq its.toArray m } := (sb.2 _ hDC).trans hD4
    have IT := Inv.track (s := { s4 with heap := h' }) IX hDh nD rv (by rw [dn.length]; exact ZAR hl Yp) I2.sz (by have := I2.lt; exact ZA5 this) cellD (fun p hp => ZAL (ZAE (I2.pin p hp).1))
    exact IT
   have nC : (upd H3 s2.heap.objs.size (.lst vs)) G.objs.size = none := by rw [Yg (ZA1 hDC)]; exact I4.free
   exact hend s4 G.objs.size s2.heap.objs.size _ ⟨m4, hn4⟩ nC (I2.fpOk hC nC) inv (h as3 _ _ vs (Ext.laid nD) (rp3.laid nD) Yj (rp3.fresh nD) (dn.ext (Ext.laid nD)))
  have bad : ∀ {r : Option Value -> Shared -> Prop} {E : VSP}, False -> wpAny (model X.prog X.w) X.A (pyNext (.ref it)) r E s3 := fun f => f.elim
  cases e : src.nx i st3 with
  | none => cases n <;> (simp only [YlX, e] at h; exact h.elim)
  | some o =>
   cases o with
   | none =>
    have h' : YlW X as3 H3 ρ (.ok acc st3) Q := by cases n <;> (simp only [YlX, e] at h; exact h)
    exact thn (done e h') fun r s4 ⟨hr, q⟩ => by subst hr; exact q
   | some p =>
    cases n with
    | zero => simp only [YlX, e] at h; exact h.elim
    | succ n =>
     obtain ⟨g1, g2⟩ := ok.go i as3 st3 H3 p x3 rp3 e
     cases zg : g p (rho0 TN.length fr ρ) st3 with
     | none => simp only [YlX, e, zg] at h; exact h.elim
     | some ρ1 =>
      obtain ⟨gl, gk⟩ := hgo _ _ _ _ zg
      refine thn (T.item (YlT X scope (TN ++ FN) G.objs.size s2 H2 fp) rfl rfl rfl hc i _ s3 σ3 H3 _ IP (stat fr3 hpl) tn3 g1) fun r s4 ⟨u, hr, h4⟩ => ?_
      subst hr
      refine thn h4 fun _ s5 ⟨x, H5, I5, r5, y5, st5, fr5⟩ => ?_
      obtain ⟨x5, rp5, d5⟩ := g2 x H5 y5
      have nD5 : H5 s2.heap.objs.size = none := (I5.pin _ (ZAc _ ZAQ)).2.1
      have I5' := I5.pinned (stat fr5 hpl) (T.obj _ _ st5)
      refine ZA7 (bg _ s5 σ3 H5 x u (fun σ' H' => H' = H5 /\ YlM X.K as3 H5 ρ1 σ') I5' r5 ⟨as3, _, st3, p, ρ1, en3.ext x5, rp5, d5, zg, fun σ' en' => ⟨rfl, en'⟩⟩) (fun _ s6 ⟨σ6, H6, I6, e6, en6⟩ => ?_) fun _ _ f => f.elim
      subst e6
      cases zt : nt ρ1 st3 with
      | bad => simp only [YlX, e, zg, zt] at h; exact h.elim
      | exc k st' => simp only [YlX, e, zg, zt] at h; exact h.elim
      | ok k st4 =>
       refine ZA7 (bt _ s6 σ6 H6 (fun k' H' => k' = k /\ ∃ as', Ext as3 H6 as' H' /\ Rep X.K as' st4 H') I6 ⟨as3, ρ1, st3, en6, rp5, by rw [zt]; exact fun as' H' x rp => ⟨rfl, as', x, rp⟩⟩) (fun k' s7 ⟨H7, I7, ek, as7, x7, rp7⟩ => ?_) fun _ _ f => f.elim
       subst ek
       have fin : ∀ {H8 : Hp} {s8 : Shared} {as8 : List Addr} {st8 : Yls} {acc' : List P} {vs' : List V} {its' : List Value} {m' : Nat} {s9 : Shared}, Inv (YlT X scope (TN ++ FN) G.objs.size s2 H2 fp) ([] : LAO) σ6 H8 s9 -> Ext as7 H7 as8 H8 -> Rep X.K as8 st8 H8 ->
        tn (i + 1) s9.heap -> (∀ b ∈ fp, H8 b = none) -> s9.heap.get? s2.heap.objs.size = some { cls := .type "list", data := .seq its'.toArray m' } -> H8 s2.heap.objs.size = none -> Vals vs' its' -> Dens X.K as8 H8 vs' acc' -> acc'.length <= cap ->
        YlW X as8 H8 ρ (YlX src g nt me (rho0 TN.length fr ρ) n (i + 1) st8 acc') Q -> ∃ m, m < n + 1 /\ ∃ i as' st' H' σ' acc vs its m_1, Inv (YlT X scope (TN ++ FN) G.objs.size s2 H2 fp) [] σ' H' s9 /\ YlM X.K as' H' (rho0 TN.length fr ρ) σ' /\ Ext as1 H2 as' H' /\ Rep X.K as' st' H' /\ tn i s9.heap /\ (∀ b ∈ fp, H' b = none) /\
         s9.heap.get? s2.heap.objs.size = some { cls := .type "list", data := .seq its.toArray m_1 } /\ H' s2.heap.objs.size = none /\ Vals vs its /\ Dens X.K as' H' vs acc /\ acc.length <= cap /\ YlW X as' H' ρ (YlX src g nt me (rho0 TN.length fr ρ) m i st' acc) Q :=
        fun {H8 s8 as8 st8 acc' vs' its' m' s9} I8 x8 rp8 t8 fr8 hD8 nD8 rv8 dn8 hl8 h8 => ⟨n, ZAz n, i + 1, as8, st8, H8, σ6, acc', vs', its', m', I8, YlM.ext x8 (YlM.ext x7 (en6.back gl gk)), ((x3.trans x5).trans x7).trans x8, rp8, t8, fr8, hD8, nD8, rv8, dn8, hl8, h8⟩
       have stay : ∀ {H8 : Hp} {s8 : Shared}, Inv (YlT X scope (TN ++ FN) G.objs.size s2 H2 fp) ([(s2.heap.objs.size, ({ cls := .type "list", data := .seq its.toArray m } : Obj))] ++ Ynm fp s5.heap) σ6 H8 s8 ->
        tn (i + 1) s8.heap /\ (∀ b ∈ fp, H8 b = none) /\ s8.heap.get? s2.heap.objs.size = some { cls := .type "list", data := .seq its.toArray m } /\ H8 s2.heap.objs.size = none := fun {H8 s8} I8 => by
        refine ⟨T.keep _ _ _ st5 fun b hb o e => (I8.pin (b, o) (ZAc _ (ZAc _ (Z5 hb e)))).1, fun b hb => ?_, ?_⟩
        ·obtain ⟨o, e, d⟩ := T.obj _ _ st5 b hb
         exact (I8.pin (b, o) (ZAc _ (ZAc _ (Z5 hb e)))).2.1
        ·have q := I8.pin (s2.heap.objs.size, { cls := .type "list", data := .seq its.toArray m }) (ZAc _ (ZBk _ ZAQ))
         exact ⟨q.1, q.2.1⟩
       have nopins : ∀ {H8 : Hp} {s8 : Shared} {pl : LAO}, Inv (YlT X scope (TN ++ FN) G.objs.size s2 H2 fp) pl σ6 H8 s8 -> Inv (YlT X scope (TN ++ FN) G.objs.size s2 H2 fp) [] σ6 H8 s8 := fun {H8 s8 pl} I8 => I8.pins_of fun p hp => by cases hp
       cases k' with
       | false =>
        simp only [YlX, e, zg, zt] at h
        rw [ZAF ZAN]
        obtain ⟨t7, f7, hD7, nD7⟩ := stay I7
        exact fin (s8 := s7) (nopins I7) Ext.refl rp7 t7 f7 hD7 nD7 rv (dn.ext (x5.trans x7)) hl (YlW.ext (x5.trans x7) h)
       | true =>
        rw [ZAG rfl]
        cases ze : me ρ1 st4 with
        | bad => simp only [YlX, e, zg, zt, ze] at h; exact h.elim
        | exc k st' => simp only [YlX, e, zg, zt, ze] at h; exact h.elim
        | ok q st8 =>
         simp only [YlX, e, zg, zt, ze] at h
         by_cases hlt : acc.length < cap
         ·rw [ZAG hlt] at h
          refine ZA7 (be _ s7 σ6 H7 (fun v' H' => ∃ as', Ext as7 H7 as' H' /\ Rep X.K as' st8 H' /\ Den X.K as' H' v' q) I7 ⟨as7, ρ1, st4, en6.ext x7, rp7, by rw [ze]; exact fun as' H' v' x rp d => ⟨as', x, rp, d⟩⟩) (fun w' s8 ⟨y, H8, I8, r8, as8, x8, rp8, d8⟩ => ?_) fun _ _ f => f.elim
          obtain ⟨t8, f8, hD8, nD8⟩ := stay I8
          have hll : its.length <= cap := by rw [<- rv.length, dn.length]; exact hl
          refine call_meets F.slot_list_append ⟨_, hD8, rfl⟩ F.entry_list_append (F.args_list_append_2 _ _) (PySem.list_append s2.heap.objs.size its.toArray m w' (by rw [ZAj]; exact ZAR hll Yp)) ⟨hD8, ?_⟩
          have hD9 := PySem.IsL.update hD8 (fun a => a.push w')
          rw [show its.toArray.push w' = (its ++ [w']).toArray by simp] at hD9
          have oth : ∀ b o, b ≠ s2.heap.objs.size -> s8.heap.get? b = some o -> (s8.heap.update s2.heap.objs.size (Obj.mapSeq fun a => a.push w')).get? b = some o := fun b o hb e => (ZAt _ _ (ZA1 hb)).trans e
          have I9 : Inv (YlT X scope (TN ++ FN) G.objs.size s2 H2 fp) [] σ6 H8 { s8 with heap := s8.heap.update s2.heap.objs.size (Obj.mapSeq fun a => a.push w'), toks := s8.toks } :=
           Inv.turned (it := s2.heap.objs.size) (nopins I8) oth nD8 nDloc (.inr (ZAI _)) (fun y a e => cellD y a (c.cl e)) fun p hp => by cases hp
          refine fin (s8 := s8) (its' := its ++ [w']) I9 x8 rp8 (T.keep _ _ _ t8 fun b hb o e => oth b o (ZAL (hfl b hb)) e) f8 hD9 nD8 (rv.append (.cons r8 .nil)) ((dn.ext ((x5.trans x7).trans x8)).append (.cons d8 .nil)) ?_ (YlW.ext ((x5.trans x7).trans x8) h)
          rw [ZAH, ZAV]; exact hlt
         ·rw [ZAF hlt] at h; exact h.elim
 exact codeAny_compStart_list (loop _ rfl) (T.self _ 0 _ _ _ (T.keep _ _ _ st2 fun b hb o e => keep b o e) (loop _ rfl))
theorem Zb {elt tg iter : Expr} {ifs : List Expr} {scope : Scope} {pos : Pos} {TN FN : List Str} {fr : List Nat} {mi : MI} {g : MG} {nt : MT} {me : ME} (hc : X.calm = true) (c : Ymk X scope TN FN fr) (hi : JI X tg iter mi) (hgo : Ynw TN.length g)
 (hb : ∀ C s₀ H₀ ex, JG (YlT X scope (TN ++ FN) C s₀ H₀ ex) tg g /\ JTs (YlT X scope (TN ++ FN) C s₀ H₀ ex) ifs nt /\ JE (YlT X scope (TN ++ FN) C s₀ H₀ ex) elt me)
 (hs : ∀ x, foldedSetIterable iter X.env x = pure x := by intro _; rfl) : JL X (.ListComp elt [⟨tg, iter, ifs, 0⟩] scope pos) (Yme mi TN.length fr g nt me) := by
 intro pins s σ H Q I ht
 rw [eval_ListComp]
 exact YaM hc c hi hgo hb hs I ht fun s4 C D H' ⟨m, hn⟩ _ _ inv q => ⟨m, hn, fun h' sb => ⟨.ref D, H', inv h' sb, rfl, q⟩⟩
def YnP (i : Nat) (ml : MA) : MS := fun ρ st => RS.ofE ρ (ml ρ st) fun ps st1 => .nx (ρ.set i (some (.ref st1.length))) (st1 ++ [.lst ps])
theorem Ydk {elt tg iter : Expr} {ifs : List Expr} {scope : Scope} {pos pos' cpos : Pos} {TN FN : List Str} {fr : List Nat} {mi : MI} {g : MG} {nt : MT} {me : ME} {i : Nat} {x : Str} (hN : X.N.Nodup) (hi' : X.N[i]? = some x) (hx : Loc X.env.scope x)
 (hc : X.calm = true) (c : Ymk X scope TN FN fr) (hi : JI X tg iter mi) (hgo : Ynw TN.length g)
 (hb : ∀ C s₀ H₀ ex, JG (YlT X scope (TN ++ FN) C s₀ H₀ ex) tg g /\ JTs (YlT X scope (TN ++ FN) C s₀ H₀ ex) ifs nt /\ JE (YlT X scope (TN ++ FN) C s₀ H₀ ex) elt me)
 (hs : ∀ x, foldedSetIterable iter X.env x = pure x := by intro _; rfl) (hsw : swapsWith (.ListComp elt [⟨tg, iter, ifs, 0⟩] scope cpos) (some (.Name x pos')) pos.line X.env = pure true := by rfl)
 (hf : X.fn x = true \/ X.env.scope.names.lookup x = some .local := by first | exact .inl rfl | exact .inr rfl | assumption) :
 JS X (.Assign [.Name x pos'] (.ListComp elt [⟨tg, iter, ifs, 0⟩] scope cpos) pos) (YnP i (Yme mi TN.length fr g nt me)) := by
 intro pins s σ H D I ⟨as, ρ, st, en, rp, h⟩
 rw [exec_Assign_Name_used _ _ _ _ hsw]
 refine ZAA (ZCc (ZAA ?_))
 rw [arm_evalThenUse_ListComp]
 show 138
 refine YaM (Q := fun v H' => ∃ as' ρ' st', YlM X.K as' H' ρ σ /\ Rep X.K as' st' H' /\ Den X.K as' H' v (.ref (st'.length - 1)) /\ ρ' = ρ.set i (some (.ref (st'.length - 1))) /\ YlN X as' H' (.nx ρ' st') D) hc c hi hgo hb hs I ⟨as, ρ, st, en, rp, ?_⟩ ?_
 ·unfold YnP at h
  cases q : Yme mi TN.length fr g nt me ρ st with
  | bad => show 148
  | exc k st' => show 148
  | ok ps st1 =>
   rw [q] at h
   intro as' H' l vs x rp' hl fr' d
   have en' : YlM X.K (as' ++ [l]) H' ρ σ := (en.ext x).ext Ext.add
   have rp'' : Rep X.K (as' ++ [l]) (st1 ++ [.lst ps]) H' := rp'.add fr' ⟨vs, hl, d.ext Ext.add⟩
   have el : (st1 ++ [O.lst ps]).length - 1 = st1.length := by simp
   refine ⟨as' ++ [l], _, st1 ++ [.lst ps], en', rp'', ?_, rfl, ?_⟩
   ·rw [el]; exact .ref (by rw [<- rp'.len]; exact VL)
   ·rw [el]; exact YlN.ext (x.trans Ext.add) h
 ·intro s4 C Dl H' ⟨m, hn⟩ nC fo inv ⟨as', ρ', st', en', rp', d', hρ, hq⟩
  have I4 : Inv X pins σ H' s4 := inv s4.heap (Heap.SameBut.refl _ _)
  show wpAny _ _ (assign (.Name x pos') X.env (.ref Dl)) _ _ _
  refine wpAny_assign_Name (Ya0 I4 hN hi' hx (v := .ref Dl) rfl (fun s5 I5 ⟨a, sb, ha⟩ => ?_) hf)
  have hCa : C ≠ a := by
   rcases ha with rfl | ha
   ·exact fo.2.1
   ·exact fun z => fo.2.2.2.2.1 x a ha z.symm
  have hn5 : s5.heap.Ns C m := by
   obtain ⟨o, es, ep, e, r⟩ := hn
   exact ⟨o, es, ep, (sb.2 C hCa).trans e, r⟩
  refine ⟨m, hn5, fun h' sb' => ZAB ?_⟩
  have I6 : Inv X pins (σ.set i (some (.ref Dl))) H' { s5 with heap := h', toks := s5.toks } := I5.turned (it := C) (fun b o hb e => (sb'.2 b hb).trans e) nC fo.2.1 fo.2.2.2.1 fo.2.2.2.2.1 fo.2.2.2.2.2
  refine ZAB ⟨σ.set i (some (.ref Dl)), H', I6, hq as' H' _ Ext.refl rp' ?_⟩
  rw [hρ]
  exact en'.set d'
end
abbrev MF := List P -> Yls -> R P
def fnM (n : Nat) (m : MS) : MF := fun ps st => match m (ps.map some ++ List.replicate (n - ps.length) none) st with
 | .nx _ st' => .ok .non st'
 | .rt p st' => .ok p st'
 | _ => .bad
def spM (K : Frag) (n : Nat) (mf : MF) : Sp := fun vs H Q _ => vs.length = n /\ ∃ as st ps, Rep K as st H /\ Dens K as H vs ps /\ match mf ps st with
 | .ok p st' => ∀ as' H' v, Ext as H as' H' -> Rep K as' st' H' -> Den K as' H' v p -> Q v H'
 | _ => False
abbrev FM (P' : Program) (w : World) (K : Frag) (mg : SOV) (base : Heap) (k : Nat) (f : Addr) (fd : FuncData) (ps : List Str) (mf : MF) : Prop := Ym7 P' w K mg base CX0 k f fd ps (spM K ps.length mf)
theorem Yeg {K : Frag} {as : List Addr} {H : Hp} {vs : List V} {ps : List P} {N : List Str} (d : Dens K as H vs ps) : YlM K as H (ps.map some ++ List.replicate (N.length - ps.length) none) (L2.start N vs) :=
 ⟨by unfold L2.start; simp [d.length], fun i p e => by
  have hl := d.length
  by_cases hi : i < ps.length
  ·rw [List.getElem?_append_left (by simpa using hi), List.getElem?_map] at e
   cases q : ps[i]? with
   | none => show 193
   | some p' =>
    rw [q] at e
    cases e
    obtain ⟨v, h1, h2⟩ := d.get q
    refine ⟨v, ?_, h2⟩
    unfold L2.start
    rw [List.getElem?_append_left (by simp; omega), List.getElem?_map, h1]
    rfl
  ·rw [List.getElem?_append_right (by simpa using hi), List.getElem?_replicate] at e
   split at e <;> cases e⟩
section
variable {P' : Program} {w : World} {K : Frag} {mg : SOV} {base : Heap}
theorem Fun.mirror {x qual : Str} {st : Stmt} {f : Addr} {fd : FuncData} {N ps : List Str} {k : Nat} {m : MS} (F : Fun K x qual st f fd) (S : YlH N ps (Ylu st))
 (hbody : ∀ (cdv : Value) (A : Around) (outer : List Env) (s : Shared) (H : Hp) (E : XK), Ymm k (A.deeper (envOfC qual (Ylu st) s.heap.objs.size f cdv)) -> JSs (YnL CX0 P' w K mg base N qual (Ylu st) f cdv A outer s H E).nox (YlB st) m) :
 FM P' w K mg base (k + 1) f fd ps (fnM N.length m) := by
 refine F.ok S (fun vs H Q E h => h.1) (fun cdv A outer s H vs Q E hr h => ⟨_, hbody cdv A outer s H E hr, ?_⟩)
 obtain ⟨hl, as, st', qs, rp, d, h⟩ := h
 refine ⟨as, _, st', Yeg d, rp, ?_⟩
 unfold fnM at h
 cases q : m (qs.map some ++ List.replicate (N.length - qs.length) none) st' with
 | nx ρ' s' => rw [q] at h; exact fun as' H' σ' x rp en => h as' H' .non x rp .non
 | rt p s' => show 148
 | bk ρ' s' => show 232
 | ct ρ' s' => show 232
 | exc k ρ' s' => show 232
 | bad => show 232
end
section
variable {X : Cx} {k : Nat} {f : Addr} {fd : FuncData} {ps : List Str} {mf : MF} {x : Str} {p pos : Pos} {e : Expr} {es : List Expr} {mr : MA}
def YlI (n : Nat) (mf : MF) (mr : MA) : ME := fun ρ st => (mr ρ st).bind fun ps st1 => if ps.length = n then match mf ps st1 with
 | .ok p st2 => .ok p st2
 | _ => .bad else .bad
theorem YhM (F : FM X.prog X.w X.K X.mg X.base k f fd ps mf) (hr : Ymm k X.A) (hg : Gl X x) (hm : X.mg x = some (.ref f)) (hk : PySem.W.keepIn X.K (.ref f) = true) (hb : Binds X.K fd ps [])
 (ha : JA X (e :: es) mr) (hdb : (x == ("__debug__" : Str)) = false := by decide) (he : starEach (e :: es) X.env = (false, eval e X.env) :: starEach es X.env := by rfl) (hpl : (backTo pos (starEach es X.env)).any (·.1) = false := by rfl) :
 JE X (.Call (.Name x p) (e :: es) [] pos) (YlI ps.length mf mr) :=
 PE.imp (Yht F hr hg hm hk hb .nil (pass0 (X := X)) ha hdb he hpl) fun σ H Q ⟨as, ρ, st, en, rp, h⟩ => ⟨as, ρ, st, en, rp, YlJ.bindA h fun qs st1 as1 H1 vs x rp1 d h1 => by
  rw [ZBd]
  by_cases hl : qs.length = ps.length
  ·rw [ZAG hl] at h1
   refine ⟨by rw [d.length]; exact hl, as1, st1, qs, rp1, d, ?_⟩
   cases z : mf qs st1 with
   | ok p' st2 => rw [z] at h1; exact h1
   | exc k s' => rw [z] at h1; exact h1.elim
   | bad => rw [z] at h1; exact h1.elim
  ·rw [ZAF hl] at h1; exact h1.elim⟩
end
abbrev GC := List P -> Yls -> Option (P × Yls)
def rMC (X : Cx) (g : GC) : List V -> Hp -> VK -> Prop := fun xs H Q => ∃ as st ps, Rep X.K as st H /\ Dens X.K as H xs ps /\ YlL X as H (g ps st) Q
def eB (g : GC) (mr : MA) : ME := fun ρ st => (mr ρ st).bind fun ps st1 => ofO (g ps st1)
section
variable {X : Cx} {x : Str} {p pos : Pos} {e : Expr} {es : List Expr} {mr : MA} {id T : String} {g : GC}
theorem Yl0.imp {f : Value} {r r' : List V -> Hp -> VK -> Prop} (h : Yl0 X f r) (i : ∀ xs H Q, r' xs H Q -> r xs H Q) : Yl0 X f r' := fun pins s σ H xs us Q I rv q => h pins s σ H xs us Q I rv (i xs H Q q)
theorem Yf9 {σ : St} {H : Hp} {Q : VK} (h : tE X (eB g mr) σ H Q) : tCB (rMC X g) (tA X mr) σ H Q := by
 show 209
 exact ⟨as, ρ, st, en, rp, YlJ.bindA h fun ps st1 as1 H1 vs x rp1 d h1 => ⟨as1, st1, ps, rp1, d, YlJ.ofO h1⟩⟩
theorem je_B (hc : Yl0 X (.builtin id) (rMC X g)) (hg : Gl X x) (hm : X.mg x = none) (hv : bootBuiltins x = some (.builtin id)) (ha : JA X (e :: es) mr) (hn : x ≠ "__name__" := by decide) (hdb : (x == ("__debug__" : Str)) = false := by decide)
 (he : starEach (e :: es) X.env = (false, eval e X.env) :: starEach es X.env := by rfl) (hpl : (backTo pos (starEach es X.env)).any (·.1) = false := by rfl) : JE X (.Call (.Name x p) (e :: es) [] pos) (eB g mr) :=
 PE.imp (Ycc hc hg hm hv ha hn hdb he hpl) fun _ _ _ h => Yf9 h
theorem Yce (hc : Yl0 X (.type T) (rMC X g)) (hg : Gl X x) (hm : X.mg x = none) (hv : bootBuiltins x = some (.type T)) (ha : JA X (e :: es) mr) (hn : x ≠ "__name__" := by decide) (hdb : (x == ("__debug__" : Str)) = false := by decide)
 (he : starEach (e :: es) X.env = (false, eval e X.env) :: starEach es X.env := by rfl) (hpl : (backTo pos (starEach es X.env)).any (·.1) = false := by rfl) : JE X (.Call (.Name x p) (e :: es) [] pos) (eB g mr) :=
 PE.imp (Ya2 hc hg hm hv ha hn hdb he hpl) fun _ _ _ h => Yf9 h
theorem cM {f : Value} (h : ∀ pins s σ H xs us Q as st ps, Inv X pins σ H s -> Vals xs us -> Rep X.K as st H -> Dens X.K as H xs ps -> YlL X as H (g ps st) Q -> wpAny (model X.prog X.w) X.A (call f us) (EP X pins σ Q) X.xe s) : Yl0 X f (rMC X g) :=
 fun pins s σ H xs us Q I rv ⟨as, st, ps, rp, d, po⟩ => h pins s σ H xs us Q as st ps I rv rp d po
def YmA : GC := fun ps st => match ps with
 | [.str z] => if z.length <= cap then okP (.int z.length) st else none
 | [.ref k] => match st[k]? with
  | some (.lst xs) => okP (.int xs.length) st
  | some (.ro xs) => okP (.int xs.length) st
  | some (.dct kvs) => okP (.int kvs.length) st
  | _ => none
 | [.tup xs] => okP (.int xs.length) st
 | _ => none
theorem Dens.one {K : Frag} {as : List Addr} {H : Hp} {xs : List V} {p : P} (d : Dens K as H xs [p]) : ∃ v, xs = [v] /\ Den K as H v p := by
 cases d with
 | cons a b => cases b; exact ⟨_, rfl, a⟩
theorem Dens.two {K : Frag} {as : List Addr} {H : Hp} {xs : List V} {p q : P} (d : Dens K as H xs [p, q]) : ∃ v w, xs = [v, w] /\ Den K as H v p /\ Den K as H w q := by
 cases d with
 | cons a b =>
  cases b with
  | cons c d => cases d; exact ⟨_, _, rfl, a, c⟩
theorem Ylm {ps : List P} {α : Type} {f : P -> Option α} {r : α} (h : (match ps with | [p] => f p | _ => none) = some r) : ∃ p, ps = [p] /\ f p = some r := by
 match ps, h with
 | [p], h => exact ⟨p, rfl, h⟩
theorem ZD : Yl0 X (.builtin "len") (rMC X YmA) := cM fun pins s σ H xs us Q as st ps I rv rp d h => by
 match ps, d, h with
 | [], _, h => show 124
 | _ :: _ :: _, _, h => exact (by simp only [YmA] at h; exact h.elim)
 | [p], d, h =>
  show 236
  cases d1 with
  | @str z =>
   have h' : YlL X as H (if z.length <= cap then okP (.int z.length) st else none) Q := h
   by_cases hz : z.length <= cap
   ·rw [ZAG hz] at h'
    exact YbE pins s σ H _ us Q I rv ⟨z, rfl, ZAR hz Yp, h' as H _ Ext.refl rp .int⟩
   ·rw [ZAF hz] at h'; exact h'.elim
  | tup e r =>
   refine Z9 pins s σ H _ us Q I rv ⟨_, _, rfl, .inr e, ?_⟩
   rw [r.length]
   exact h as H _ Ext.refl rp .int
  | @ref k a e =>
   have h' : YlL X as H (match st[k]? with | some (.lst xs) => okP (.int xs.length) st | some (.ro xs) => okP (.int xs.length) st | some (.dct kvs) => okP (.int kvs.length) st | _ => none) Q := h
   cases q : st[k]? with
   | none => show 186
   | some o =>
    rw [q] at h'
    have ob := rp.ob k a o e q
    cases o with
    | lst ys =>
     show 177
     refine Z9 pins s σ H _ us Q I rv ⟨_, _, rfl, .inl (.of h1), ?_⟩
     rw [h2.length]
     show 208
    | ro ys =>
     show 177
     refine Z9 pins s σ H _ us Q I rv ⟨_, _, rfl, .inl (ZI h1), ?_⟩
     rw [h2.length]
     show 208
    | dct kvs =>
     obtain ⟨ws, h1, h2, h3⟩ := ob
     refine Ye4 pins s σ H _ us Q I rv ⟨_, _, rfl, h1, ?_⟩
     have : ws.length = kvs.length := by simpa using congrArg List.length h2
     show 143
     show 208
    | exc c fs => show 145
    | dtt kvs => show 145
    | fdc kvs => show 145
  | _ => show 124
def Yng : GC := fun ps st => match ps with
 | [p] => match Yl6 p st with
  | some xs => okP (.tup xs) st
  | none => none
 | _ => none
theorem Yfe : Yl0 X (.type "tuple") (rMC X Yng) := cM fun pins s σ H xs us Q as st ps I rv rp d h => by
 match ps, d, h with
 | [], _, h => show 124
 | _ :: _ :: _, _, h => exact (by simp only [Yng] at h; exact h.elim)
 | [p], d, h =>
  show 236
  have h' : YlL X as H (match Yl6 p st with | some xs => okP (.tup xs) st | none => none) Q := h
  cases q : Yl6 p st with
  | none => show 186
  | some xs =>
   rw [q] at h'
   obtain ⟨a, vs, rfl, hq, r⟩ := Yiw rp d1 q
   refine WQ pins s σ H _ us Q I rv ⟨a, vs, rfl, ?_⟩
   rcases hq with hq | ⟨hq, tk⟩
   ·exact .inl ⟨hq, fun l hl => h' as _ _ (Ext.laid hl) (rp.laid hl) (.tup (.of Yj) (r.ext (Ext.laid hl)))⟩
   ·exact .inr ⟨hq, h' as H _ Ext.refl rp (.tup hq r)⟩
def Yor (m : MA) : ME := fun ρ st => (m ρ st).bind fun ps st1 => .ok (.tup ps) st1
theorem YeQ {m : MA} (hg : Gl X "tuple") (hm : X.mg "tuple" = none) (hv : bootBuiltins "tuple" = some (.type "tuple")) (h : JL X e m)
 (he : starEach [e] X.env = (false, eval e X.env) :: starEach [] X.env := by rfl) : JE X (.Call (.Name "tuple" p) [e] [] pos) (Yor m) :=
 PE.imp (Ya2 WQ hg hm hv (Vb h YbF he) (by decide) (by decide) he) fun σ H Q ⟨as, ρ, st, en, rp, h⟩ => ⟨as, ρ, st, en, rp, YlJ.bindL h fun ps st1 as1 H1 l vs x rp1 hl fr d h1 =>
  ⟨l, vs, rfl, .inl ⟨.of hl, fun p hp => h1 as1 _ _ (Ext.laid hp) (rp1.laid hp) (.tup (.of Yj) (d.ext (Ext.laid hp)))⟩⟩⟩
end
abbrev GM := P -> List P -> Yls -> Option (P × Yls)
def rMM (X : Cx) (g : GM) : V -> List V -> Hp -> VK -> Prop := fun x xs H Q => ∃ as st p ps, Rep X.K as st H /\ Den X.K as H x p /\ Dens X.K as H xs ps /\ YlL X as H (g p ps st) Q
def isStr : P -> Yls -> Bool := fun p _ => match p with
 | .str _ => true
 | _ => false
def YmW : P -> Yls -> Bool := fun p st => match p with
 | .ref k => (match st[k]? with
  | some (.lst _) => true
  | some (.ro _) => true
  | _ => false)
 | _ => false
def eM (ty : P -> Yls -> Bool) (g : GM) (me : ME) (mr : MA) : ME := fun ρ st => (me ρ st).bind fun p st1 => if ty p st1 = true then (mr ρ st1).bind fun ps st2 => ofO (g p ps st2) else .bad
def YoL (T : String) (ty : P -> Yls -> Bool) : Prop := ∀ (K : Frag) as st H v p, Rep K as st H -> Den K as H v p -> ty p st = true -> tyV K T v H
theorem YfU : YoL "str" isStr := fun K as st H v p rp d h => by
 cases d with
 | str => rfl
 | _ => cases h
theorem VB : YoL "list" YmW := fun K as st H v p rp d h => by
 cases d with
 | @ref k a e =>
  have h' : (match st[k]? with | some (.lst _) => true | some (.ro _) => true | _ => false) = true := h
  cases q : st[k]? with
  | none => rw [q] at h'; cases h'
  | some o =>
   rw [q] at h'
   have ob := rp.ob k a o e q
   cases o with
   | lst ys => obtain ⟨vs, h1, _⟩ := ob; exact .inl ⟨rfl, vs, .of h1⟩
   | ro ys => obtain ⟨vs, h1, _⟩ := ob; exact .inl ⟨rfl, vs, ZI h1⟩
   | dct ys => cases h'
   | exc c fs => cases h'
   | dtt kvs => cases h'
   | fdc kvs => cases h'
 | _ => cases h
section
variable {X : Cx} {o e : Expr} {es : List Expr} {me : ME} {mr : MA} {name : Str} {apos cpos : Pos} {T id : String} {g : GM} {ty : P -> Yls -> Bool}
theorem YiQ (hT : YoL T ty) (pa : PlainAttrs T) (slot : Slot T name id) (hty : typeOf (.builtin id) = pure (.type "method_descriptor")) (hm : MtR X id (rMM X g)) (ho : JE X o me)
 (hbase : attributeBase o name X.env (eval o X.env) = eval o X.env := by rfl) (hline : (apos.endLine == cpos.line) = true := by rfl) : JE X (.Call (.Attribute o name apos) [] [] cpos) (eM ty g me YlA) :=
 PE.imp (YjV pa slot hty hm ho hbase hline) fun σ H Q ⟨as, ρ, st, en, rp, h⟩ => ⟨as, ρ, st, en, rp, YlJ.bindE h fun p st1 as1 H1 v x rp1 d h1 => by
  by_cases z : ty p st1 = true
  ·rw [ZAG z] at h1
   exact ⟨hT _ _ _ _ _ _ rp1 d z, as1, st1, p, [], rp1, d, .nil, YlJ.ofO h1⟩
  ·rw [ZAF z] at h1; exact h1.elim⟩
theorem je_M (hT : YoL T ty) (pa : PlainAttrs T) (slot : Slot T name id) (hty : typeOf (.builtin id) = pure (.type "method_descriptor")) (hm : MtR X id (rMM X g)) (ho : JE X o me) (ha : JA X (e :: es) mr)
 (hbase : attributeBase o name X.env (eval o X.env) = eval o X.env := by rfl)
 (hfew : ((backTo cpos (starEach (e :: es) X.env)).all (fun x => !x.1) && (backToKw cpos (keywordEach [] X.env)).all (fun x => x.1.isSome)
  && decide ((e :: es).length + ([] : List Keyword).length + (if ([] : List Keyword).isEmpty then 0 else 1) < 30)) = true := by rfl)
 (hline : (apos.endLine == cpos.line) = true := by rfl) (hs : starEach (e :: es) X.env = (false, eval e X.env) :: starEach es X.env := by rfl) (hplain : (backTo cpos (starEach es X.env)).any (·.1) = false := by rfl) :
 JE X (.Call (.Attribute o name apos) (e :: es) [] cpos) (eM ty g me mr) :=
 PE.imp (YiM pa slot hty hm ho ha hbase hfew hline hs hplain) fun σ H Q ⟨as, ρ, st, en, rp, h⟩ => ⟨as, ρ, st, en, rp, YlJ.bindE h fun p st1 as1 H1 v x rp1 d h1 => by
  by_cases z : ty p st1 = true
  ·rw [ZAG z] at h1
   exact ⟨hT _ _ _ _ _ _ rp1 d z, as1, ρ, st1, en.ext x, rp1, YlJ.bindA h1 fun ps st2 as2 H2 vs x2 rp2 d2 h2 => ⟨as2, st2, p, ps, rp2, d.ext x2, d2, YlJ.ofO h2⟩⟩
  ·rw [ZAF z] at h1; exact h1.elim⟩
theorem mM (h : ∀ pins s σ H x xs v us Q as st p ps, Inv X pins σ H s -> RelV x v -> Vals xs us -> Rep X.K as st H -> Den X.K as H x p -> Dens X.K as H xs ps -> YlL X as H (g p ps st) Q ->
 wpAny (model X.prog X.w) X.A (call (.builtin id) (v :: us)) (EP X pins σ Q) X.xe s) : MtR X id (rMM X g) :=
 fun pins s σ H x xs v us Q I rx rv ⟨as, st, p, ps, rp, d1, d2, po⟩ => h pins s σ H x xs v us Q as st p ps I rx rv rp d1 d2 po
def YpT : GM := fun p ps st => match p, ps with
 | .str x, [] => if x.length <= cap then okP (.str (Txt.upper x)) st else none
 | _, _ => none
def Ym6 : GM := fun p ps st => match p, ps with
 | .str x, [] => okP (.bl (Txt.isupper x)) st
 | _, _ => none
theorem JC : MtR X "str.isupper" (rMM X Ym6) := mM fun pins s σ H x xs v us Q as st p ps I rx rv rp d1 d2 h => by
 cases d1 with
 | str =>
  cases d2 with
  | cons a b => show 124
  | nil =>
   cases rv
   show 165
   exact SC.isupper ⟨.bl _, H, I, rfl, h as H _ Ext.refl rp .bl⟩
 | _ => show 124
def Yms : GM := fun p ps st => match p, ps with
 | .ref k, [q] => match YlQ st k with
  | some xs => if xs.length < cap then some (.non, st.set k (.lst (xs ++ [q]))) else none
  | none => none
 | _, _ => none
theorem ZN : MtR X "list.append" (rMM X Yms) := mM fun pins s σ H x xs v us Q as st p ps I rx rv rp d1 d2 h => by
 match p, ps, d1, d2, h with
 | .ref k, [q], d1, d2, h =>
  have h' : YlL X as H (match YlQ st k with | some xs => if xs.length < cap then some (.non, st.set k (.lst (xs ++ [q]))) else none | none => none) Q := h
  cases z : YlQ st k with
  | none => rw [z] at h'; exact h'.elim
  | some ys =>
   rw [z] at h'
   obtain ⟨a, vs, rfl, e, hk, h1, h2⟩ := VV rp d1 z
   obtain ⟨y, rfl, dy⟩ := d2.one
   by_cases hl : ys.length < cap
   ·simp only [if_pos hl] at h'
    refine YdL pins s σ H _ _ v us Q I rx rv ⟨a, vs, y, rfl, rfl, h1, by rw [h2.length]; exact ZAM hl Yp, ?_⟩
    exact h' as _ _ (Ext.write h1 trivial) (rp.lset e h1 hk (h2.append (.cons dy .nil))) .non
   ·simp only [if_neg hl] at h'; exact h'.elim
 | .ref k, [], _, _, h => show 124
 | .ref k, _ :: _ :: _, _, _, h => show 124
 | .non, _, _, _, h => show 124
 | .bl _, _, _, _, h => show 124
 | .int _, _, _, _, h => show 124
 | .str _, _, _, _, h => show 124
 | .tup _, _, _, _, h => show 124
def YmE : List P -> Option (List Str)
 | [] => some []
 | .str x :: r => (YmE r).map (x :: ·)
 | _ :: _ => none
theorem W3 {K : Frag} {as : List Addr} {H : Hp} : ∀ {ps : List P} {vs : List V} {us : List Value} {ys : List Str}, Dens K as H vs ps -> Vals vs us -> YmE ps = some ys -> StrsAre us ys
 | [], _, _, _, .nil, .nil, h => by cases h; exact .nil
 | p :: r, _, _, ys, .cons d d', .cons r1 r2, h => by
  cases d with
  | @str x =>
   have h' : (YmE r).map (x :: ·) = some ys := h
   cases q : YmE r with
   | none => rw [q] at h'; cases h'
   | some zs =>
    rw [q] at h'
    cases h'
    obtain ⟨t, rfl⟩ := r1
    exact .cons x t (W3 d' r2 q)
  | _ => cases h
def YmH (x : Str) (ys : List Str) : Nat := (ys.map (·.length)).sum + ys.length * x.length
def Ym1 (me : ME) (m : MA) : ME := fun ρ st => (me ρ st).bind fun p st1 => match p with
 | .str x => (m ρ st1).bind fun ps st2 => match YmE ps with
  | some ys => if YmH x ys <= cap then .ok (.str (Txt.join x ys)) st2 else .bad
  | none => .bad
 | _ => .bad
theorem Yfh : MtR X "str.join" (fun x xs H Q => ∃ z a vs ys, x = .str z /\ xs = [.ref a] /\ (SqL X.K H a vs \/ SqT X.K H a vs) /\ (∀ us, Vals vs us -> StrsAre us ys) /\ YmH z ys <= cap /\ Q (.str (Txt.join z ys)) H) := by
 intro pins s σ H x xs v us Q I rx rv h
 obtain ⟨z, a, vs, ys, rfl, rfl, hq, hs, hl, q⟩ := h
 show 165
 obtain ⟨u, rfl, ru⟩ := rv.one
 cases ru
 have hc : YmH z ys <= 16777216 := ZAR hl (by decide)
 show 195
 ·obtain ⟨its, r, p, _⟩ := I.list hq
  exact join_list p.isList (hs _ (by simpa using r)) hc fun t' k => ⟨.str _, H, I.tok _, ⟨_, rfl⟩, q⟩
 ·obtain ⟨its, r, p, _⟩ := I.tuple hq
  exact join_tuple p (hs _ (by simpa using r)) hc fun t' k => ⟨.str _, H, I.tok _, ⟨_, rfl⟩, q⟩
theorem Wz {m : MA} (ho : JE X o me) (h : JL X e m)
 (hbase : attributeBase o "join" X.env (eval o X.env) = eval o X.env := by rfl)
 (hfew : ((backTo cpos (starEach [e] X.env)).all (fun x => !x.1) && (backToKw cpos (keywordEach [] X.env)).all (fun x => x.1.isSome)
  && decide (([e] : List Expr).length + ([] : List Keyword).length + (if ([] : List Keyword).isEmpty then 0 else 1) < 30)) = true := by rfl)
 (hline : (apos.endLine == cpos.line) = true := by rfl) (hs : starEach [e] X.env = (false, eval e X.env) :: starEach [] X.env := by rfl) : JE X (.Call (.Attribute o "join" apos) [e] [] cpos) (Ym1 me m) :=
 PE.imp (YiM PySem.F.plainAttrs_str PySem.F.slot_str_join PySem.F.type_str_join Yfh ho (Vb h YbF hs) hbase hfew hline hs) fun σ H Q ⟨as, ρ, st, en, rp, h⟩ => ⟨as, ρ, st, en, rp, YlJ.bindE h fun p st1 as1 H1 v x rp1 d h1 => by
  cases d with
  | @str z =>
   refine ⟨rfl, as1, ρ, st1, en.ext x, rp1, YlJ.bindL h1 fun ps st2 as2 H2 l vs x2 rp2 hl fr d2 h2 => ?_⟩
   cases q : YmE ps with
   | none => rw [q] at h2; exact h2.elim
   | some ys =>
    rw [q] at h2
    by_cases hz : YmH z ys <= cap
    ·simp only [if_pos hz] at h2
     exact ⟨z, l, vs, ys, rfl, rfl, .inl (.of hl), fun us r => W3 d2 r q, hz, h2 as2 H2 _ Ext.refl rp2 .str⟩
    ·simp only [if_neg hz] at h2; exact h2.elim
  | _ => exact h1.elim⟩
end
def Ymr : P -> Option Key
 | .int i => some (.inl i)
 | .str x => some (.inr x)
 | _ => none
theorem WY {K : Frag} {as : List Addr} {H : Hp} {v : V} {p : P} {k : Key} (d : Den K as H v p) (h : Ymr p = some k) : v = kV k := by
 cases d with
 | int => cases h; rfl
 | str => cases h; rfl
 | _ => cases h
def YlO {κ : Type} [DecidableEq κ] (kvs : List (κ × P)) (k : κ) : Option P := (kvs.find? fun kv => decide (kv.1 = k)).map (·.2)
def Yma {κ : Type} [DecidableEq κ] (kvs : List (κ × P)) (k : κ) (v : P) : List (κ × P) :=
 if (kvs.any fun kv => decide (kv.1 = k)) = true then kvs.map fun kv => if kv.1 = k then (kv.1, v) else kv else kvs ++ [(k, v)]
inductive OptDen (K : Frag) (as : List Addr) (H : Hp) : Option V -> Option P -> Prop where
 | none : OptDen K as H none none
 | some {v : V} {p : P} : Den K as H v p -> OptDen K as H (some v) (some p)
section
variable {K : Frag} {as : List Addr} {H : Hp}
theorem Y5 {κ : Type} [DecidableEq κ] {k : κ} : ∀ {ws : List (κ × V)} {kvs : List (κ × P)}, ws.map (·.1) = kvs.map (·.1) -> Dens K as H (ws.map (·.2)) (kvs.map (·.2)) -> OptDen K as H (YmO ws k) (YlO kvs k)
 | [], [], _, _ => .none
 | [], _ :: _, h, _ => by simp at h
 | _ :: _, [], h, _ => by simp at h
 | (k1, v) :: ws, (k2, p) :: kvs, h, d => by
  simp only [List.map_cons, List.cons.injEq] at h
  obtain ⟨rfl, h⟩ := h
  cases d with
  | cons d1 d2 =>
   by_cases e : k1 = k
   ·rw [Vk (p := (k1, v)) e]
    have : YlO ((k1, p) :: kvs) k = some p := by simp [YlO, List.find?_cons, e]
    rw [this]; exact .some d1
   ·rw [Vo (p := (k1, v)) e]
    have : YlO ((k1, p) :: kvs) k = YlO kvs k := by simp [YlO, List.find?_cons, e]
    rw [this]; exact Y5 h d2
theorem Ya8 {κ : Type} [DecidableEq κ] {k : κ} {v : V} {p : P} (dv : Den K as H v p) {ws : List (κ × V)} {kvs : List (κ × P)} (h : ws.map (·.1) = kvs.map (·.1)) (d : Dens K as H (ws.map (·.2)) (kvs.map (·.2))) :
 (putK ws k v).map (·.1) = (Yma kvs k p).map (·.1) /\ Dens K as H ((putK ws k v).map (·.2)) ((Yma kvs k p).map (·.2)) := by
 have hany : (ws.any fun kv => decide (kv.1 = k)) = (kvs.any fun kv => decide (kv.1 = k)) := by
  have e1 : (ws.any fun kv => decide (kv.1 = k)) = (ws.map (·.1)).any fun x => decide (x = k) := by rw [List.any_map]; rfl
  have e2 : (kvs.any fun kv => decide (kv.1 = k)) = (kvs.map (·.1)).any fun x => decide (x = k) := by rw [List.any_map]; rfl
  rw [e1, e2, h]
 unfold putK Yma
 rw [hany]
 by_cases z : (kvs.any fun kv => decide (kv.1 = k)) = true
 ·rw [ZAG z, ZAG z]
  clear z hany
  induction ws generalizing kvs with
  | nil =>
   cases kvs with
   | nil => exact ⟨rfl, .nil⟩
   | cons a b => simp at h
  | cons a ws ih =>
   cases kvs with
   | nil => simp at h
   | cons b kvs =>
    obtain ⟨k1, v1⟩ := a
    obtain ⟨k2, p2⟩ := b
    simp only [List.map_cons, List.cons.injEq] at h
    obtain ⟨rfl, h⟩ := h
    cases d with
    | cons d1 d2 =>
     obtain ⟨i1, i2⟩ := ih h d2
     simp only [List.map_cons]
     by_cases e : k1 = k
     ·simp only [if_pos e]
      exact ⟨by rw [i1], .cons dv i2⟩
     ·simp only [if_neg e]
      exact ⟨by rw [i1], .cons d1 i2⟩
 ·rw [ZAF z, ZAF z, ZAS, ZAS, ZAS, ZAS, h]
  exact ⟨rfl, d.append (.cons dv .nil)⟩
theorem Yal {st : Yls} {k : Nat} {kvs : List (Key × P)} {v : V} (rp : Rep K as st H) (d : Den K as H v (.ref k)) (h : st[k]? = some (.dct kvs)) :
 ∃ a ws, v = .ref a /\ as[k]? = some a /\ H a = some (.dK ws) /\ ws.map (·.1) = kvs.map (·.1) /\ Dens K as H (ws.map (·.2)) (kvs.map (·.2)) := by
 cases d with
 | ref e =>
  obtain ⟨ws, h1, h2, h3⟩ := rp.ob k _ _ e h
  exact ⟨_, ws, rfl, e, h1, h2, h3⟩
end
def ixI (xs : List P) (q : P) (st : Yls) : Option (P × Yls) := match q with
 | .int i => (atI xs i).map fun p => (p, st)
 | _ => none
def ixP : G2 := fun p q st => match p with
 | .str z => (match q with
  | .int i => if z.length <= cap then (atI z.cps.toList i).map fun c => (P.str ⟨#[c]⟩, st) else none
  | _ => none)
 | .tup xs => ixI xs q st
 | .ref k => (match st[k]? with
  | some (.lst xs) => ixI xs q st
  | some (.ro xs) => ixI xs q st
  | some (.dct kvs) => (match Ymr q with
   | some k => (YlO kvs k).map fun p => (p, st)
   | none => none)
  | _ => none)
 | _ => none
theorem IxR.imp {X : Cx} {r r' : R2} (h : IxR X r) (i : ∀ x y H Q, r' x y H Q -> r x y H Q) : IxR X r' := fun value slice pins s σ H x y v u Q I rx ry q => h value slice pins s σ H x y v u Q I rx ry (i x y H Q q)
theorem Ybq {K : Frag} {as : List Addr} {H : Hp} {vs : List V} {xs : List P} {i : Int} {p : P} (d : Dens K as H vs xs) (h : atI xs i = some p) : ∃ v, atI vs i = some v /\ Den K as H v p := by
 unfold atI at h ⊢
 rw [d.length]
 cases e : ixN xs.length i with
 | none => rw [e] at h; cases h
 | some j =>
  rw [e] at h
  obtain ⟨v, h1, h2⟩ := d.get (show xs[j]? = some p from h)
  exact ⟨v, h1, h2⟩
section
variable {X : Cx} {a b c o i e : Expr} {ma mb mo mi me : ME} {pos pos' : Pos}
theorem YbB (hu : X.A.units + 1 < cLine) : IxR X (fun x y H Q => ∃ a v, x = .ref a /\ YmK H a y (some v) /\ Q v H) := by
 show 213
 obtain ⟨a, w, rfl, g, q⟩ := h
 cases rx
 exact tail_any (Ycb I g) PySem.F.slot_dict_getitem.lookup (Yd2 hu I g ry fun w' s3 I3 rw' => ⟨w, H, I3, rw', q⟩) hs
theorem YfX (hu : X.A.units + 1 < cLine) : IxR X (rM X ixP) := IxR.imp ((Ykz (X := X)).or (YbB hu)) fun x y H Q ⟨as, st, p, q, rp, d1, d2, h⟩ => by
 cases d1 with
 | @str z =>
  cases d2 with
  | @int j =>
   have h' : YlL X as H (if z.length <= cap then (atI z.cps.toList j).map fun c => (P.str ⟨#[c]⟩, st) else none) Q := h
   by_cases hz : z.length <= cap
   ·rw [ZAG hz] at h'
    cases e : atI z.cps.toList j with
    | none => rw [e] at h'; exact h'.elim
    | some c => rw [e] at h'; exact .inl (.inr (.inr ⟨z, j, c, rfl, rfl, ZAR hz Yp, e, h' as H _ Ext.refl rp .str⟩))
   ·rw [ZAF hz] at h'; exact h'.elim
  | _ => show 124
 | @tup a vs xs e r =>
  cases d2 with
  | @int j =>
   have h' : YlL X as H ((atI xs j).map fun p => (p, st)) Q := h
   cases q : atI xs j with
   | none => show 186
   | some p =>
    rw [q] at h'
    obtain ⟨v, h1, h2⟩ := Ybq r q
    exact .inl (.inr (.inl ⟨a, vs, j, v, rfl, rfl, e, h1, h' as H _ Ext.refl rp h2⟩))
  | _ => show 124
 | @ref k a e =>
  have h' : YlL X as H (match st[k]? with
   | some (.lst xs) => ixI xs q st
   | some (.ro xs) => ixI xs q st
   | some (.dct kvs) => (match Ymr q with
    | some k => (YlO kvs k).map fun p => (p, st)
    | none => none)
   | _ => none) Q := h
  cases w : st[k]? with
  | none => show 211
  | some ob =>
   rw [w] at h'
   have r := rp.ob k a ob e w
   cases ob with
   | lst xs =>
    obtain ⟨vs, h1, h2⟩ := r
    cases d2 with
    | @int j =>
     have h' : YlL X as H ((atI xs j).map fun p => (p, st)) Q := h'
     cases q : atI xs j with
     | none => show 186
     | some p =>
      rw [q] at h'
      obtain ⟨v, g1, g2⟩ := Ybq h2 q
      exact .inl (.inl ⟨a, vs, j, v, rfl, rfl, .of h1, g1, h' as H _ Ext.refl rp g2⟩)
    | _ => show 145
   | ro xs =>
    obtain ⟨vs, h1, h2⟩ := r
    cases d2 with
    | @int j =>
     have h' : YlL X as H ((atI xs j).map fun p => (p, st)) Q := h'
     cases q : atI xs j with
     | none => show 186
     | some p =>
      rw [q] at h'
      obtain ⟨v, g1, g2⟩ := Ybq h2 q
      exact .inl (.inl ⟨a, vs, j, v, rfl, rfl, ZI h1, g1, h' as H _ Ext.refl rp g2⟩)
    | _ => show 145
   | dct kvs =>
    obtain ⟨ws, h1, h2, h3⟩ := r
    cases z : Ymr q with
    | none => show 201
    | some key =>
     simp only [z] at h'
     have ev := WY d2 z
     subst ev
     cases zz : YlO kvs key with
     | none => rw [zz] at h'; exact h'.elim
     | some p =>
      rw [zz] at h'
      have od := Y5 (k := key) h2 h3
      rw [zz] at od
      cases hv : YmO ws key with
      | none => rw [hv] at od; cases od
      | some v =>
       rw [hv] at od
       cases od with
       | some dd => exact .inr ⟨a, v, rfl, by rw [<- hv]; exact YmK.k h1, h' as H _ Ext.refl rp dd⟩
   | exc c fs => show 145
   | dtt kvs => show 145
   | fdc kvs => show 145
 | _ => show 124
theorem Zl (hu : X.A.units + 1 < cLine) (ha : JE X a ma) (hb : JE X b mb) (hs : Ynl b) : JE X (.Subscript a b pos) (Ylw ixP ma mb) := PE.imp (Yf6 (YfX hu) ha hb hs) fun _ _ _ h => VT h
def YnN (o i v : P) (st : Yls) : Option Yls := match o with
 | .ref k => (match st[k]? with
  | some (.lst xs) => (match i with
   | .int j => (ixN xs.length j).map fun n => st.set k (.lst (xs.set n v))
   | _ => none)
  | some (.dct kvs) => (match Ymr i with
   | some key => if kvs.length < cap then some (st.set k (.dct (Yma kvs key v))) else none
   | none => none)
  | _ => none)
 | _ => none
def Yoi (mo mi me : ME) : MS := fun ρ st => RS.ofE ρ (me ρ st) fun v st1 => RS.ofE ρ (mo ρ st1) fun o st2 => RS.ofE ρ (mi ρ st2) fun i st3 => match YnN o i v st3 with
 | some st4 => .nx ρ st4
 | none => .bad
theorem Yfc (hu : X.A.units + 1 < cLine) {to ti te : TE} (ho : PE X o to) (hi : PE X i ti) (hv : PE X e te) (hs : swapsWith e (some (.Subscript o i pos')) pos.line X.env = pure false) :
 PS X (.Assign [.Subscript o i pos'] e pos) (fun D σ H => te σ H fun v H1 => to σ H1 fun x H2 => ti σ H2 fun y H3 => YoP x y v H3 (fun H4 => D.nx σ H4) \/ ∃ a H4, x = .ref a /\ YnV H3 a y v H4 /\ D.nx σ H4) := by
 show 157
 refine wpAny_Assign_Subscript (thn (hv pins s σ H _ I h) fun r s1 ⟨v, H1, I1, rv, q1⟩ => thn (ho pins s1 σ H1 _ I1 q1) fun u s2 ⟨x, H2, I2, rx, q2⟩ => thn (hi pins s2 σ H2 _ I2 q2) fun iv s3 ⟨y, H3, I3, ry, q3⟩ => ?_) hs
 rcases q3 with q3 | ⟨a, H4, ex, g, q3⟩
 ·exact thn (Ygt pins s3 σ H3 x y v u iv r _ I3 rx ry rv q3) fun _ s4 ⟨H4, I4, q4⟩ => ⟨σ, H4, I4, q4⟩
 ·subst ex
  obtain rfl : u = Value.ref a := rx
  exact YeL hu I3 g ry rv fun s4 I4 => ⟨σ, H4, I4, q3⟩
theorem Ybz (hu : X.A.units + 1 < cLine) (ho : JE X o mo) (hi : JE X i mi) (hv : JE X e me) (hs : swapsWith e (some (.Subscript o i pos')) pos.line X.env = pure false := by rfl) : JS X (.Assign [.Subscript o i pos'] e pos) (Yoi mo mi me) :=
 PS.imp (Yfc hu ho hi hv hs) fun D σ H ⟨as, ρ, st, en, rp, h⟩ => ⟨as, ρ, st, en, rp, YlN.ofE h fun pv st1 as1 H1 v x1 rp1 dv h1 => ⟨as1, ρ, st1, en.ext x1, rp1, YlN.ofE h1 fun po st2 as2 H2 x x2 rp2 dx h2 =>
  ⟨as2, ρ, st2, (en.ext x1).ext x2, rp2, YlN.ofE h2 fun pi st3 as3 H3 y x3 rp3 dy h3 => by
   have dv := (dv.ext x2).ext x3
   have dx := dx.ext x3
   have en3 := ((en.ext x1).ext x2).ext x3
   cases q : YnN po pi pv st3 with
   | none => rw [q] at h3; exact h3.elim
   | some st4 =>
    rw [q] at h3
    unfold YnN at q
    cases po with
    | ref k =>
     simp only at q
     cases w : st3[k]? with
     | none => rw [w] at q; cases q
     | some ob =>
      rw [w] at q
      cases ob with
      | lst xs =>
       simp only at q
       cases pi with
       | int j =>
        simp only at q
        cases z : ixN xs.length j with
        | none => rw [z] at q; cases q
        | some n =>
         rw [z] at q
         cases q
         obtain ⟨a, vs, rfl, e1, e2, h4, h5⟩ := VV (xs := xs) rp3 dx (by unfold YlQ; rw [w])
         cases dy with
         | int => exact .inl ⟨a, vs, j, n, rfl, rfl, h4, by rw [h5.length]; exact z, h3 as3 _ _ (Ext.write h4 trivial) (rp3.lset e1 h4 e2 (Dens.set dv n h5)) (en3.ext (Ext.write h4 trivial))⟩
       | _ => cases q
      | dct kvs =>
       simp only at q
       cases z : Ymr pi with
       | none => rw [z] at q; cases q
       | some key =>
        rw [z] at q
        simp only at q
        by_cases hl : kvs.length < cap
        ·rw [ZAG hl] at q
         cases q
         obtain ⟨a, ws, rfl, e1, h4, h5, h6⟩ := Yal rp3 dx w
         have ev := WY dy z
         subst ev
         obtain ⟨g1, g2⟩ := Ya8 (k := key) dv h5 h6
         have hlen : ws.length = kvs.length := by simpa using congrArg List.length h5
         refine .inr ⟨a, _, rfl, YnV.k h4 (by rw [hlen]; exact ZAM hl Yp), ?_⟩
         exact h3 as3 _ _ (Ext.write h4 trivial) (rp3.write e1 h4 trivial (fun z => z) (by rw [w]; exact fun z => z) ⟨_, Yj, g1, g2.ext (Ext.write h4 trivial)⟩) (en3.ext (Ext.write h4 trivial))
        ·rw [ZAF hl] at q; cases q
      | ro xs => cases q
      | exc c fs => cases q
      | dtt kvs => cases q
      | fdc kvs => cases q
    | _ => cases q⟩⟩⟩
def YnG : ME := fun _ st => .ok (.ref st.length) (st ++ [.dct []])
theorem Yb0 : JE X (.Dict [] [] pos) YnG := PE.imp YfY fun σ H Q ⟨as, ρ, st, en, rp, h⟩ p hp =>
 h (as ++ [p]) _ _ (Ext.new hp) (rp.new hp ⟨[], Yj, rfl, .nil⟩) (.ref (by rw [<- rp.len]; exact VL))
def YnY (md mk mx : ME) : ME := fun ρ st => (md ρ st).bind fun d st1 => match d with
 | .ref k => (match st1[k]? with
  | some (.dct _) => (mk ρ st1).bind fun y st2 => (mx ρ st2).bind fun z st3 => (match st3[k]?, Ymr y with
   | some (.dct kvs), some key => .ok ((YlO kvs key).getD z) st3
   | _, _ => .bad)
  | _ => .bad)
 | _ => .bad
theorem YcS {md mk mx : ME} {f : Expr} {apos cpos : Pos} (hu : X.A.units + 1 < cLine) (ho : JE X o md) (he : JE X e mk) (hf : JE X f mx) (m : M2 X o "get" apos e f cpos) : JE X (.Call (.Attribute o "get" apos) [e, f] [] cpos) (YnY md mk mx) :=
 PE.imp (Yfl hu ho he hf m) fun σ H Q ⟨as, ρ, st, en, rp, h⟩ => ⟨as, ρ, st, en, rp, YlJ.bindE h fun pd st1 as1 H1 x x1 rp1 dx h1 => by
  cases dx with
  | @ref k a ek =>
   simp only at h1
   cases w : st1[k]? with
   | none => rw [w] at h1; exact h1.elim
   | some ob =>
    rw [w] at h1
    cases ob with
    | dct kvs0 =>
     simp only at h1
     obtain ⟨a', ws, e0, e1, h4, h5, h6⟩ := Yal rp1 (.ref ek) w
     cases e0
     refine ⟨a, rfl, .inl ⟨ws, .inl h4⟩, as1, ρ, st1, en.ext x1, rp1, YlJ.bindE h1 fun py st2 as2 H2 y x2 rp2 dy h2 => ⟨as2, ρ, st2, (en.ext x1).ext x2, rp2, YlJ.bindE h2 fun pz st3 as3 H3 z x3 rp3 dz h3 => ?_⟩⟩
     cases w3 : st3[k]? with
     | none => rw [w3] at h3; exact h3.elim
     | some ob3 =>
      rw [w3] at h3
      cases ob3 with
      | dct kvs =>
       cases zk : Ymr py with
       | none => rw [zk] at h3; exact h3.elim
       | some key =>
        rw [zk] at h3
        simp only at h3
        have ea : as3[k]? = some a := x3.pre _ _ (x2.pre _ _ ek)
        obtain ⟨a3, ws3, e3, _, g4, g5, g6⟩ := Yal rp3 (.ref ea) w3
        cases e3
        have ev := WY (dy.ext x3) zk
        subst ev
        refine ⟨_, YmK.k g4, ?_⟩
        have od := Y5 (k := key) g5 g6
        refine h3 as3 H3 _ Ext.refl rp3 ?_
        cases hv : YmO ws3 key with
        | none =>
         rw [hv] at od
         cases hp : YlO kvs key with
         | none => exact dz
         | some q => rw [hp] at od; cases od
        | some v =>
         rw [hv] at od
         cases hp : YlO kvs key with
         | none => rw [hp] at od; cases od
         | some q => rw [hp] at od; cases od with | some dd => exact dd
      | lst xs => exact h3.elim
      | ro xs => exact h3.elim
      | exc c fs => exact h3.elim
      | dtt kvs => exact h3.elim
      | fdc kvs => exact h3.elim
    | lst xs => show 137
    | ro xs => show 137
    | exc c fs => show 137
    | dtt kvs => show 137
    | fdc kvs => show 137
  | _ => exact h1.elim⟩
def inP : G2 := fun p q st => match p, q with
 | .str x, .str y => okP (.bl (!(Builtin.Str.occurrences y x 0 y.length 1).isEmpty)) st
 | p, .ref k => (match st[k]? with
  | some (.dct kvs) => (match Ymr p with
   | some key => okP (.bl (YlO kvs key).isSome) st
   | none => none)
  | _ => none)
 | _, _ => none
def Yn2 : G2 := fun p q st => match p, q with
 | .str x, .str y => okP (.bl (!(!(Builtin.Str.occurrences y x 0 y.length 1).isEmpty))) st
 | p, .ref k => (match st[k]? with
  | some (.dct kvs) => (match Ymr p with
   | some key => okP (.bl (!(YlO kvs key).isSome)) st
   | none => none)
  | _ => none)
 | _, _ => none
theorem Zj {K : Frag} {as : List Addr} {H : Hp} {v : Option V} {p : Option P} (h : OptDen K as H v p) : v.isSome = p.isSome := by cases h <;> rfl
theorem YkJ (hu : X.A.units + 1 < cLine) : OpR X (compareOp .In) (rM X inP) := opM fun pins s σ H x y v u Q as st p q I rx ry rp d1 d2 h => by
 cases d2 with
 | str =>
  cases d1 with
  | str => exact Yeo pins s σ H _ _ v u Q I rx ry ⟨_, _, rfl, rfl, h as H _ Ext.refl rp .bl⟩
  | _ => show 124
 | @ref k a e =>
  have h' : YlL X as H (match st[k]? with
   | some (.dct kvs) => (match Ymr p with
    | some key => okP (.bl (YlO kvs key).isSome) st
    | none => none)
   | _ => none) Q := by cases d1 <;> exact h
  cases w : st[k]? with
  | none => show 211
  | some ob =>
   rw [w] at h'
   cases ob with
   | dct kvs =>
    cases z : Ymr p with
    | none => show 201
    | some key =>
     simp only [z] at h'
     obtain ⟨a', ws, e0, _, g4, g5, g6⟩ := Yal rp (.ref e) w
     cases e0
     have ev := WY d1 z
     subst ev
     cases ry
     refine d_in hu I (YmK.k (k := key) g4) rx fun s3 I3 => ⟨.bl _, H, I3, rfl, ?_⟩
     rw [Zj (Y5 (k := key) g5 g6)]
     show 192
   | _ => show 145
 | _ => cases d1 <;> exact h.elim
theorem Yho (hu : X.A.units + 1 < cLine) : OpR X (compareOp .NotIn) (rM X Yn2) := opM fun pins s σ H x y v u Q as st p q I rx ry rp d1 d2 h => by
 cases d2 with
 | str =>
  cases d1 with
  | str => exact Ybb pins s σ H _ _ v u Q I rx ry ⟨_, _, rfl, rfl, h as H _ Ext.refl rp .bl⟩
  | _ => show 124
 | @ref k a e =>
  have h' : YlL X as H (match st[k]? with
   | some (.dct kvs) => (match Ymr p with
    | some key => okP (.bl (!(YlO kvs key).isSome)) st
    | none => none)
   | _ => none) Q := by cases d1 <;> exact h
  cases w : st[k]? with
  | none => show 211
  | some ob =>
   rw [w] at h'
   cases ob with
   | dct kvs =>
    cases z : Ymr p with
    | none => show 201
    | some key =>
     simp only [z] at h'
     obtain ⟨a', ws, e0, _, g4, g5, g6⟩ := Yal rp (.ref e) w
     cases e0
     have ev := WY d1 z
     subst ev
     cases ry
     refine YdE hu I (YmK.k (k := key) g4) rx fun s3 I3 => ⟨.bl _, H, I3, rfl, ?_⟩
     rw [Zj (Y5 (k := key) g5 g6)]
     show 192
   | _ => show 145
 | _ => cases d1 <;> exact h.elim
end
section
variable {prog : Program} {w : World} {A : Around} {E : VSP} {s : Shared}
theorem WL {t sl : Addr} {items : Array Value} {vl vu : Value} {lo hi : Option Int} {Q : VSP} (ht : IsTup s.heap t items) (hs : s.heap.IsSliceOf sl vl vu .none) (pl : IsPart vl lo) (pu : IsPart vu hi)
 (hw : HT.sIx items.size 0 lo = 0 /\ HT.sIx items.size items.size hi = items.size) (h : Q (.ref t) s) : wpAny (model prog w) A (getItem (.ref t) (.ref sl)) Q E s := by
 show 202
 have hTs : s.TypeIs (.ref sl) "slice" := ⟨os, hos, hcs⟩
 unfold getItem
 show 200
 first | refine ZAA (ZAB ?_) | skip
 refine ZAA (ZB9 ht.typeIs (by decide) ?_)
 refine ZAA (wpAny_callSpecial?_slot (name := Str.ofString "__getitem__") ht.typeIs PyProof.Rows.slot_tuple_getitem
  (ZAe PyProof.Rows.slot_tuple_getitem ht.typeIs entry_tuple_getitem ?_ (args_tuple_getitem _ _)))
 show wpAny _ _ (Builtin.Tuple.tupleItemsOf (.ref t) >>= _) _ _ s
 refine ZAA (tupleItemsOf_ ht ?_)
 refine ZAA (ZBO hTs ?_)
 show 181
 refine ZAA (HT.sliceApplied_gen hs pl pu ?_)
 have hno : (((HT.sIx items.size 0 lo : Nat) : Int) == 0 && (1 : Int) == 1 && (HT.sIx items.size items.size hi - HT.sIx items.size 0 lo) == items.size) = true := by
  rw [hw.1, hw.2]; simp
 show wpAny _ _ (if (((HT.sIx items.size 0 lo : Nat) : Int) == 0 && (1 : Int) == 1 && (HT.sIx items.size items.size hi - HT.sIx items.size 0 lo) == items.size) = true then _ else _) _ _ s
 rw [ZAG hno]
 show 138
 unfold Builtin.Tuple.tupleIsExact
 refine ZAA (ZBO ht.typeIs (ZAB ?_))
 show 181
 exact ZAA (ZBl (ZAB ⟨_, rfl, ZAB h⟩))
theorem VD {sl : Addr} {n : Nat} {t : Tok} {Q : Int × Int × Nat -> Shared -> Prop} (hs : s.heap.IsSliceOf sl .none .none (.int (-1) t))
 (h : Q ((n : Int) - 1, -1, n) s) : wpAny (model prog w) A (Builtin.Slice.sliceApplied (.ref sl) (pure (n : Int))) Q E s := by
 show 202
 unfold Builtin.Slice.sliceApplied Builtin.Slice.sliceFields
 refine ZAA (ZAA (ZAl hos hds (x := .none) rfl (ZAA (ZAl hos hds (x := .none) rfl (ZAA (ZAl hos hds (x := .int (-1) t) rfl (ZAB ?_)))))))
 refine ZAA (slicePart_int ?_)
 show wpAny _ _ (if ((-1 : Int) == 0) = true then _ else _) _ _ s
 rw [ZAF (by decide)]
 refine ZAA (slicePart_none (ZAA (slicePart_none (ZAA (ZAB ?_)))))
 show wpAny _ _ (match Builtin.Slice.sliceAdjust none none (-1) (n : Int) with | (lo, hi) => pure (lo, (-1 : Int), Builtin.Slice.slicePlaces lo hi (-1))) _ _ s
 have e1 : Builtin.Slice.sliceAdjust none none (-1) (n : Int) = ((n : Int) - 1, -1) := by
  unfold Builtin.Slice.sliceAdjust
  simp
 have e2 : Builtin.Slice.slicePlaces ((n : Int) - 1) (-1) (-1) = n := by
  unfold Builtin.Slice.slicePlaces
  simp
  split <;> omega
 rw [e1]
 show wpAny _ _ (pure ((n : Int) - 1, (-1 : Int), Builtin.Slice.slicePlaces ((n : Int) - 1) (-1) (-1))) _ _ s
 rw [e2]
 exact ZAB h
theorem Yf8 (xs : List Value) : ((List.range xs.length).filterMap fun (m : Nat) => xs.toArray[(((xs.length : Nat) : Int) - 1 + (m : Int) * (-1)).toNat]?) = xs.reverse := by
 apply List.ext_getElem?
 intro i
 have : ∀ n : Nat, n <= xs.length -> ((List.range n).filterMap fun (m : Nat) => xs.toArray[(((xs.length : Nat) : Int) - 1 + (m : Int) * (-1)).toNat]?) = xs.reverse.take n := by
  intro n hn
  induction n with
  | zero => rfl
  | succ n ih =>
   rw [List.range_succ, ZCV, ih (by omega)]
   have e : (((xs.length : Nat) : Int) - 1 + (n : Int) * (-1)).toNat = xs.length - 1 - n := by omega
   have hl : xs.length - 1 - n < xs.length := by omega
   have h2 : xs.reverse[n]? = some xs[xs.length - 1 - n] := by
    rw [List.getElem?_reverse (by omega)]
    simp [hl]
   rw [ZAv, h2]
   simp only [List.filterMap_cons, List.filterMap_nil]
   rw [e]
   simp [hl]
 have t := this xs.length (ZAI _)
 rw [List.take_of_length_le (by simp)] at t
 rw [t]
theorem W7 {t sl : Addr} {items : List Value} {u : Tok} {Q : VSP} (ht : IsTup s.heap t items.toArray) (hs : s.heap.IsSliceOf sl .none .none (.int (-1) u))
 (h : Q (.ref s.heap.objs.size) { s with heap := s.heap.push { cls := .type "tuple", data := .seq items.reverse.toArray } }) (hsz : items.length <= sizeLine) : wpAny (model prog w) A (getItem (.ref t) (.ref sl)) Q E s := by
 show 202
 have hTs : s.TypeIs (.ref sl) "slice" := ⟨os, hos, hcs⟩
 have htake : sizeOk (.seq items.reverse.toArray) := by
  show items.reverse.toArray.size <= sizeLine
  simpa using hsz
 unfold getItem
 show 200
 first | refine ZAA (ZAB ?_) | skip
 refine ZAA (ZB9 ht.typeIs (by decide) ?_)
 refine ZAA (wpAny_callSpecial?_slot (name := Str.ofString "__getitem__") ht.typeIs PyProof.Rows.slot_tuple_getitem
  (ZAe PyProof.Rows.slot_tuple_getitem ht.typeIs entry_tuple_getitem ?_ (args_tuple_getitem _ _)))
 show wpAny _ _ (Builtin.Tuple.tupleItemsOf (.ref t) >>= _) _ _ s
 refine ZAA (tupleItemsOf_ ht ?_)
 refine ZAA (ZBO hTs ?_)
 show 181
 refine ZAA (VD hs ?_)
 show wpAny _ _ (if ((((items.toArray.size : Nat) : Int) - 1) == 0 && (-1 : Int) == 1 && items.toArray.size == items.toArray.size) = true then _ else _) _ _ s
 rw [ZAF (by intro q; rw [ZAi, ZAi] at q; exact absurd q.1.2 (by decide))]
 have e : ((List.range items.toArray.size).filterMap fun (k : Nat) => items.toArray[((items.toArray.size : Int) - 1 + (k : Int) * (-1)).toNat]?).toArray = items.reverse.toArray := by
  have := Yf8 items
  simp only [List.size_toArray]
  show 143
 rw [e]
 first
  | exact ZAA (m := Builtin.Tuple.tupleExact _) (ZAk (ZAB ⟨_, rfl, ZAB h⟩) htake)
  | exact ZAA (m := Builtin.Tuple.tupleExact _) (ZAk (ZAA (ZAB (ZAB ⟨_, rfl, ZAB h⟩))) htake)
  | exact ZAA (ZAA (m := Builtin.Tuple.tupleExact _) (ZAk (ZAB (ZAB ⟨_, rfl, ZAB h⟩)) htake))
  | exact ZAA (ZAA (m := Builtin.Tuple.tupleExact _) (ZAk (ZAB ⟨_, rfl, ZAB h⟩) htake))
end
abbrev MO := Rho -> Yls -> R (Option Int)
def YmZ (X : Cx) (as : List Addr) (H : Hp) (ρ : Rho) (r : R (Option Int)) (Q : Option Int -> Hp -> Prop) : Prop :=
 match r with
 | .ok o st' => ∀ as' H', Ext as H as' H' -> Rep X.K as' st' H' -> Q o H'
 | .exc k st' => XOk X as H ρ k st'
 | .bad => False
def tO (X : Cx) (m : MO) : TO := fun σ H Q => ∃ as ρ st, YlM X.K as H ρ σ /\ Rep X.K as st H /\ YmZ X as H ρ (m ρ st) Q
abbrev JO (X : Cx) (e : Option Expr) (m : MO) : Prop := PO X e (tO X m)
theorem PO.imp {X : Cx} {e : Option Expr} {t t' : TO} (h : PO X e t) (i : ∀ σ H Q, t' σ H Q -> t σ H Q) : PO X e t' := fun pins s σ H Q I q => h pins s σ H Q I (i σ H Q q)
def Ypq : MO := fun _ st => .ok none st
def Yni (me : ME) : MO := fun ρ st => (me ρ st).bind fun p st1 => match p with
 | .int i => .ok (some i) st1
 | _ => .bad
section
variable {X : Cx} {e : Expr} {me : ME} {lo hi : Option Expr} {ml mh : MO} {pos p2 : Pos}
theorem YmZ.ext {as as1 : List Addr} {H H1 : Hp} {ρ : Rho} {r : R (Option Int)} {Q : Option Int -> Hp -> Prop} (x : Ext as H as1 H1) (h : YmZ X as H ρ r Q) : YmZ X as1 H1 ρ r Q := by
 cases r with
 | ok p st' => exact fun as' H' y => h as' H' (x.trans y)
 | exc k st' => show 171
 | bad => exact h
theorem YmZ.bindE {as : List Addr} {H : Hp} {ρ : Rho} {r : R P} {f : P -> Yls -> R (Option Int)} {Q : Option Int -> Hp -> Prop} {Q' : VK} (h : YmZ X as H ρ (r.bind f) Q)
 (go : ∀ p st1 as1 H1 v, Ext as H as1 H1 -> Rep X.K as1 st1 H1 -> Den X.K as1 H1 v p -> YmZ X as1 H1 ρ (f p st1) Q -> Q' v H1) : YlJ X as H ρ r Q' := by
 cases r with
 | ok p st1 => exact fun as1 H1 v x rp d => go p st1 as1 H1 v x rp d (YmZ.ext x h)
 | exc k st' => exact h
 | bad => exact h
theorem YlJ.bindN {as : List Addr} {H : Hp} {ρ : Rho} {r : R (Option Int)} {f : Option Int -> Yls -> R P} {Q : VK} {Q' : Option Int -> Hp -> Prop} (h : YlJ X as H ρ (r.bind f) Q)
 (go : ∀ b st1 as1 H1, Ext as H as1 H1 -> Rep X.K as1 st1 H1 -> YlJ X as1 H1 ρ (f b st1) Q -> Q' b H1) : YmZ X as H ρ r Q' := by
 cases r with
 | ok p st1 => exact fun as1 H1 x rp => go p st1 as1 H1 x rp (YlJ.ext x h)
 | exc k st' => exact h
 | bad => exact h
theorem WH (he : JE X e me) : JO X (some e) (Yni me) := PO.imp (YhU he) fun σ H Q ⟨as, ρ, st, en, rp, h⟩ => ⟨as, ρ, st, en, rp, YmZ.bindE h fun p st1 as1 H1 v x rp1 d h1 => by
 cases d with
 | int => exact ⟨_, rfl, h1 as1 H1 Ext.refl rp1⟩
 | _ => exact h1.elim⟩
def Ym2 (xs : List P) (lo hi : Option Int) : List P := (xs.drop (HT.sIx xs.length 0 lo)).take (HT.sIx xs.length xs.length hi - HT.sIx xs.length 0 lo)
theorem Ybk {K : Frag} {as : List Addr} {H : Hp} {vs : List V} {xs : List P} (d : Dens K as H vs xs) (lo hi : Option Int) : Dens K as H (YnO vs lo hi) (Ym2 xs lo hi) := by
 unfold YnO Ym2
 rw [d.length]
 exact (d.drop _).take _
def slP (p : P) (lo hi : Option Int) (st : Yls) : Option (P × Yls) := match p with
 | .str z => if z.length <= cap then okP (.str (Txt.slice z lo hi)) st else none
 | .tup xs => okP (.tup (Ym2 xs lo hi)) st
 | .ref k => (match st[k]? with
  | some (.lst xs) => YmT (Ym2 xs lo hi) st
  | some (.ro xs) => YmT (Ym2 xs lo hi) st
  | _ => none)
 | _ => none
def rMS (X : Cx) : V -> Option Int -> Option Int -> Hp -> VK -> Prop := fun x lo hi H Q => ∃ as st p, Rep X.K as st H /\ Den X.K as H x p /\ YlL X as H (slP p lo hi st) Q
theorem YbP {v : Value} {o : Option Int} (p : IsPart v o) : ∃ q : Option (Int × Tok), v = partValue q /\ q.map (·.1) = o := by
 cases p with
 | none => exact ⟨none, rfl, rfl⟩
 | int i t => exact ⟨some (i, t), rfl, rfl⟩
theorem Ykg : SlR X (fun x lo hi H Q => ∃ z, x = .str z /\ z.length <= cap /\ Q (.str (Txt.slice z lo hi)) H) := by
 show 225
 obtain ⟨z, rfl, hz, q⟩ := h
 show 165
 obtain ⟨ql, rfl, el⟩ := YbP pl
 obtain ⟨qu, rfl, eu⟩ := YbP pu
 obtain ⟨o, ho, hc, hd⟩ := id hs
 refine ⟨"str", _, PySem.F.slot_str_getitem.lookup, typeIs_str _ _ _, wpAny_getItem_str_slice (l := ql) (u := qu) (st := none) ⟨o, ho, hc, hd⟩ rfl ?_⟩
 have fin : ∀ t' k, EP X pins σ Q (.str (Txt.slice z lo hi) t') { s with toks := k } := fun t' k => ⟨.str _, H, I.tok k, ⟨_, rfl⟩, q⟩
 unfold sliceMade
 have e : slicePicked z ql qu none = Builtin.Str.strSliceIndices lo hi 1 z.length := by unfold slicePicked; rw [el, eu]; rfl
 rw [e]
 exact post_val_or_str ⟨ZAR (Txt.slice_le z lo hi) (ZAR hz Yp), fin⟩
theorem Yh6 : SlR X (fun x lo hi H Q => ∃ a xs, x = .ref a /\ SqT X.K H a xs /\ HT.sIx xs.length 0 lo = 0 /\ HT.sIx xs.length xs.length hi = xs.length /\ Q (.ref a) H) := by
 show 225
 obtain ⟨a, xs, rfl, hx, h1, h2, q⟩ := h
 cases rx
 obtain ⟨its, r, ht, hz⟩ := I.tuple hx
 have hlen : its.toArray.size = xs.length := by rw [ZAj]; exact r.length.symm
 exact ⟨"tuple", _, PyProof.Rows.slot_tuple_getitem.lookup, ht.typeIs, WL ht hs pl pu (by rw [hlen]; exact ⟨h1, h2⟩) ⟨.ref a, H, I, rfl, q⟩⟩
theorem SlR.imp {r r' : V -> Option Int -> Option Int -> Hp -> VK -> Prop} (h : SlR X r) (i : ∀ x lo hi H Q, r' x lo hi H Q -> r x lo hi H Q) : SlR X r' := fun pins s σ H x v vl vu lo hi sl Q I rx hs pl pu q => h pins s σ H x v vl vu lo hi sl Q I rx hs pl pu (i x lo hi H Q q)
theorem Yk7 : SlR X (rMS X) := SlR.imp ((Ykg (X := X)).or ((Yi3 (X := X)).or ((Yh6 (X := X)).or (YhS (X := X))))) fun x lo hi H Q ⟨as, st, p, rp, d, h⟩ => by
 cases d with
 | @str z =>
  have h' : YlL X as H (if z.length <= cap then okP (.str (Txt.slice z lo hi)) st else none) Q := h
  by_cases hz : z.length <= cap
  ·rw [ZAG hz] at h'
   exact .inl ⟨z, rfl, hz, h' as H _ Ext.refl rp .str⟩
  ·rw [ZAF hz] at h'; exact h'.elim
 | @tup a vs xs e r =>
  have h' : YlL X as H (okP (.tup (Ym2 xs lo hi)) st) Q := h
  by_cases w : HT.sIx vs.length 0 lo = 0 /\ HT.sIx vs.length vs.length hi = vs.length
  ·refine .inr (.inr (.inl ⟨a, vs, rfl, e, w.1, w.2, ?_⟩))
   have ec : Ym2 xs lo hi = xs := by
    unfold Ym2
    rw [<- r.length, w.1, w.2, List.drop_zero, ZBf (by rw [r.length]; exact ZAI _)]
   rw [ec] at h'
   exact h' as H _ Ext.refl rp (.tup e r)
  ·exact .inr (.inl ⟨a, vs, rfl, e, w, fun p hp => h' as _ _ (Ext.laid hp) (rp.laid hp) (.tup (.of Yj) ((Ybk r lo hi).ext (Ext.laid hp)))⟩)
 | @ref k a e =>
  have h' : YlL X as H (match st[k]? with | some (.lst xs) => YmT (Ym2 xs lo hi) st | some (.ro xs) => YmT (Ym2 xs lo hi) st | _ => none) Q := h
  cases w : st[k]? with
  | none => show 211
  | some ob =>
   rw [w] at h'
   have r := rp.ob k a ob e w
   cases ob with
   | lst xs => obtain ⟨vs, h1, h2⟩ := r; exact .inr (.inr (.inr ⟨a, vs, rfl, .of h1, fun p hp => WI rp (Ybk h2 lo hi) h' hp⟩))
   | ro xs => obtain ⟨vs, h1, h2⟩ := r; exact .inr (.inr (.inr ⟨a, vs, rfl, ZI h1, fun p hp => WI rp (Ybk h2 lo hi) h' hp⟩))
   | dct kvs => show 145
   | exc c fs => show 145
   | dtt kvs => show 145
   | fdc kvs => show 145
 | _ => show 124
def eSl (me : ME) (ml mh : MO) : ME := fun ρ st => (me ρ st).bind fun p st1 => (ml ρ st1).bind fun l st2 => (mh ρ st2).bind fun u st3 => ofO (slP p l u st3)
theorem JP (he : JE X e me) (hl : JO X lo ml) (hu : JO X hi mh) : JE X (.Subscript e (.Slice lo hi none p2) pos) (eSl me ml mh) :=
 PE.imp (YgZ Yk7 he hl hu) fun σ H Q ⟨as, ρ, st, en, rp, h⟩ => ⟨as, ρ, st, en, rp, YlJ.bindE h fun p st1 as1 H1 v x rp1 d h1 => ⟨as1, ρ, st1, en.ext x, rp1, YlJ.bindN h1 fun l st2 as2 H2 x2 rp2 h2 =>
  ⟨as2, ρ, st2, (en.ext x).ext x2, rp2, YlJ.bindN h2 fun u st3 as3 H3 x3 rp3 h3 => ⟨as3, st3, p, rp3, (d.ext x2).ext x3, YlJ.ofO h3⟩⟩⟩⟩
def Yph (me : ME) : ME := fun ρ st => (me ρ st).bind fun p st1 => match p with
 | .tup xs => .ok (.tup xs.reverse) st1
 | _ => .bad
end
def tyP (p : P) (st : Yls) : Option String := match p with
 | .non => some "NoneType"
 | .bl _ => some "bool"
 | .int _ => some "int"
 | .str _ => some "str"
 | .tup _ => some "tuple"
 | .ref k => (match st[k]? with
  | some (.lst _) => some "list"
  | some (.ro _) => some "list"
  | some (.dct _) => some "dict"
  | _ => none)
def YnW (t T : String) : Bool := t == T || (t == "bool" && T == "int")
def YnD (T : String) : Prop := ∀ (K : Frag) (t : String), t ∈ ["NoneType", "bool", "int", "str", "tuple", "list", "dict"] -> PySem.W.kitOne K (.type t) (.type T) = some (YnW t T)
theorem Jl : YnD "str" := fun K t h => by
 simp only [List.mem_cons, List.not_mem_nil, or_false] at h
 rcases h with rfl | rfl | rfl | rfl | rfl | rfl | rfl <;> rfl
theorem Yez : YnD "tuple" := fun K t h => by
 simp only [List.mem_cons, List.not_mem_nil, or_false] at h
 rcases h with rfl | rfl | rfl | rfl | rfl | rfl | rfl <;> rfl
def YmS (T : String) (me : ME) : ME := fun ρ st => (me ρ st).bind fun p st1 => match tyP p st1 with
 | some t => .ok (.bl (YnW t T)) st1
 | none => .bad
section
variable {X : Cx} {e : Expr} {me : ME} {pos p p' : Pos}
theorem Yg4 {T : String} (kt : YnD T) : Yl0 X (.builtin "isinstance") (fun xs H Q => ∃ x as st p t, xs = [x, .ty T] /\ Rep X.K as st H /\ Den X.K as H x p /\ tyP p st = some t /\ Q (.bl (YnW t T)) H) := by
 intro pins s σ H xs us Q I rv h
 obtain ⟨x, as, st, p, t, rfl, rp, d, ht, q⟩ := h
 obtain ⟨u, c, rfl, ru, rc⟩ := rv.two
 obtain rfl : c = Value.type T := rc
 have fin : ∀ tk, EP X pins σ Q (.bool (YnW t T)) { s with toks := tk } := fun tk => ⟨.bl _, H, I.tok tk, rfl, q⟩
 cases d with
 | non => cases ru; cases ht; exact PySem.W.kia_one PySem.W.kitx_none I.kIn True.intro (kt _ _ (by decide)) (fun z => nomatch z) fin
 | bl => cases ru; cases ht; exact PySem.W.kia_one PySem.W.kitx_bool I.kIn True.intro (kt _ _ (by decide)) (fun z => nomatch z) fin
 | int => obtain ⟨t', rfl⟩ := ru; cases ht; exact PySem.W.kia_one PySem.W.kitx_int I.kIn True.intro (kt _ _ (by decide)) (fun z => nomatch z) fin
 | str => obtain ⟨t', rfl⟩ := ru; cases ht; exact PySem.W.kia_one PySem.W.kitx_str I.kIn True.intro (kt _ _ (by decide)) (fun z => nomatch z) fin
 | tup e r =>
  cases ru; cases ht
  obtain ⟨its, _, ⟨o, h1, h2, _⟩, _⟩ := I.tuple e
  exact PySem.W.kia_one PySem.W.kitx_tuple I.kIn ⟨o, h1, h2⟩ (kt _ _ (by decide)) (fun z => nomatch z) fin
 | @ref k a e =>
  cases ru
  have ht' : (match st[k]? with | some (.lst _) => some "list" | some (.ro _) => some "list" | some (.dct _) => some "dict" | _ => none) = some t := ht
  cases w : st[k]? with
  | none => rw [w] at ht'; cases ht'
  | some ob =>
   rw [w] at ht'
   have r := rp.ob k a ob e w
   cases ob with
   | lst xs =>
    cases ht'
    obtain ⟨vs, h1, _⟩ := r
    obtain ⟨its, _, ⟨o, n, g1, g2, _⟩, _⟩ := I.list (.of h1)
    exact PySem.W.kia_one PySem.W.kitx_list I.kIn ⟨o, g1, g2⟩ (kt _ _ (by decide)) (fun z => nomatch z) fin
   | ro xs =>
    cases ht'
    obtain ⟨vs, h1, _⟩ := r
    obtain ⟨its, _, ⟨o, n, g1, g2, _⟩, _⟩ := I.list (ZI h1)
    exact PySem.W.kia_one PySem.W.kitx_list I.kIn ⟨o, g1, g2⟩ (kt _ _ (by decide)) (fun z => nomatch z) fin
   | dct kvs =>
    cases ht'
    obtain ⟨ws, h1, _⟩ := r
    obtain ⟨_, _, vs, _, o, es, ep, g1, g2, _⟩ := I.hok a _ h1
    exact PySem.W.kia_one PySem.W.kitx_dict I.kIn ⟨o, g1, g2.1⟩ (kt _ _ (by decide)) (fun z => nomatch z) fin
   | exc c fs => cases ht'
   | dtt kvs => cases ht'
   | fdc kvs => cases ht'
theorem J2 {T : String} {y : Str} (kt : YnD T) (hg : Gl X "isinstance") (hm : X.mg "isinstance" = none) (hv : bootBuiltins "isinstance" = some (.builtin "isinstance")) (gy : Gl X y) (my : X.mg y = none) (vy : bootBuiltins y = some (.type T)) (he : JE X e me)
 (hy : y ≠ "__name__" := by decide) (hyd : (y == ("__debug__" : Str)) = false := by decide)
 (h1 : starEach [e, .Name y p'] X.env = (false, eval e X.env) :: starEach [.Name y p'] X.env := by rfl) (h2 : starEach [.Name y p'] X.env = (false, eval (.Name y p') X.env) :: starEach [] X.env := by rfl) (hpl : (backTo pos (starEach [.Name y p'] X.env)).any (·.1) = false := by rfl) :
 JE X (.Call (.Name "isinstance" p) [e, .Name y p'] [] pos) (YmS T me) :=
 PE.imp (Ycc (Yg4 kt) hg hm hv (Vb he (Vb (Yif (v := .ty T) gy my vy rfl hy hyd) YbF h2) h1) (by decide) (by decide) h1 hpl) fun σ H Q ⟨as, ρ, st, en, rp, h⟩ => ⟨as, ρ, st, en, rp, YlJ.bindE h fun p st1 as1 H1 v x rp1 d h1 => by
  cases w : tyP p st1 with
  | none => rw [w] at h1; exact h1.elim
  | some t => rw [w] at h1; exact ⟨v, as1, st1, p, t, rfl, rp1, d, w, h1 as1 H1 _ Ext.refl rp1 .bl⟩⟩
def Ymb (n : Nat) (r : MGs) : MG := fun p ρ st => match Yl6 p st with
 | some xs => if xs.length = n then r xs ρ st else none
 | none => none
theorem Ygw {n k : Nat} {r : MGs} (h : YnE n r) : Ynw n (Ymb k r) := fun p ρ st ρ1 e => by
 unfold Ymb at e
 cases q : Yl6 p st with
 | none => show 193
 | some xs =>
  rw [q] at e
  simp only at e
  by_cases z : xs.length = k
  ·rw [ZAG z] at e; exact h _ _ _ _ e
  ·rw [ZAF z] at e; cases e
theorem YaK {prog : Program} {w : World} {A : Around} {E : VSP} {it t : Addr} {items : Array Value} (hne : t ≠ it) : ∀ (n i : Nat) (s : Shared) (Q : List Value -> Shared -> Prop), s.heap.IsListIter it t i -> s.heap.IsList t items -> i + n <= items.size ->
 (∀ h', h'.IsListIter it t (i + n) -> Heap.SameBut it s.heap h' -> Q ((items.toList.drop i).take n) { s with heap := h' }) -> wpAny (model prog w) A (draw (.ref it) n) Q E s
 | 0, i, s, Q, hit, ht, hl, hQ => by
  show wpAny _ _ (pure []) Q E s
  exact ZAB (hQ s.heap hit (.refl ..))
 | n + 1, i, s, Q, hit, ht, hl, hQ => by
  have hlt : i < items.size := by omega
  show wpAny _ _ (pyNext (.ref it) >>= _) Q E s
  refine wpAny_bind (wpAny_pyNext_list_item hit ht (x := items[i]) (by simp [hlt]) fun h₁ hit₁ hs₁ => ?_)
  refine ZAA (ZAd (YaK hne n (i + 1) _ _ hit₁ (ht.extBut hs₁.extBut hne) (by omega) fun h₂ hit₂ hs₂ => ZAB ?_))
  have hd : items.toList.drop i = items[i] :: items.toList.drop (i + 1) := by simp [List.drop_eq_getElem_cons, hlt]
  have := hQ h₂ (by rw [show i + (n + 1) = i + 1 + n by omega]; exact hit₂) (hs₁.trans hs₂)
  rw [hd, List.take_succ_cons] at this
  exact this
theorem VY {prog : Program} {w : World} {A : Around} {E : VSP} {s : Shared} {t : Addr} {items : Array Value} {Q : List Value -> Shared -> Prop} (hh : A.handled = none) (ht : s.heap.IsList t items)
 (hQ : ∀ h', Heap.ExtBut s.heap.objs.size s.heap h' -> Q items.toList { s with heap := h' }) : wpAny (model prog w) A (unpackItems (.ref t) items.size none) Q E s := by
 have hlt : t ≠ s.heap.objs.size := by obtain ⟨o, ho, _⟩ := ht; exact ZAL (ZAE ho)
 unfold unpackItems
 show 138
 ·unfold notIterableAtAll
  refine ZAA (ZCO ht.typeIs PySem.F.slot_list_iter.lookup ?_)
  show 150
  show 220
  refine ZAA (ZAd (ZBz ht ?_))
  refine ZAA (ZAd (YaK hlt items.size 0 _ _ ⟨_, ZAK _ rfl, rfl, rfl⟩ (ht.push _) (by omega) fun h₁ hit₁ hs₁ => ?_))
  have hall : List.take items.size (List.drop 0 items.toList) = items.toList := by
   rw [List.drop_zero]; exact List.take_of_length_le (by simp)
  rw [hall]
  rw [if_neg (by simp)]
  have ht₁ : h₁.IsList t items := (ht.push _).extBut hs₁.extBut hlt
  refine wpAny_bind (wpAny_holding (wpAny_pyNext_list_end hh hit₁ ht₁ (by simp) fun h₂ he₂ => ?_))
  simp only [Option.isSome_none, Bool.false_eq_true, if_false]
  refine ZAB (hQ h₂ fun b o hb e => he₂ b o hb (hs₁.extBut b o hb (ZAC _ e)))
theorem Vu {prog : Program} {w : World} {A : Around} {E : VSP} {s : Shared} {env : Env} {elts : List Expr} {x1} {pos : Pos} {t : Addr} {items : Array Value} {Q : Unit -> Shared -> Prop} (hh : A.handled = none) (ht : s.heap.IsList t items)
 (hn : (assignEach elts env).length = items.size) (hstar : (assignEach elts env).findIdx? (·.1) = none)
 (h : ∀ h', Heap.ExtBut s.heap.objs.size s.heap h' -> wpAny (model prog w) A (assignInOrder ((assignEach elts env).map (·.2)) items.toList) Q E { s with heap := h' }) :
 wpAny (model prog w) A (assign (.Tuple elts x1 pos) env (.ref t)) Q E s := by
 rw [assign_Tuple]
 refine ZAA (ZCc ?_)
 unfold unpack
 rw [hn, hstar]
 exact ZAA (ZAd (VY hh ht h))
theorem Ykl {es : List Expr} {k : Nat} {t : TGs} {n : Nat} (hc : X.calm = true) (h : PGs X es t)
 (hn : (assignEach es X.env).length = n := by rfl) (hst : (assignEach es X.env).findIdx? (·.1) = none := by rfl) : PG X (.Tuple es k pos) (fun v σ H Q => ∃ a xs, v = .ref a /\ (SqL X.K H a xs \/ SqT X.K H a xs) /\ xs.length = n /\ t xs σ H Q) := by
 intro pins s σ H v u Q I r hw
 obtain ⟨a, xs, e1, hq, hl, hw⟩ := hw
 subst e1
 show 195
 ·cases r
  obtain ⟨its, rv, ht, hz⟩ := I.list hq
  refine Vu (I.ok.hd hc) ht.isList (by simp [hn, <- hl, rv.length]) hst fun h' hx => ?_
  have I1 : Inv X pins σ H { s with heap := h' } := I.kept (t' := s.toks) fun b o e => hx b o (ZAL (ZAE e)) e
  exact h pins _ σ H xs _ Q I1 (by simpa using rv) hw
 ·exact Yka hc h hn hst pins s σ H _ u Q I r ⟨a, xs, rfl, hq, hl, hw⟩
theorem WW {es : List Expr} {k : Nat} {r : MGs} {n : Nat} (hc : X.calm = true) (h : JGs X es r)
 (hn : (assignEach es X.env).length = n := by rfl) (hst : (assignEach es X.env).findIdx? (·.1) = none := by rfl) : JG X (.Tuple es k pos) (Ymb n r) :=
 PG.imp (Ykl hc h hn hst) fun v σ H Q ⟨as, ρ, st, p, ρ', en, rp, d, g, q⟩ => by
  unfold Ymb at g
  cases w : Yl6 p st with
  | none => rw [w] at g; cases g
  | some xs =>
   rw [w] at g
   simp only at g
   by_cases z : xs.length = n
   ·rw [ZAG z] at g
    obtain ⟨a, vs, rfl, hq, r⟩ := Yc3 rp d w
    exact ⟨a, vs, rfl, hq, by rw [r.length]; exact z, as, ρ, st, xs, ρ', en, rp, r, g, q⟩
   ·rw [ZAF z] at g; cases g
def Yo5 (me : ME) (g : MG) : MS := fun ρ st => RS.ofE ρ (me ρ st) fun p st1 => match g p ρ st1 with
 | some ρ' => .nx ρ' st1
 | none => .bad
theorem Yi4 {tg : Expr} {g : MG} (he : JE X e me) (hg : JG X tg g) (hs : swapsWithSole [tg] e pos.line X.env = pure false := by rfl) (hw : swappedStores [tg] e X.env = pure none := by rfl)
 (h1 : (assignEach [tg] X.env).map (·.2) = [assign tg X.env] := by rfl) : JS X (.Assign [tg] e pos) (Yo5 me g) :=
 PS.imp (YiW he hg hs hw h1) fun D σ H ⟨as, ρ, st, en, rp, h⟩ => ⟨as, ρ, st, en, rp, YlN.ofE h fun p st1 as1 H1 v x rp1 d h1 => by
  cases w : g p ρ st1 with
  | none => rw [w] at h1; exact h1.elim
  | some ρ' => rw [w] at h1; exact ⟨as1, ρ, st1, p, ρ', en.ext x, rp1, d, w, fun σ' en' => h1 as1 H1 σ' Ext.refl rp1 en'⟩⟩
end
def Itz (K : Frag) (a b : Addr) : It :=
 ⟨fun i H => ∃ xs x ys y, SqL K H a xs /\ xs[i]? = some x /\ SqL K H b ys /\ ys[i]? = some y,
  fun i H v H' => ∃ p, v = .ref p /\ H p = none /\ ∀ xs ys, SqL K H a xs -> SqL K H b ys -> ∃ x y, xs[i]? = some x /\ ys[i]? = some y /\ H' = upd H p (.tup [x, y]),
  fun i H => ∃ xs ys, SqL K H a xs /\ SqL K H b ys /\ (xs.length <= i \/ ys.length <= i)⟩
theorem Yy {X : Cx} {pins : LAO} {σ : St} {H : Hp} {s : Shared} {a b : Addr} {xs : List V} (I : Inv X pins σ H s) (h : SqL X.K H a xs) (f : Ymt X pins H b) : a ≠ b := by
 obtain ⟨f0, f1, f2, f3, f4, f5⟩ := f
 rintro rfl
 rcases h with h | ⟨o, its, n, hk, _⟩
 ·rcases h with h | ⟨o, h⟩
  ·rw [f0] at h; cases h
  ·rw [f0] at h; cases h
 ·have hb := I.ok.mod.kin a o hk
  rcases f3 with z | z
  ·exact I.ok.noex a o hb z
  ·exact absurd (ZAM (ZAE hb) (ZAR I.ok.bsz z)) (ZBJ _)
structure ZAp (z TI TO i1 i2 : Addr) : Prop where
 TIz : TI ≠ z
 TOz : TO ≠ z
 i1z : i1 ≠ z
 i2z : i2 ≠ z
 TITO : TI ≠ TO
 TIi1 : TI ≠ i1
 TIi2 : TI ≠ i2
 TOi1 : TO ≠ i1
 TOi2 : TO ≠ i2
 i12 : i1 ≠ i2
def ZTn (z TI TO i1 i2 a b : Addr) (i : Nat) (h : Heap) : Prop := IsZip h z TI TO .none /\ IsPair h TI (.ref i1) (.ref i2) /\ (∃ x y, IsPair h TO x y) /\ h.IsListIter i1 a i /\ h.IsListIter i2 b i
theorem YfK {P : Program} {w : World} {K : Frag} {elts : List Expr} {x1 : Nat} {tp : Pos} {z TI TO i1 i2 a b : Addr} (D : ZAp z TI TO i1 i2) :
 Turn P w K (.Tuple elts x1 tp) (Itz K a b) [z, TI, TO, i1, i2] z (ZTn z TI TO i1 i2 a b) where
 mem := by simp
 obj := fun i h st c hc => by
  obtain ⟨h1, h2, ⟨x, y, h3⟩, ⟨o4, h4, c4, d4⟩, ⟨o5, h5, c5, d5⟩⟩ := st
  show 46
  ·exact ⟨_, h1, fun v z => by cases z⟩
  ·exact ⟨_, h2, fun v z => by cases z⟩
  ·exact ⟨_, h3, fun v z => by cases z⟩
  ·exact ⟨_, h4, fun v z => by rw [d4] at z; cases z⟩
  ·exact ⟨_, h5, fun v z => by rw [d5] at z; cases z⟩
 keep := fun i h h' st k => by
  obtain ⟨h1, h2, ⟨x, y, h3⟩, h4, h5⟩ := st
  exact ⟨k z (by simp) _ h1, k TI (by simp) _ h2, ⟨x, y, k TO (by simp) _ h3⟩, h4.at fun o e => k i1 (by simp) o e, h5.at fun o e => k i2 (by simp) o e⟩
 item := by
  show 69
  obtain ⟨xs, x, ys, y, hx, ex, hy, ey⟩ := hg
  show 205
  have fTI := hf TI (by simp)
  show 59
  obtain ⟨its, rx, px, zx⟩ := I.list hx
  obtain ⟨jts, ry, py, zy⟩ := I.list hy
  obtain ⟨ux, eux, rux⟩ := rx.get ex
  obtain ⟨uy, euy, ruy⟩ := ry.get ey
  have DZ : ZipApart z TI TO i1 i2 a b := ⟨D.TIz, D.TOz, D.i1z, D.i2z, D.TITO, D.TIi1, D.TIi2, D.TOi1, D.TOi2, D.i12, Yy I hx fz, Yy I hx fTO, Yy I hx f1, Yy I hx f2, Yy I hy fz, Yy I hy fTO, Yy I hy f1, Yy I hy f2⟩
  refine wpAny_pyNext_zip_item DZ h1 h2 h3 h4 h5 px.isList py.isList (x := ux) (y := uy) (by simpa using eux) (by simpa using euy) fun h' a1 a2 a3 a4 a5 a6 hk => ?_
  have nT : H s.heap.objs.size = none := I.hok.fresh (ZAI _)
  have fp4 : ∀ c ∈ [z, TO, i1, i2], Ymt X pins H c := fun c hc => by
   show 47
  have notIn : ∀ {c}, c ∉ [z, TO, i1, i2] -> c ≠ z /\ c ≠ TO /\ c ≠ i1 /\ c ≠ i2 := fun {c} hc => by
   show 212
  have tr : ∀ {c u}, H c = some u -> c ≠ z /\ c ≠ TO /\ c ≠ i1 /\ c ≠ i2 := fun {c u} e => ⟨Yd e fz.1, Yd e fTO.1, Yd e f1.1, Yd e f2.1⟩
  have hns : ∀ m, s.heap.Ns X.env.locals m -> h'.Ns X.env.locals m := fun m ⟨o, es, ep, e, r⟩ => ⟨o, es, ep, hk _ o fz.2.1.symm fTO.2.1.symm f1.2.1.symm f2.2.1.symm e, r⟩
  have hok : HOk X.prog X.w (upd H s.heap.objs.size (.tup [x, y])) h' := fun c u e => by
   by_cases hb : c = s.heap.objs.size
   ·subst hb
    rw [Yj] at e
    cases e
    exact ⟨by show 2 <= sizeLine; decide, [ux, uy], .cons rux (.cons ruy .nil), ⟨_, a5, rfl, _, rfl⟩⟩
   ·rw [Yg hb] at e
    refine (I.hok c u e).stay (fun c' v hc' q => ?_) (fun c' q => by rw [Yg (Yd q nT)]; exact q) fun c' xs q => by rw [Yg (Yd q nT)]; exact q
    show 235
    ·show 224
    ·obtain ⟨t1, t2, t3, t4⟩ := tr z1; exact hk _ v t1 t2 t3 t4 q
  have I1 : Inv X pins σ (upd H s.heap.objs.size (.tup [x, y])) { s with heap := h' } :=
   I.step (h' := h') (g' := s.gens) (t' := s.toks) (d' := s.drawn) (ch := [z, TO, i1, i2]) (fun c hc => ⟨(fp4 c hc).2.2.2.1, (fp4 c hc).2.1, (fp4 c hc).2.2.2.2.1, (fp4 c hc).2.2.2.2.2⟩)
    (fun c o _ _ hc e _ => let ⟨t1, t2, t3, t4⟩ := notIn hc; hk c o t1 t2 t3 t4 e) (fun c o _ _ hc e _ => let ⟨t1, t2, t3, t4⟩ := notIn hc; ⟨o.slots, hk c o t1 t2 t3 t4 e⟩)
    (fun c o hc e n => by rw [Yg (ZAL (ZAE e))]; exact n) (fun c o hc e => let ⟨t1, t2, t3, t4⟩ := notIn hc; ⟨o, hk c o t1 t2 t3 t4 e⟩)
    (fun c xs q => by rw [Yg (Yd q nT)]; exact q) (fun c o u q => by rw [Yg (Yd q nT)]; exact q) (fun c ps q => ⟨#[], by rw [Yg (Yd q nT), q]; simp⟩) hns hok I.bare
  refine ⟨.ref s.heap.objs.size, rfl, ZCF (s := { s with heap := h' }) a1 fun h'' hz'' sb => ?_⟩
  have zl : z < s.heap.objs.size := ZAE h1
  have nz1 : (upd H s.heap.objs.size (.tup [x, y])) z = none := by rw [Yg (ZAL zl)]; exact fz.1
  have I2 : Inv X pins σ (upd H s.heap.objs.size (.tup [x, y])) { s with heap := h'', toks := s.toks } := Inv.turned (s := { s with heap := h' }) (it := z) I1 (fun c o hc e => (sb.2 c hc).trans e) nz1 fz.2.1 fz.2.2.2.1 fz.2.2.2.2.1 fz.2.2.2.2.2
  refine ⟨.ref s.heap.objs.size, _, I2, rfl, ⟨s.heap.objs.size, rfl, nT, fun xs' ys' hx' hy' => ⟨x, y, by rw [I.list_inj hx' hx]; exact ex, by rw [I.list_inj hy' hy]; exact ey, rfl⟩⟩, ⟨hz'', (sb.2 _ D.TIz).trans (hk _ _ D.TIz D.TITO D.TIi1 D.TIi2 h2), ⟨_, _, (sb.2 _ D.TOz).trans a2⟩, a3.at fun o e => (sb.2 _ D.i1z).trans e, a4.at fun o e => (sb.2 _ D.i2z).trans e⟩, fun c hc => ?_⟩
  have hlt : c < s.heap.objs.size := by
   show 46
   ·exact ZAE h1
   ·exact ZAE h2
   ·exact ZAE h3
   ·obtain ⟨_, e, _⟩ := h4; exact ZAE e
   ·obtain ⟨_, e, _⟩ := h5; exact ZAE e
  rw [Yg (ZAL hlt)]
  exact (hf c hc).1
 done := by
  show 69
  obtain ⟨xs, ys, hx, hy, he⟩ := hg
  show 205
  show 59
  obtain ⟨its, rx, px, zx⟩ := I.list hx
  obtain ⟨jts, ry, py, zy⟩ := I.list hy
  have DZ : ZipApart z TI TO i1 i2 a b := ⟨D.TIz, D.TOz, D.i1z, D.i2z, D.TITO, D.TIi1, D.TIi2, D.TOi1, D.TOi2, D.i12, Yy I hx fz, Yy I hx fTO, Yy I hx f1, Yy I hx f2, Yy I hy fz, Yy I hy fTO, Yy I hy f1, Yy I hy f2⟩
  have hend : its.toArray[i]? = none \/ jts.toArray[i]? = none := by
   have l1 := rx.length
   have l2 := ry.length
   rcases he with he | he
   ·exact .inl (by simp; omega)
   ·exact .inr (by simp; omega)
  refine wpAny_pyNext_zip_end (I.ok.hd hc) DZ h1 h2 h3 h4 h5 px.isList py.isList hend fun h' hk => ⟨rfl, ?_⟩
  have fp4 : ∀ c ∈ [z, TO, i1, i2], Ymt X pins H c := fun c hc => by
   show 47
  have notIn : ∀ {c}, c ∉ [z, TO, i1, i2] -> c ≠ z /\ c ≠ TO /\ c ≠ i1 /\ c ≠ i2 := fun {c} hc => by
   show 212
  have tr : ∀ {c u}, H c = some u -> c ≠ z /\ c ≠ TO /\ c ≠ i1 /\ c ≠ i2 := fun {c u} e => ⟨Yd e fz.1, Yd e fTO.1, Yd e f1.1, Yd e f2.1⟩
  exact I.step (h' := h') (g' := s.gens) (t' := s.toks) (d' := s.drawn) (ch := [z, TO, i1, i2]) (fun c hc => ⟨(fp4 c hc).2.2.2.1, (fp4 c hc).2.1, (fp4 c hc).2.2.2.2.1, (fp4 c hc).2.2.2.2.2⟩)
   (fun c o _ _ hc e _ => let ⟨t1, t2, t3, t4⟩ := notIn hc; hk c o t1 t2 t3 t4 e) (fun c o _ _ hc e _ => let ⟨t1, t2, t3, t4⟩ := notIn hc; ⟨o.slots, hk c o t1 t2 t3 t4 e⟩)
   (fun c o hc e n => n) (fun c o hc e => let ⟨t1, t2, t3, t4⟩ := notIn hc; ⟨o, hk c o t1 t2 t3 t4 e⟩)
   (fun c xs q => q) (fun c o u q => q) (fun c ps q => ⟨#[], by rw [q]; simp⟩) (fun m ⟨o, es, ep, e, r⟩ => ⟨o, es, ep, hk _ o fz.2.1.symm fTO.2.1.symm f1.2.1.symm f2.2.1.symm e, r⟩)
   (fun c u e => by
    refine (I.hok c u e).stay (fun c' v hc' q => ?_) (fun c' q => q) fun c' xs q => q
    show 235
    ·show 224
    ·obtain ⟨t1, t2, t3, t4⟩ := tr z1; exact hk _ v t1 t2 t3 t4 q) I.bare
 self := fun A i s Q E st h => ZBm st.1 h
section
variable {X : Cx} {elts : List Expr} {x1 : Nat} {tp p pos : Pos} {e f : Expr}
def listAt (st : Yls) (k : Nat) : Option (List P) := match st[k]? with
 | some (.lst xs) => some xs
 | some (.ro xs) => some xs
 | _ => none
theorem YV {K : Frag} {as : List Addr} {st : Yls} {H : Hp} {k : Nat} {xs : List P} {a : Addr} (rp : Rep K as st H) (e : as[k]? = some a) (h : listAt st k = some xs) : ∃ vs, SqL K H a vs /\ Dens K as H vs xs := by
 unfold listAt at h
 cases q : st[k]? with
 | none => show 152
 | some o =>
  rw [q] at h
  have ob := rp.ob k a _ e q
  cases o with
  | lst ys => cases h; obtain ⟨vs, h1, h2⟩ := ob; exact ⟨vs, .of h1, h2⟩
  | ro ys => cases h; obtain ⟨vs, h1, h2⟩ := ob; exact ⟨vs, ZI h1, h2⟩
  | dct ys => cases h
  | exc c ys => cases h
  | dtt kvs => cases h
  | fdc kvs => cases h
def Ymi (xs ys : List P) (i : Nat) : Option P := match xs[i]?, ys[i]? with
 | some x, some y => some (.tup [x, y])
 | _, _ => none
def Ynu (k l n : Nat) : Src := ⟨n, fun i st => match listAt st k, listAt st l with
 | some xs, some ys => some (Ymi xs ys i)
 | _, _ => none⟩
theorem Yhi {K : Frag} {as : List Addr} {H : Hp} {k l n : Nat} {a b : Addr} (ha : as[k]? = some a) (hb : as[l]? = some b) : YnH K as H (Ynu k l n) (Itz K a b) where
 go := fun i as2 st2 H2 p x rp e => by
  have e' : (match listAt st2 k, listAt st2 l with | some xs, some ys => some (Ymi xs ys i) | _, _ => none) = some (some p) := e
  cases q1 : listAt st2 k with
  | none => show 238
  | some xs =>
   cases q2 : listAt st2 l with
   | none => show 206
   | some ys =>
    rw [q1, q2] at e'
    have ez := Option.some.inj e'
    unfold Ymi at ez
    obtain ⟨vs, s1, d1⟩ := YV rp (x.pre _ _ ha) q1
    obtain ⟨ws, s2, d2⟩ := YV rp (x.pre _ _ hb) q2
    cases r1 : xs[i]? with
    | none => rw [r1] at ez; cases ez
    | some px =>
     cases r2 : ys[i]? with
     | none => show 216
     | some py =>
      rw [r1, r2] at ez
      cases ez
      obtain ⟨v, g1, g2⟩ := d1.get r1
      obtain ⟨w, g3, g4⟩ := d2.get r2
      refine ⟨⟨vs, v, ws, w, s1, g1, s2, g3⟩, fun u H3 ⟨t, e1, e2, e3⟩ => ?_⟩
      obtain ⟨v', w', f1, f2, rfl⟩ := e3 vs ws s1 s2
      rw [g1] at f1; cases f1
      rw [g3] at f2; cases f2
      subst e1
      exact ⟨Ext.laid e2, rp.laid e2, .tup (.of Yj) (.cons (g2.ext (Ext.laid e2)) (.cons (g4.ext (Ext.laid e2)) .nil))⟩
 stop := fun i as2 st2 H2 x rp e => by
  have e' : (match listAt st2 k, listAt st2 l with | some xs, some ys => some (Ymi xs ys i) | _, _ => none) = some none := e
  cases q1 : listAt st2 k with
  | none => show 238
  | some xs =>
   cases q2 : listAt st2 l with
   | none => show 206
   | some ys =>
    rw [q1, q2] at e'
    have ez := Option.some.inj e'
    unfold Ymi at ez
    obtain ⟨vs, s1, d1⟩ := YV rp (x.pre _ _ ha) q1
    obtain ⟨ws, s2, d2⟩ := YV rp (x.pre _ _ hb) q2
    refine ⟨vs, ws, s1, s2, ?_⟩
    rw [d1.length, d2.length]
    cases r1 : xs[i]? with
    | none => exact .inl (ZAn.mp r1)
    | some px =>
     cases r2 : ys[i]? with
     | none => exact .inr (ZAn.mp r2)
     | some py => show 216
end
section
variable {M : Model} {A : Around} {E : VSP} {s : Shared}
theorem Yeq {src : Source} {n : Nat} {Q : Nat -> Shared -> Prop} (hn : n ≠ 0) (h : ∀ i, i < n -> Q i { s with drawn := s.drawn.bump src }) : wpAny M A (choose src n) Q E s :=
 fun _ _ _ => ⟨hn, h _ (Nat.mod_lt _ (Nat.pos_of_ne_zero hn))⟩
end
theorem YcP (t : SetTable) (es : Array (Int × Value)) (h : Int) (x : Value) : (layNew t es h x).2.1.led = t.led := by
 unfold layNew
 split
 ·simp only [SetTable.orStandIn]
  split <;> rfl
 ·rfl
theorem Yby (t : SetTable) (es : Array (Int × Value)) (h : Int) (x : Value) (p : t.plain = false) : (layNew t es h x).2.1.plain = false := by
 unfold layNew
 split
 ·simp only [SetTable.orStandIn]
  split
  ·exact p
  ·rfl
 ·rfl
theorem J9 {mask finger moves : Nat} {led plain : Bool} {hs : Array Int} {t : SetTable} {o : Array Nat} (h : SetTable.laid mask finger moves led plain hs = some (t, o)) : t.led = led /\ t.plain = plain := by
 unfold SetTable.laid at h
 cases q : SetTable.layClean mask hs with
 | none => show 152
 | some ow =>
  rw [q] at h
  cases h
  exact ⟨rfl, rfl⟩
theorem Ybp (t : SetTable) (es : Array (Int × Value)) (n : Nat) : (relayAll t es n).2.1.led = t.led := by
 unfold relayAll
 split
 ·rename_i t' o e
  show 95
  ·exact (J9 e).1
  ·rfl
 ·rfl
theorem J5 (t : SetTable) (es : Array (Int × Value)) (n : Nat) (p : t.plain = false) : (relayAll t es n).2.1.plain = false := by
 unfold relayAll
 split
 ·rename_i t' o e
  show 95
  ·exact (J9 e).2.trans p
  ·rfl
 ·rfl
abbrev byText (w : World) : Bool := w.params.followText "set-order"
def YlK (es : Array (Int × Value)) (ep : Nat) (t : SetTable) : Obj := { cls := .type "set", dict := none, data := .set es ep t, slots := #[] }
structure TT1 (prog : Program) (w : World) (es : Array (Int × Value)) (t : SetTable) (ks : List Str) : Prop where
 el : ElemsOf (strKind prog w) es.toList
 fit : t.fits es.size = true
 led : t.led = !(byText w)
 pl : es.size = 0 \/ t.plain = false
 pm : (es.toList.map fun e => strOf e.2).Perm ks
def TS (prog : Program) (w : World) (h : Heap) (a : Addr) (ks : List Str) : Prop := ∃ es ep t, h.get? a = some (YlK es ep t) /\ TT1 prog w es t ks
theorem TT1.sz {prog : Program} {w : World} {es : Array (Int × Value)} {t : SetTable} {ks : List Str} (h : TT1 prog w es t ks) : es.size = ks.length := by
 rw [<- h.pm.length_eq]; simp
theorem TT1.mem {prog : Program} {w : World} {es : Array (Int × Value)} {t : SetTable} {ks : List Str} (h : TT1 prog w es t ks) (k : Str) : k ∈ ks ↔ ∃ e ∈ es.toList, (strKind prog w).is k e.2 = true := by
 rw [<- h.pm.mem_iff, ZAb]
 constructor
 ·rintro ⟨e, he, rfl⟩
  obtain ⟨⟨k', hk, _⟩, _⟩ := h.el e he
  obtain ⟨t', e'⟩ := ZBq hk
  exact ⟨e, he, by rw [e']; exact strKind_is _ _ _ _⟩
 ·rintro ⟨e, he, hk⟩
  obtain ⟨t', e'⟩ := ZBq hk
  exact ⟨e, he, by rw [e']; rfl⟩
section
variable {prog : Program} {w : World} {A : Around} {E : VSP} {s : Shared}
theorem JZ {g : Bool -> Sem Unit} (hg : ∀ (b : Bool) (s1 : Shared) (Q1 : Unit -> Shared -> Prop), Q1 () s1 -> wpAny (model prog w) A (g b) Q1 E s1)
 {a : Addr} {es es1 : Array (Int × Value)} {ep : Nat} {t t2 : SetTable} (ho : s.heap.get? a = some (YlK es ep t)) (hb : es1.size < scanBound) {dm : Bool} {R : Option Bool -> Shared -> Prop}
 (hf : t2.fits es1.size = true) (hp : t2.plain = false)
 (fin : ∀ h' es' ep' t', Heap.SameBut a s.heap h' -> h'.get? a = some (YlK es' ep' t') -> es'.toList.Perm es1.toList -> t'.fits es'.size = true -> t'.led = t2.led -> t'.plain = false -> R (some true) { s with heap := h' }) :
 wpAny (model prog w) A (do
  storeSet a es1 t2
  if (!dm && t2.tooFull) = true then do
   g (relayAll t2 es1 (SetTable.grown es1.size)).2.2
   storeSet a (relayAll t2 es1 (SetTable.grown es1.size)).1 (relayAll t2 es1 (SetTable.grown es1.size)).2.1
   pure (some true)
  else pure (some true)) R E s := by
 refine ZAA (wpAny_storeSet_of ho rfl ?_ (fits_of_scanBound hb))
 have g1 : (s.heap.update a (Obj.putSet es1 t2)).get? a = some (YlK es1 (ep + 1) t2) := by
  have := ZBF (Obj.putSet es1 t2) ho (by rw [putSet_of es1 t2 rfl]; rfl)
  rw [putSet_of es1 t2 rfl] at this
  exact this
 have b1 := Heap.SameBut.update s.heap a (Obj.putSet es1 t2)
 split
 ·have e1 := relayAll_perm t2 es1 (SetTable.grown es1.size)
  have e2 := relayAll_fits t2 es1 (SetTable.grown es1.size)
  have e3 := Ybp t2 es1 (SetTable.grown es1.size)
  have e4 := J5 t2 es1 (SetTable.grown es1.size) hp
  generalize relayAll t2 es1 (SetTable.grown es1.size) = r at e1 e2 e3 e4 ⊢
  obtain ⟨es2, t3, gw⟩ := r
  dsimp only at e1 e2 e3 e4 ⊢
  have hb2 : es2.size < scanBound := by
   have := e1.length_eq
   simp only [Array.length_toList] at this
   rw [this]; exact hb
  refine ZAA (hg _ _ _ ?_)
  refine ZAA (wpAny_storeSet_of g1 rfl ?_ (fits_of_scanBound hb2))
  have g2 : ((s.heap.update a (Obj.putSet es1 t2)).update a (Obj.putSet es2 t3)).get? a = some (YlK es2 (ep + 1 + 1) t3) := by
   have := ZBF (Obj.putSet es2 t3) g1 (by rw [putSet_of es2 t3 rfl]; rfl)
   rw [putSet_of es2 t3 rfl] at this
   exact this
  exact ZAB (fin _ _ _ _ (b1.trans (Heap.SameBut.update _ a _)) g2 e1 e2 e3 e4)
 ·exact ZAB (fin _ _ _ _ b1 g1 .rfl hf rfl hp)
def putK (ks : List Str) (k : Str) : List Str := if k ∈ ks then ks else ks ++ [k]
theorem YdT {a : Addr} {ks : List Str} {k : Str} {tk : Tok} {Q : Bool -> Shared -> Prop} (hS : TS prog w s.heap a ks) (hr : ks.length + 1 < scanBound)
 (h : ∀ h' b, Heap.SameBut a s.heap h' -> TS prog w h' a (putK ks k) -> Q b { s with heap := h' }) : wpAny (model prog w) A (setAddHashed a (.str k tk) ((strKind prog w).hash k)) Q E s := by
 obtain ⟨es, ep, t, ho, T⟩ := hS
 have hk : (strKind prog w).is k (.str k tk) = true := strKind_is _ _ _ _
 have hb : es.size < scanBound := by rw [T.sz]; omega
 have hb1 : es.size + 1 < scanBound := by rw [T.sz]; exact hr
 unfold setAddHashed setAddHashedIn
 refine ZAd (ZAA (ZBV ho rfl T.fit ?_))
 show 127
 rw [byScan_of (knd := strKind prog w) (x := .str k tk) rfl hb T.el]
 simp only [↓reduceIte]
 unfold setAddByScan
 show 138
 refine ZAA (ZBl ?_)
 refine ZAA (wpAny_setScan_of hk ho rfl T.fit T.el ?_)
 cases q : List.findIdx? (fun e => (strKind prog w).is k e.2) es.toList with
 | some j =>
  show 127
  obtain ⟨hj, hpj, _⟩ := List.findIdx?_eq_some_iff_getElem.mp q
  have hin : k ∈ ks := (T.mem k).mpr ⟨es.toList[j], ZAu hj, hpj⟩
  refine ZAB (ZAB ?_)
  have := h s.heap false (Heap.SameBut.refl a s.heap) (by rw [putK, ZAG hin]; exact ⟨es, ep, t, ho, T⟩)
  cases s; exact this
 | none =>
  show 127
  have hin : k ∉ ks := fun z => by
   obtain ⟨e, he, hp⟩ := (T.mem k).mp z
   have := List.findIdx?_eq_none_iff.mp q e he
   rw [hp] at this; cases this
  have hgw : ∀ (b : Bool) {s1 : Shared} {Q1 : Unit -> Shared -> Prop}, Q1 () s1 -> wpAny (model prog w) A (match b with | true => rule "set.scan.the-table-gave-way" | false => pure ()) Q1 E s1 :=
   fun b s1 Q1 z => by
    cases b
    ·exact ZAB z
    ·exact ZBl z
  have e1 := layNew_perm t es ((strKind prog w).hash k) (.str k tk)
  have e2 := layNew_fits t es ((strKind prog w).hash k) (.str k tk)
  have e3 := YcP t es ((strKind prog w).hash k) (.str k tk)
  have e4 := Yby t es ((strKind prog w).hash k) (.str k tk)
  generalize layNew t es ((strKind prog w).hash k) (.str k tk) = L at e1 e2 e3 e4 ⊢
  obtain ⟨es1, t1, dm, gv⟩ := L
  dsimp only at e1 e2 e3 e4 ⊢
  rw [Array.toList_push] at e1
  have hz : es1.size < scanBound := by
   have := e1.length_eq
   simp only [Array.length_toList, List.length_append, List.length_singleton] at this
   rw [this]; exact hb1
  have el1 : ElemsOf (strKind prog w) es1.toList := (T.el.push hk rfl).perm e1
  have fin : ∀ (t2 : SetTable), t2.led = t1.led -> ∀ (h' : Heap) (es' : Array (Int × Value)) (ep' : Nat) (t' : SetTable), Heap.SameBut a s.heap h' -> h'.get? a = some (YlK es' ep' t') -> es'.toList.Perm es1.toList -> t'.fits es'.size = true -> t'.led = t2.led -> t'.plain = false ->
   Q true { s with heap := h' } := fun t2 l2 h' es' ep' t' sb g' pm ft ld pl =>
   h h' true sb ⟨es', ep', t', g', el1.perm pm, ft, by rw [ld, l2, e3, T.led], .inr pl, by
    rw [putK, ZAF hin]
    refine ((pm.trans e1).map _).trans ?_
    rw [ZAS]
    exact T.pm.append_right _⟩
  refine ZAA (hgw _ ?_)
  split
  ·show 138
   rw [hashByValue_scannable 8 rfl]
   show 150
   have hpk : plainKind (.str k tk) = false := rfl
   rw [hpk]
   simp only [Bool.false_eq_true, ↓reduceIte]
   refine JZ ?_ ho hz ?_ rfl ?_
   ·intro b s1 Q1 z
    cases b
    ·exact ZAB z
    ·exact ZBl z
   ·exact SetTable.fits_plain_off e2
   ·intro h' es' ep' t' c1 c2 c3 c4 c5 c6
    show 127
    exact ZAB (fin _ (by rfl) h' es' ep' t' c1 c2 c3 c4 c5 c6)
  ·rename_i np
   show 198
   simp only [↓reduceIte]
   refine JZ ?_ ho hz e2 (by simpa using np) ?_
   ·intro b s1 Q1 z
    cases b
    ·exact ZAB z
    ·exact ZBl z
   ·intro h' es' ep' t' c1 c2 c3 c4 c5 c6
    show 127
    exact ZAB (fin _ rfl h' es' ep' t' c1 c2 c3 c4 c5 c6)
end
def once (ks : List Str) : List Str := ks.foldl putK []
theorem Yej (ks : List Str) (k : Str) : once (ks ++ [k]) = putK (once ks) k := by simp [once, List.foldl_append]
theorem YfG (ks : List Str) (k : Str) : (putK ks k).length <= ks.length + 1 := by
 unfold putK; split <;> simp
theorem Ws : ∀ (ks acc : List Str), (ks.foldl putK acc).length <= acc.length + ks.length
 | [], acc => by simp
 | k :: r, acc => by
  rw [ZA2]
  have h1 := Ws r (putK acc k)
  have h2 := YfG acc k
  simp only [List.length_cons]; omega
theorem Ycv (ks : List Str) : (once ks).length <= ks.length := by simpa [once] using Ws ks []
theorem Yft {ks : List Str} {k x : Str} : x ∈ putK ks k ↔ x ∈ ks \/ x = k := by
 unfold putK
 split
 ·rename_i h
  exact ⟨.inl, fun z => z.elim id fun e => e ▸ h⟩
 ·simp
theorem We {x : Str} : ∀ (ks acc : List Str), x ∈ ks.foldl putK acc ↔ x ∈ acc \/ x ∈ ks
 | [], acc => by simp
 | k :: r, acc => by
  rw [ZA2, We r, Yft, ZAZ]
  exact or_assoc
theorem mem_once {ks : List Str} {x : Str} : x ∈ once ks ↔ x ∈ ks := by simpa [once] using We (x := x) ks []
theorem YcE {ks : List Str} {k : Str} (h : ks.Nodup) : (putK ks k).Nodup := by
 unfold putK
 split
 ·exact h
 ·rename_i hk
  rw [ZCA]
  exact ⟨h, by simp, fun a ha b hb e => hk (by rw [List.mem_singleton] at hb; subst hb; exact e ▸ ha)⟩
theorem ZQ : ∀ (ks acc : List Str), acc.Nodup -> (ks.foldl putK acc).Nodup
 | [], _, h => h
 | k :: r, acc, h => by rw [ZA2]; exact ZQ r _ (YcE h)
theorem Yc0 (ks : List Str) : (once ks).Nodup := ZQ ks [] List.nodup_nil
theorem TS.keep {prog : Program} {w : World} {h h' : Heap} {a : Addr} {ks : List Str} (x : TS prog w h a ks) (k : ∀ o, h.get? a = some o -> h'.get? a = some o) : TS prog w h' a ks :=
 let ⟨es, ep, t, ho, T⟩ := x; ⟨es, ep, t, k _ ho, T⟩
theorem TS.typeIs {prog : Program} {w : World} {s : Shared} {a : Addr} {ks : List Str} (x : TS prog w s.heap a ks) : s.TypeIs (.ref a) "set" :=
 let ⟨_, _, _, ho, _⟩ := x; ⟨_, ho, rfl⟩
theorem TS.empty {prog : Program} {w : World} {h : Heap} {a : Addr} (e : h.get? a = some (YlK #[] 0 (.fresh 0 0 (!(byText w))))) : TS prog w h a [] :=
 ⟨_, _, _, e, fun e he => by simp at he, rfl, rfl, .inl rfl, .refl _⟩
section
variable {prog : Program} {w : World} {A : Around} {R : Result -> Shared -> Prop} {I : Addr} {fp wr : List Addr} {G : Array GenState -> Array GenState -> Prop} {P : Nat -> Value -> Prop} {St : Nat -> Shared -> Prop}
theorem Vm {ys : List Str} (W : WalksS prog w A.in1 I fp wr G ys.length P St) (S : Addr) (hS : S ∉ fp) (hv : ∀ i v, P i v -> ∃ x t, ys[i]? = some x /\ v = .str x t) (hb : ys.length + 1 < scanBound) :
 ∀ (k i : Nat) (s : Shared), ys.length - i = k -> i <= ys.length -> St i s -> TS prog w s.heap S (once (ys.take i)) ->
  (∀ s', Moved (S :: wr) G s s' -> TS prog w s'.heap S (once ys) -> R (.ok (.ret .none)) s') -> codeAny (model prog w) A (.builtin "set.update.loop" ⟨[.ref S, .ref I], []⟩) R s := by
 have nw : S ∉ wr := fun h => hS (W.sub _ h)
 have sub : ∀ b ∈ wr, b ∈ S :: wr := fun b hb => ZAT _ hb
 intro k
 induction k with
 | zero =>
  intro i s hk hi hst T hR
  have e : i = ys.length := by omega
  subst e
  rw [ZAs] at T
  refine codeAny_builtin F.entry_set_update_loop ?_
  rw [Around.under_plainId F.plain_set_update_loop _]
  show wpAny _ A.in1 (pyNext (.ref I) >>= _) _ _ s
  refine ZAA (W.done s _ _ hst fun s' hm => ?_)
  show wpAny _ A.in1 (ret Value.none) _ _ s'
  exact ZAB (hR s' (hm.mono sub) (T.keep fun o e => hm.heap S o nw e))
 | succ k ih =>
  intro i s hk hi hst T hR
  have hlt : i < ys.length := by omega
  refine codeAny_builtin F.entry_set_update_loop ?_
  rw [Around.under_plainId F.plain_set_update_loop _]
  show wpAny _ A.in1 (pyNext (.ref I) >>= _) _ _ s
  refine ZAA (W.item i s _ _ hlt hst fun v s' hP hst' hm => ?_)
  obtain ⟨x, t, hx, rfl⟩ := hv i v hP
  have T' : TS prog w s'.heap S (once (ys.take i)) := T.keep fun o e => hm.heap S o nw e
  show wpAny _ A.in1 (holding [Value.str x t] (setAdd S (.str x t)) >>= _) _ _ s'
  refine ZAA (ZAd ?_)
  unfold setAdd
  refine ZAd ?_
  refine ZAA ((strKind prog w).pyHash (k := x) (strKind_is _ _ _ _) ?_)
  have room : (once (ys.take i)).length + 1 < scanBound := by
   have := Ycv (ys.take i)
   rw [ZAm] at this
   omega
  refine YdT (s := { s' with toks := s'.toks + 1 }) T' room fun h' b sb T2 => ?_
  have T3 : TS prog w h' S (once (ys.take (i + 1))) := by
   rw [ZAv, hx]
   simp only [Option.toList_some]
   rw [Yej]
   exact T2
  refine ZAB ⟨plainId_quiet F.plain_set_update_loop _, ih (i + 1) _ (by omega) hlt (W.frame _ s' _ _ hst' (ZCS _) fun b hb o e => ?_) T3 fun s2 hm2 T4 => ?_⟩
  ·rw [sb.2 b fun z : b = S => hS (z ▸ hb)]; exact e
  ·refine hR s2 (Moved.trans W.gtrans ((hm.mono sub).then_heap (ZCS _) fun b o hb e => ?_) hm2) T4
   rw [sb.2 b fun z : b = S => hb (z ▸ ZAQ)]; exact e
end
section
variable {prog : Program} {w : World} {A : Around} {E : VSP} {s : Shared}
theorem V8 (a : Value) {Q : VSP}
 (h : Q (.ref s.heap.objs.size) { s with heap := s.heap.push (YlK #[] 0 (.fresh 0 0 (!(byText w)))) }) :
 codeAny (model prog w) A (.call (.builtin "set.__new__") ⟨[.type "set", a], []⟩) (wants Q E) s := by
 refine codeAny_of_tree ?_
 show wpAny _ A.in1 (do checkBuiltinCall "set.__new__" ⟨[.type "set", a], []⟩; again (.builtin "set.__new__" ⟨[.type "set", a], []⟩)) _ _ s
 refine ZAA (wpAny_of_eq (F.newCall_set_1 a) (ZAB ⟨plainId_quiet F.plain_set_new _, codeAny_builtin F.entry_set_new ?_⟩))
 rw [Around.under_plainId F.plain_set_new _]
 unfold Builtin.«set.__new__» Builtin.Frozenset.newClass
 have q1 := sub_set_self
 obtain ⟨hp, g, d, tk, os⟩ := s
 show 127
 wp_walk
 refine ZBX (ZAB ?_)
 show 127
 simp only [newObj]
 refine ZAA (wpAny_alloc (ZAB ?_))
 exact ZAB h
set_option maxHeartbeats 3200000 in
theorem Yd3 {l : Addr} {items : Array Value} {ys : List Str} {Q : VSP}
 (hh : A.handled = none) (hl : s.heap.IsList l items) (hi : StrsAre items.toList ys) (hb : ys.length + 1 < scanBound)
 (h : ∀ (h' : Heap) (tk : Nat), TS prog w h' s.heap.objs.size (once ys) -> s.heap.objs.size < h'.objs.size -> (∀ b o, s.heap.get? b = some o -> h'.get? b = some o) -> Q (.ref s.heap.objs.size) { s with heap := h', toks := tk }) :
 wpAny (model prog w) A (call (.type "set") [.ref l]) Q E s := by
 have hn : items.size = ys.length := by have := StrsAre.length hi; simpa using this
 obtain ⟨c, tl, hmro⟩ := F.called_set.mro
 have q1 := F.called_set.made
 have q2 := F.called_set.sub
 refine wpAny_call (codeAny_of_tree ?_)
 show wpAny _ _ (callAny (.type "set") _) _ _ _
 refine ZAB ⟨Code.quiet_builtin _ (by decide +kernel), codeAny_builtin F.entry_type_call ?_⟩
 rw [Around.under_plain (weight_type_call_type "set" [.ref l] []) rfl]
 have q3 := F.called_set.notType
 have q4 := F.called_set.canCreate
 have q5 := F.typeCall_set_1 (.ref l)
 show 159
 refine codeAny_mono (V8 (.ref l) (E := E) (Q := fun obj s1 => obj = .ref s.heap.objs.size /\ s1 = { s with heap := s.heap.push (YlK #[] 0 (.fresh 0 0 (!(byText w)))) }) ⟨rfl, rfl⟩) fun r s1 hr => ?_
 cases r with
 | error e => exact hr
 | ok fl =>
  cases fl with
  | ret obj =>
   obtain ⟨rfl, rfl⟩ := hr
   have gS : (s.heap.push (YlK #[] 0 (.fresh 0 0 (!(byText w))))).get? s.heap.objs.size = some (YlK #[] 0 (.fresh 0 0 (!(byText w)))) := ZAK _ rfl
   have hT : Shared.TypeIs { s with heap := s.heap.push (YlK #[] 0 (.fresh 0 0 (!(byText w)))) } (.ref s.heap.objs.size) "set" := ⟨_, gS, rfl⟩
   have q6 := F.called_set.init.lookup
   have q7 := F.called_set.init.bind (.ref s.heap.objs.size)
   show 159
   refine codeAny_mono (codeAny_call_builtin (R := wants (fun r s2 => r = .none /\ ∃ h' tk, s2 = { s with heap := h', toks := tk } /\ TS prog w h' s.heap.objs.size (once ys) /\ (∀ b o, s.heap.get? b = some o -> h'.get? b = some o)) E)
    F.called_set.init.plain F.entry_set_init (check_set_init_1 hT ?_)) fun r2 s2 hr2 => ?_
   ·obtain ⟨ol, hol, hcl, nl, hdl⟩ := hl
    obtain ⟨ocls, odict, odata, oslots⟩ := ol
    simp only at hcl hdl
    subst hcl; subst hdl
    have hol1 : (s.heap.push (YlK #[] 0 (.fresh 0 0 (!(byText w))))).get? l = some { cls := .type "list", dict := odict, data := .seq items nl, slots := oslots } := ZAC _ hol
    have q8 := F.sub_list_set
    have q9 := F.sub_list_frozenset
    have q10 : (Value.type "list" == Value.type "dict") = false := by decide
    have hl1 : (s.heap.push (YlK #[] 0 (.fresh 0 0 (!(byText w))))).IsList l items := ⟨_, hol1, rfl, nl, rfl⟩
    unfold Builtin.«set.__init__» noKeywords Builtin.Frozenset.updateFrom
    generalize hPI : pyIter = PI
    wp_walk
    subst hPI
    refine ZBz hl1 ?_
    refine ZAA (ZB3 ?_)
    have lt : l < s.heap.objs.size := ZAE hol
    have hh3 : A.in1.in1.in1.handled = none := by simp [hh]
    have hneI : l ≠ (s.heap.push (YlK #[] 0 (.fresh 0 0 (!(byText w))))).objs.size := by
     rw [ZAa]; exact ZAL (ZAw lt)
    have hSf : s.heap.objs.size ∉ [(s.heap.push (YlK #[] 0 (.fresh 0 0 (!(byText w))))).objs.size, l] := by
     rw [Heap.size_push]; simp only [List.mem_cons, List.mem_singleton, List.not_mem_nil, or_false, not_or]
     exact ⟨ZAL (ZAz _), ZA5 lt⟩
    have hv : ∀ (i : Nat) (v : Value), items[i]? = some v -> ∃ x t, ys[i]? = some x /\ v = .str x t := fun i v hv => by
     have e1 : v ∈ items.toList := by
      rw [<- ZBQ] at hv
      exact ZBH hv
     obtain ⟨x, t, rfl⟩ := hi.all v e1
     refine ⟨x, t, ?_, rfl⟩
     have := hi.strs
     rw [<- this, ZAX, ZBQ, hv]
     rfl
    have W := (Walks.list (prog := prog) (w := w) hh3 _ l hneI items).toS
    rw [hn] at W
    refine Vm W s.heap.objs.size hSf hv hb (ys.length - 0) 0 _ (by omega) (ZBM _)
     ⟨⟨_, ZAK _ rfl, rfl, rfl⟩, (hl1.push _)⟩ ?hS0 ?hR
    case hS0 =>
     exact TS.empty (ZAC _ gS)
    case hR =>
     intro s3 hm T3
     obtain ⟨h3, g3, d3, tk3, os3⟩ := s3
     have eg : g3 = s.gens := hm.gens
     have ed : d3 = s.drawn := hm.drawn
     have eo : os3 = s.os := hm.os
     subst eg; subst ed; subst eo
     show wpAny _ _ _ _ _ _
     show 150
     show wpAny _ _ (ret Value.none) _ _ _
     refine ZAB ⟨rfl, h3, tk3, rfl, T3, fun b o e => ?_⟩
     have hb := ZAE e
     have hb1 : b ≠ s.heap.objs.size := ZAL hb
     have hb2 : b ≠ (s.heap.push (YlK #[] 0 (.fresh 0 0 (!(byText w))))).objs.size := by
      rw [ZAa]; exact ZAL (ZAw hb)
     exact hm.heap b o (by simp only [List.mem_cons, List.mem_singleton, List.not_mem_nil, or_false, not_or]; exact ⟨hb1, hb2⟩) (Heap.get?_push_of_some _ (Heap.get?_push_of_some _ e))
   ·cases r2 with
    | error e => exact hr2
    | ok fl2 =>
     cases fl2 with
     | ret r =>
      obtain ⟨rfl, h', tk, rfl, hS', hk'⟩ := hr2
      show 159
      obtain ⟨es, ep, t, ho, T⟩ := hS'
      exact h _ _ ⟨es, ep, t, ho, T⟩ (ZAE ho) hk'
     | _ => exact hr2.elim
  | _ => exact hr.elim
end
theorem slot_seti_next : Slot "set_iterator" "__next__" "set_iterator.__next__" :=
 .of (owner := "set_iterator") (n := "__next__") (by rw [typeLookup_type, builtinLookup_eq_fast]; kernel_rfl) (by decide +kernel) (by decide +kernel) (by decide +kernel)
  (by first | exact .inl (by decide +kernel) | exact .inr (by decide +kernel)) (by rw [isSubtype_type]; kernel_rfl)
theorem Wq : Slot "set_iterator" "__iter__" "set_iterator.__iter__" :=
 .of (owner := "set_iterator") (n := "__iter__") (by rw [typeLookup_type, builtinLookup_eq_fast]; kernel_rfl) (by decide +kernel) (by decide +kernel) (by decide +kernel)
  (by first | exact .inl (by decide +kernel) | exact .inr (by decide +kernel)) (by rw [isSubtype_type]; kernel_rfl)
theorem Y1 : entryFor table "set_iterator.__next__" = some Builtin.«set_iterator.__next__» := entryFor_of_fast (by kernel_rfl)
theorem Jg : entryFor table "set_iterator.__iter__" = some Builtin.«dict_keyiterator.__iter__» :=
 entryFor_alias (id' := "dict_keyiterator.__iter__") (by kernel_rfl) rfl (by decide +kernel) (by kernel_rfl)
theorem Jj : entryFor table "set.__iter__" = some Builtin.«frozenset.__iter__» :=
 entryFor_alias (id' := "frozenset.__iter__") (by kernel_rfl) rfl (by decide +kernel) (by kernel_rfl)
theorem Za (a : Value) : argsOk "set_iterator.__next__" ⟨[a], []⟩ := by unfold argsOk; kernel_rfl
theorem JV (a : Value) : argsOk "set_iterator.__iter__" ⟨[a], []⟩ := by unfold argsOk; kernel_rfl
def Ymh (f : Value) (i : Nat) (S : Addr) (n ep : Nat) : Obj := { cls := .type "set_iterator", dict := none, data := .fields #[f, .int i 0, .ref S, .int n 0, .int ep 0], slots := #[] }
section
variable {prog : Program} {w : World} {A : Around} {E : VSP} {s : Shared} {I S : Addr} {f : Value} {i ep : Nat} {es : Array (Int × Value)} {t : SetTable} {Q : Option Value -> Shared -> Prop}
theorem WK (hI : s.heap.get? I = some (Ymh f i S es.size ep)) (hS : s.heap.get? S = some (YlK es ep t)) (hf : t.fits es.size = true)
 {P : Fin -> Shared -> Prop}
 (h : wpAny (model prog w) A (match f with
  | .int slot _ => (do
   match <- setNext S slot.toNat i ep with
   | some (x, next) =>
    setField (.ref I) 0 (rawInt next)
    setField (.ref I) 1 (rawInt ((i : Int) + 1))
    ret x
   | none => setField (.ref I) 2 .none; raiseNew (<- newExc (.type "StopIteration") []))
  | _ => (do
   let some places <- seqItems? f | unsupported "internal:set_iterator"
   match places[i]? with
   | some (.int place _) =>
    let x <- setNextDrawn S place.toNat ep
    setField (.ref I) 1 (rawInt ((i : Int) + 1))
    ret x
   | some _ => unsupported "internal:set_iterator"
   | none => setField (.ref I) 0 (rawInt 0); setField (.ref I) 2 .none; raiseNew (<- newExc (.type "StopIteration") []))) P E s) :
 wpAny (model prog w) A (Builtin.«set_iterator.__next__» ⟨[.ref I], []⟩) P E s := by
 unfold Builtin.«set_iterator.__next__» slotArgs
 simp only [List.isEmpty_nil, Bool.not_true, Bool.false_eq_true, ↓reduceIte, List.length_nil, bne_self_eq_false]
 show 198
 show 127
 unfold fieldsOf
 refine ZAA (ZAA (ZCE hI ?_))
 show 150
 show 127
 refine ZAA (wpAny_setEntries_of hS rfl hf ?_)
 simp only [bne_self_eq_false, Bool.false_eq_true, ↓reduceIte, Int.toNat_natCast]
 cases f <;> exact h
end
section
variable {prog : Program} {w : World} {A : Around} {E : VSP} {s : Shared} {I S : Addr} {f : Value} {i ep : Nat} {es : Array (Int × Value)} {t : SetTable} {Q : Option Value -> Shared -> Prop}
theorem Y8 (hI : s.heap.get? I = some (Ymh f i S es.size ep)) : s.TypeIs (.ref I) "set_iterator" := ⟨_, hI, rfl⟩
theorem Vy {h0 : Heap} (hh : A.handled = none) (k : Heap.ExtBut I h0 s.heap) {P : Fin -> Shared -> Prop}
 (h : ∀ h' x, Heap.ExtBut I h0 h' -> (∃ o, h'.get? x = some o /\ o.cls = .type "StopIteration") -> E (.ref x) { s with heap := h' }) :
 wpAny (model prog w) A (do raiseNew (<- newExc (.type "StopIteration") [])) P E s := by
 show 138
 simp only [newExc, newTuple]
 refine ZAA (ZAk ?_ (by size_fits))
 refine wpAny_bind (m := firstArgMember _ _) (wpAny_of_eq (a := Value.none) (by first | rfl | (simp only [firstArgMember]; rfl)) ?_)
 refine ZAk ?_ (by size_fits)
 simp only [raiseNew]
 refine ZAA (wpAny_handled ?_)
 rw [hh]
 refine ZAA (ZAB (wpAny_throw ?_))
 exact h _ _ ((k.push _).push _) ⟨_, ZAK _ rfl, rfl⟩
theorem Yak {slot next : Nat} {x : Value} (hI : s.heap.get? I = some (Ymh (.int slot 0) i S es.size ep)) (hS : s.heap.get? S = some (YlK es ep t)) (hf : t.fits es.size = true)
 (hn : ∀ (A' : Around) (E' : VSP) (Q' : Option (Value × Nat) -> Shared -> Prop), Q' (some (x, next)) s -> wpAny (model prog w) A' (setNext S slot i ep) Q' E' s)
 (h : ∀ h', h'.get? I = some (Ymh (.int next 0) (i + 1) S es.size ep) -> Heap.SameBut I s.heap h' -> Q (some x) { s with heap := h' }) : wpAny (model prog w) A (pyNext (.ref I)) Q E s := by
 show 194
 refine ZAA (ZBU (wpAny_callSpecial?_slot (name := Str.ofString "__next__") (Y8 hI) slot_seti_next
  (ZAe slot_seti_next (Y8 hI) Y1 (WK hI hS hf ?_) (Za _))))
 show 127
 show 138
 simp only [Int.toNat_natCast]
 refine hn _ _ _ ?_
 show 96
 refine wpAny_bind (wpAny_setField_rec g1 (by simp) fun h2 g2 b2 => ?_)
 exact wpAny_pure ⟨_, rfl, wpAny_pure (h h2 (by rw [g2]; simp [Ymh, rawInt]) (b1.trans b2))⟩
theorem VC {slot : Nat} (hh : A.handled = none) (hI : s.heap.get? I = some (Ymh (.int slot 0) i S es.size ep)) (hS : s.heap.get? S = some (YlK es ep t)) (hf : t.fits es.size = true)
 (hn : ∀ (A' : Around) (E' : VSP) (Q' : Option (Value × Nat) -> Shared -> Prop), Q' none s -> wpAny (model prog w) A' (setNext S slot i ep) Q' E' s)
 (h : ∀ h', Heap.ExtBut I s.heap h' -> Q none { s with heap := h' }) : wpAny (model prog w) A (pyNext (.ref I)) Q E s := by
 show 194
 refine ZAA (ZBU (wpAny_callSpecial?_slot (name := Str.ofString "__next__") (Y8 hI) slot_seti_next
  (ZAe slot_seti_next (Y8 hI) Y1 (WK hI hS hf ?_) (Za _))))
 show 127
 show 138
 simp only [Int.toNat_natCast]
 refine hn _ _ _ ?_
 show 96
 refine Vy (h0 := s.heap) (s := { s with heap := h1 }) (A := A.in1) hh b1.extBut fun h2 x k ⟨o, ho, hc⟩ => ?_
 refine ZAA (ZBn (T := "StopIteration") (b := true) ⟨o, ho, hc⟩ isSubtype_stop ?_)
 exact ZAB (h _ k)
theorem Yc9 {T : Addr} {pl : Array Value} {n p : Nat} {tk : Tok} {hx : Int} {x : Value} (hI : s.heap.get? I = some (Ymh (.ref T) i S es.size ep)) (hS : s.heap.get? S = some (YlK es ep t)) (hf : t.fits es.size = true)
 (hT : s.heap.get? T = some { cls := .type "tuple", data := .seq pl n }) (hp : pl[i]? = some (.int p tk)) (he : es[p]? = some (hx, x))
 (h : ∀ h', h'.get? I = some (Ymh (.ref T) (i + 1) S es.size ep) -> Heap.SameBut I s.heap h' -> Q (some x) { s with heap := h' }) : wpAny (model prog w) A (pyNext (.ref I)) Q E s := by
 show 194
 refine ZAA (ZBU (wpAny_callSpecial?_slot (name := Str.ofString "__next__") (Y8 hI) slot_seti_next
  (ZAe slot_seti_next (Y8 hI) Y1 (WK hI hS hf ?_) (Za _))))
 show 127
 refine ZAA (ZAy hT rfl ?_)
 show 127
 rw [hp]
 show 127
 unfold setNextDrawn
 refine ZAA (ZAA (ZBV hS rfl hf ?_))
 simp only [bne_self_eq_false, Bool.false_eq_true, ↓reduceIte, Int.toNat_natCast, he]
 show 150
 show 249
 exact wpAny_pure ⟨_, rfl, wpAny_pure (h h1 (by rw [g1]; simp [Ymh, rawInt]) b1)⟩
theorem Ye0 {T : Addr} {pl : Array Value} {n : Nat} (hh : A.handled = none) (hI : s.heap.get? I = some (Ymh (.ref T) i S es.size ep)) (hS : s.heap.get? S = some (YlK es ep t)) (hf : t.fits es.size = true)
 (hT : s.heap.get? T = some { cls := .type "tuple", data := .seq pl n }) (hp : pl[i]? = none)
 (h : ∀ h', Heap.ExtBut I s.heap h' -> Q none { s with heap := h' }) : wpAny (model prog w) A (pyNext (.ref I)) Q E s := by
 show 194
 refine ZAA (ZBU (wpAny_callSpecial?_slot (name := Str.ofString "__next__") (Y8 hI) slot_seti_next
  (ZAe slot_seti_next (Y8 hI) Y1 (WK hI hS hf ?_) (Za _))))
 show 127
 refine ZAA (ZAy hT rfl ?_)
 show 127
 rw [hp]
 show 96
 refine wpAny_bind (wpAny_setField_rec g1 (by simp) fun h2 g2 b2 => ?_)
 refine Vy (h0 := s.heap) (s := { s with heap := h2 }) (A := A.in1) hh (b1.trans b2).extBut fun h3 x k ⟨o, ho, hc⟩ => ?_
 refine ZAA (ZBn (T := "StopIteration") (b := true) ⟨o, ho, hc⟩ isSubtype_stop ?_)
 exact ZAB (h _ k)
theorem VQ (hI : s.heap.get? I = some (Ymh f i S es.size ep)) {Q : VSP} (h : Q (.ref I) s) : wpAny (model prog w) A (pyIter (.ref I)) Q E s := by
 refine wpAny_pyIter_slot (Y8 hI) Wq (ZAe Wq (Y8 hI) Jg ?_ (JV _))
 show wpAny _ _ (ret (.ref I)) _ _ s
 exact ZAB ⟨_, rfl, "set_iterator", _, Y8 hI, slot_seti_next.lookup, h⟩
end
theorem Yad {α : Type} {xs : Array α} (h : xs.size = 1) : ∃ x, xs = #[x] := by
 obtain ⟨l⟩ := xs
 match l, h with
 | [x], _ => exact ⟨x, rfl⟩
theorem WV {α : Type} : ∀ {l : List α} {i : Nat} (h : i < l.length), (l[i] :: l.eraseIdx i).Perm l
 | [], _, h => by simp at h
 | x :: l, 0, _ => .refl _
 | x :: l, i + 1, h => by
  have h' : i < l.length := by simpa using h
  simp only [List.getElem_cons_succ, List.eraseIdx_cons_succ]
  exact (List.Perm.swap _ _ _).trans ((WV h').cons _)
theorem Ja {α : Type} (next : Nat -> Nat) : ∀ (n k : Nat) (left : List α) (out : Array α), left.length = n -> (pickOrder.go next n k left out).toList.Perm (out.toList ++ left)
 | 0, k, left, out, h => by
  have : left = [] := ZBw.mp h
  subst this
  simp [pickOrder.go]
 | n + 1, k, left, out, h => by
  have hlt : next k % left.length < left.length := Nat.mod_lt _ (by omega)
  unfold pickOrder.go
  rw [ZAO hlt]
  show 127
  refine (Ja next n (k + 1) _ _ (by rw [ZB7 hlt]; omega)).trans ?_
  rw [Array.toList_push, ZBA]
  refine List.Perm.append_left _ ?_
  exact WV hlt
theorem Vx {α : Type} (next : Nat -> Nat) (xs : Array α) : (pickOrder next xs).toList.Perm xs.toList := by
 have := Ja next xs.size 0 xs.toList #[] (by simp)
 simpa [pickOrder] using this
section
variable {prog : Program} {w : World} {A : Around} {E : VSP} {s : Shared} {I S : Addr} {i ep slot : Nat} {es : Array (Int × Value)} {t : SetTable}
theorem Vc (hb : byText w = true) (hS : s.heap.get? S = some (YlK es ep t)) (hf : t.fits es.size = true) {Q : Option (Value × Nat) -> Shared -> Prop}
 (h : Q (((pickOrder (w.params.setOrder S ep) es)[i]?).map fun e => (e.2, slot)) s) : wpAny (model prog w) A (setNext S slot i ep) Q E s := by
 unfold setNext
 refine ZAA (ZBV hS rfl hf ?_)
 show 127
 unfold setsByText
 refine ZAA (ZAA (ZBX (ZAB ?_)))
 rw [ZAG (show (model prog w).w.params.followText "set-order" = true from hb)]
 simp only [bne_self_eq_false, Bool.false_eq_true, ↓reduceIte]
 unfold setWalk
 refine ZAA (ZAA (ZBV hS rfl hf ?_))
 show 127
 unfold setsByText
 refine ZAA (ZAA (ZBX (ZAB ?_)))
 rw [ZAG (show (model prog w).w.params.followText "set-order" = true from hb)]
 refine ZAA (ZBX (ZAB ?_))
 exact ZAB h
theorem Wi (hb : byText w = false) (hS : s.heap.get? S = some (YlK es ep t)) (hf : t.fits es.size = true) (hl : t.led = true) (hz : es.size <= 1) {Q : Option (Value × Nat) -> Shared -> Prop}
 (h : Q (match es[SetTable.below t.place slot]?, t.place[SetTable.below t.place slot]? with
  | some (_, x), some j => some (x, j + 1)
  | _, _ => none) s) : wpAny (model prog w) A (setNext S slot i ep) Q E s := by
 unfold setNext
 refine ZAA (ZBV hS rfl hf ?_)
 show 127
 unfold setsByText
 refine ZAA (ZAA (ZBX (ZAB ?_)))
 rw [if_neg (show ¬ (model prog w).w.params.followText "set-order" = true from by show ¬ byText w = true; rw [hb]; simp)]
 split
 ·rename_i z
  have z' : (!t.plain && decide (es.size > 1)) = true := z
  rw [ZAi] at z'
  have := ZA9 z'.2
  omega
 ·refine ZAA (m := if (!t.led && !es.isEmpty) = true then unsupported "set:maker-not-led" else pure ()) ?_
  rw [hl]
  simp only [Bool.not_true, Bool.false_and, Bool.false_eq_true, ↓reduceIte]
  exact ZAB (ZAB h)
theorem Yc1 (hh : A.handled = none) (hb : byText w = true) (hne : S ≠ I) (hf : t.fits es.size = true) :
 Walks prog w A I [I, S] [I] es.size (fun i v => ((pickOrder (w.params.setOrder S ep) es).map (·.2))[i]? = some v) (fun i h => h.get? I = some (Ymh (.int 0 0) i S es.size ep) /\ h.get? S = some (YlK es ep t)) where
 sub := fun b hb => by simp at hb; simp [hb]
 frame := fun _ _ _ st hk => ⟨hk I (by simp) _ st.1, hk S (by simp) _ st.2⟩
 item := fun i s Q E hi st hQ => by
  have hsz : (pickOrder (w.params.setOrder S ep) es).size = es.size := by
   have := (Vx (w.params.setOrder S ep) es).length_eq
   show 167
  have hi' : i < (pickOrder (w.params.setOrder S ep) es).size := by omega
  refine Yak (slot := 0) (next := 0) (x := ((pickOrder (w.params.setOrder S ep) es)[i]).2) st.1 st.2 hf (fun A' E' Q' hq => Vc hb st.2 hf ?_) fun h' g' b' => ?_
  ·rw [ZCG hi']; exact hq
  ·exact hQ _ h' s.toks (by simp [hi']) ⟨g', b'.extBut S _ hne st.2⟩ fun b o hb e => b'.extBut b o (fun z => hb (by simp [z])) e
 done := fun s Q E st hQ => by
  have hsz : (pickOrder (w.params.setOrder S ep) es).size = es.size := by
   have := (Vx (w.params.setOrder S ep) es).length_eq
   show 167
  refine VC (slot := 0) hh st.1 st.2 hf (fun A' E' Q' hq => Vc hb st.2 hf ?_) fun h' b' => ?_
  ·rw [ZBg (by omega)]; exact hq
  ·show 219
 self := fun _ _ _ _ st hQ => VQ st.1 hQ
theorem YeK (hh : A.handled = none) (hb : byText w = false) (hne : S ≠ I) (hf : t.fits es.size = true) (hl : t.led = true) (hz : es.size <= 1) :
 Walks prog w A I [I, S] [I] es.size (fun i v => (es.map (·.2))[i]? = some v) (fun i h => h.get? I = some (Ymh (.int (if i = 0 then 0 else t.place.getD 0 0 + 1 : Nat) 0) i S es.size ep) /\ h.get? S = some (YlK es ep t)) where
 sub := fun b hb => by simp at hb; simp [hb]
 frame := fun _ _ _ st hk => ⟨hk I (by simp) _ st.1, hk S (by simp) _ st.2⟩
 item := fun i s Q E hi st hQ => by
  have e0 : i = 0 := by omega
  have e1 : es.size = 1 := by omega
  subst e0
  have hp : t.place.size = 1 := by
   have : (t.place.size == es.size && decide (t.fill <= t.mask)) = true := hf
   rw [ZAi, beq_iff_eq] at this
   omega
  obtain ⟨j, ej⟩ : ∃ j, t.place = #[j] := Yad hp
  obtain ⟨y, ey⟩ : ∃ y, es = #[y] := Yad e1
  refine Yak (slot := 0) (next := j + 1) (x := y.2) st.1 st.2 hf (fun A' E' Q' hq => Wi hb st.2 hf hl hz ?_) fun h' g' b' => ?_
  ·have hbl : SetTable.below t.place 0 = 0 := by rw [ej]; simp [SetTable.below, SetTable.below.go]
   rw [hbl, ej, ey]
   exact hq
  ·refine hQ _ h' s.toks (by rw [ey]; simp) ⟨?_, b'.extBut S _ hne st.2⟩ fun b o hb e => b'.extBut b o (fun z => hb (by simp [z])) e
   rw [g', ej]; rfl
 done := fun s Q E st hQ => by
  rcases Nat.lt_or_ge 0 es.size with h0 | h0
  ·have e1 : es.size = 1 := by omega
   have hp : t.place.size = 1 := by
    have : (t.place.size == es.size && decide (t.fill <= t.mask)) = true := hf
    rw [ZAi, beq_iff_eq] at this
    omega
   obtain ⟨j, ej⟩ : ∃ j, t.place = #[j] := Yad hp
   refine VC (slot := j + 1) hh (by have := st.1; rw [e1] at this ⊢; rw [ej] at this; exact this) st.2 hf (fun A' E' Q' hq => Wi hb st.2 hf hl hz ?_) fun h' b' => ?_
   ·have hbl : SetTable.below t.place (j + 1) = 1 := by rw [ej]; simp [SetTable.below, SetTable.below.go]
    rw [hbl, ZBg (by omega : es.size <= 1)]
    exact hq
   ·show 219
  ·have e0 : es.size = 0 := by omega
   refine VC (slot := 0) hh (by have := st.1; rw [e0] at this ⊢; exact this) st.2 hf (fun A' E' Q' hq => Wi hb st.2 hf hl hz ?_) fun h' b' => ?_
   ·rw [ZBg (by omega : es.size <= _)]
    exact hq
   ·show 219
 self := fun _ _ _ _ st hQ => VQ st.1 hQ
theorem Ycl {T : Addr} {od : List Nat} {n : Nat} (hh : A.handled = none) (hne : S ≠ I) (hnT : T ≠ I) (hf : t.fits es.size = true) (hod : od.Perm (List.range es.size)) :
 Walks prog w A I [I, S, T] [I] es.size (fun i v => (od.filterMap fun j => (es[j]?).map (·.2))[i]? = some v)
  (fun i h => h.get? I = some (Ymh (.ref T) i S es.size ep) /\ h.get? S = some (YlK es ep t) /\ h.get? T = some { cls := .type "tuple", data := .seq (od.map fun (j : Nat) => rawInt j).toArray n }) where
 sub := fun b hb => by simp at hb; simp [hb]
 frame := fun _ _ _ st hk => ⟨hk I (by simp) _ st.1, hk S (by simp) _ st.2.1, hk T (by simp) _ st.2.2⟩
 item := fun i s Q E hi st hQ => by
  have hl : od.length = es.size := by simpa using hod.length_eq
  have hi' : i < od.length := by omega
  have hj : od[i] < es.size := by
   have := hod.mem_iff.mp (ZAu hi')
   show 167
  have key : ∀ (od' : List Nat), (∀ j ∈ od', j < es.size) -> od'.filterMap (fun j => (es[j]?).map (·.2)) = od'.map fun j => (es.getD j (0, .none)).2 := by
   intro od'
   induction od' with
   | nil => intro _; rfl
   | cons j r ih =>
    intro hm
    have h1 := hm j (ZAQ ..)
    rw [List.filterMap_cons, ZCG h1]
    simp only [Option.map_some, List.map_cons]
    rw [ih fun k hk => hm k (ZAT _ hk)]
    simp [h1]
  refine Yc9 (p := od[i]) (tk := 0) (hx := es[od[i]].1) (x := es[od[i]].2) st.1 st.2.1 hf st.2.2 (by simp [hi', rawInt]) (by rw [Array.getElem?_eq_getElem hj]) fun h' g' b' => ?_
  refine hQ _ h' s.toks ?_ ⟨g', b'.extBut S _ hne st.2.1, b'.extBut T _ hnT st.2.2⟩ fun b o hb e => b'.extBut b o (fun z => hb (by simp [z])) e
  rw [key od fun j hj => by simpa using hod.mem_iff.mp hj]
  simp [hi', hj]
 done := fun s Q E st hQ => by
  have hl : od.length = es.size := by simpa using hod.length_eq
  refine Ye0 hh st.1 st.2.1 hf st.2.2 (by simp [hl]) fun h' b' => ?_
  show 219
 self := fun _ _ _ _ st hQ => VQ st.1 hQ
theorem Vh {α : Type} : ∀ (n : Nat) (xs : List α) (s : Shared) (Q : List α -> Shared -> Prop), xs.length = n -> (∀ ys d, ys.Perm xs -> Q ys { s with drawn := d }) -> wpAny (model prog w) A (drawOrder n xs) Q E s
 | 0, xs, s, Q, hn, h => by
  have : xs = [] := ZBw.mp hn
  subst this
  unfold drawOrder
  exact ZAB (h [] s.drawn (.refl _))
 | n + 1, [], s, Q, hn, h => by cases hn
 | n + 1, x :: xs, s, Q, hn, h => by
  unfold drawOrder
  refine wpAny_bind (Yeq (by simp) fun i hi => ?_)
  rw [ZAO hi]
  show 127
  refine ZAA (Vh n _ _ _ (by rw [ZB7 hi]; omega) fun ys d hp => ZAB ?_)
  exact h _ d ((List.Perm.cons _ hp).trans (WV hi))
end
section
variable {prog : Program} {w : World} {A : Around} {E : VSP} {s : Shared} {S : Addr}
structure Ypy (prog : Program) (w : World) (s : Shared) (S : Addr) (ks : List Str) (I : Addr) (s' : Shared) : Prop where
 old : ∀ b o, s.heap.get? b = some o -> s'.heap.get? b = some o
 new : s.heap.objs.size <= I
 gens : s'.gens = s.gens
 os : s'.os = s.os
 toks : s'.toks = s.toks
 ty : s'.TypeIs (.ref I) "set_iterator"
 wk : ∀ A' : Around, A'.handled = none -> ∃ (fp : List Addr) (items : List Value) (St : Nat -> Heap -> Prop), Walks prog w A' I fp [I] ks.length (fun i v => items[i]? = some v) St /\ St 0 s'.heap /\ (∀ b ∈ fp, b < s'.heap.objs.size) /\ (∀ b ∈ fp, b = S \/ s.heap.objs.size <= b) /\
  items.length = ks.length /\ ∃ ys, StrsAre items ys /\ ys.Perm ks
theorem ZY {es : Array (Int × Value)} {t : SetTable} {ks : List Str} (T : TT1 prog w es t ks) {items : List Value} (hp : items.Perm (es.toList.map (·.2))) : items.length = ks.length /\ ∃ ys, StrsAre items ys /\ ys.Perm ks := by
 refine ⟨by rw [hp.length_eq, <- T.sz]; simp, items.map strOf, strsAre_map items fun v hv => ?_, ?_⟩
 ·have := hp.mem_iff.mp hv
  obtain ⟨e, he, rfl⟩ := ZAb.mp this
  obtain ⟨⟨k, hk, _⟩, _⟩ := T.el e he
  obtain ⟨tk, e'⟩ := ZBq hk
  exact ⟨k, tk, e'⟩
 ·refine (hp.map strOf).trans ?_
  rw [ZAq]
  exact T.pm
theorem Jh {es : Array (Int × Value)} : (List.range es.size).filterMap (fun j => (es[j]?).map (·.2)) = es.toList.map (·.2) := by
 have e : (fun j => (es[j]?).map (·.2)) = fun j : Nat => ((fun j => es[j]?) j).map (fun p : Int × Value => p.2) := rfl
 rw [e, <- List.map_filterMap, filterMap_getElem?_range]
theorem Yhb {ks : List Str} {Q : VSP} (T : TS prog w s.heap S ks) (hb : ks.length < scanBound) (h : ∀ I s', Ypy prog w s S ks I s' -> Q (.ref I) s') : wpAny (model prog w) A (pyIter (.ref S)) Q E s := by
 have hT := T.typeIs
 obtain ⟨es, ep, t, ho, T⟩ := T
 have hlt : S < s.heap.objs.size := ZAE ho
 refine wpAny_pyIter_slot hT F.slot_set_iter (ZAe F.slot_set_iter hT Jj ?_ (F.args_set_iter_1 _))
 unfold Builtin.«frozenset.__iter__» Builtin.Frozenset.slot0 slotArgs
 simp only [List.isEmpty_nil, Bool.not_true, Bool.false_eq_true, ↓reduceIte, List.length_nil, bne_self_eq_false]
 unfold Builtin.Frozenset.addrOf Builtin.Frozenset.sizeOf
 refine ZAA (ZAA (ZAB (ZAB ?_)))
 refine ZAA (ZAA (wpAny_setEntries_of ho rfl T.fit (ZAB ?_)))
 unfold setDrawn
 refine ZAA (ZAA (ZBV ho rfl T.fit ?_))
 show 127
 unfold setsByText
 refine ZAA (ZAA (ZBX (ZAB (ZAB ?_))))
 split
 ·rename_i z
  have z' : (!(byText w) && (!t.plain && decide (es.size > 1))) = true := z
  refine wpAny_bind (Vh es.size _ _ _ (by simp) fun od d hp => ?_)
  have hz : od.length <= sizeLine := by
   have := hp.length_eq
   rw [ZBB] at this
   rw [this, T.sz]
   exact fits_of_scanBound hb
  refine wpAny_bind (wpAny_newTuple ?_ (by simpa using hz))
  refine ZAA (wpAny_setEpoch_of (ZAC _ ho) rfl T.fit ?_)
  refine ZAA (ZAk (ZAB ⟨_, rfl, "set_iterator", _, ⟨_, ZAK _ rfl, rfl⟩, slot_seti_next.lookup, h _ _ ?_⟩))
  refine ⟨fun b o e => ZAC _ (ZAC _ e), by rw [ZAa]; exact ZCS _, rfl, rfl, rfl, ⟨_, ZAK _ rfl, rfl⟩, fun A' hh => ?_⟩
  have hne : S ≠ (s.heap.push { cls := .type "tuple", dict := none, data := .seq (od.map fun (i : Nat) => rawInt i).toArray }).objs.size := by
   rw [ZAa]; exact ZAL (ZAw hlt)
  have hnT : s.heap.objs.size ≠ (s.heap.push { cls := .type "tuple", dict := none, data := .seq (od.map fun (i : Nat) => rawInt i).toArray }).objs.size := by
   rw [ZAa]; exact ZAL (ZAz _)
  have W := Ycl (prog := prog) (w := w) (ep := ep) (n := 0) hh hne hnT T.fit hp
  rw [T.sz] at W
  refine ⟨_, _, _, W, ⟨?_, ?_, ?_⟩, ?_, ?_, ZY T ?_⟩
  ·refine (ZAK _ rfl).trans ?_
   simp [Ymh, rawInt, T.sz]
  ·exact ZAC _ (ZAC _ ho)
  ·exact ZAC _ (ZAK _ rfl)
  ·intro b hb
   rw [ZAa, ZAa]
   show 214
   rcases hb with rfl | rfl | rfl
   ·rw [ZAa]; exact ZAz _
   ·exact ZAw (ZAw hlt)
   ·exact ZAw (ZAz _)
  ·intro b hb
   show 214
   rcases hb with rfl | rfl | rfl
   ·rw [ZAa]; exact .inr (ZCS _)
   ·exact .inl rfl
   ·exact .inr (ZAI _)
  ·rw [<- Jh]
   exact hp.filterMap _
 ·rename_i z
  show 198
  refine ZAA (wpAny_setEpoch_of ho rfl T.fit ?_)
  refine ZAA (ZAk (ZAB ⟨_, rfl, "set_iterator", _, ⟨_, ZAK _ rfl, rfl⟩, slot_seti_next.lookup, h _ _ ?_⟩))
  refine ⟨fun b o e => ZAC _ e, ZAI _, rfl, rfl, rfl, ⟨_, ZAK _ rfl, rfl⟩, fun A' hh => ?_⟩
  have hne : S ≠ s.heap.objs.size := ZAL hlt
  have small : ∀ b ∈ [s.heap.objs.size, S], b < (s.heap.push { cls := .type "set_iterator", dict := none, data := .fields [rawInt 0, rawInt 0, .ref S, rawInt es.size, rawInt ep].toArray }).objs.size := by
   intro b hb
   rw [ZAa]
   show 214
   rcases hb with rfl | rfl
   ·exact ZAz _
   ·exact ZAw hlt
  have apart : ∀ b ∈ [s.heap.objs.size, S], b = S \/ s.heap.objs.size <= b := by
   intro b hb
   show 214
   rcases hb with rfl | rfl
   ·exact .inr (ZAI _)
   ·exact .inl rfl
  cases hbt : byText w with
  | true =>
   have W := Yc1 (prog := prog) (es := es) (ep := ep) hh hbt hne T.fit
   simp only [<- Array.getElem?_toList, Array.toList_map] at W
   rw [T.sz] at W
   refine ⟨_, _, _, W, ⟨?_, ZAC _ ho⟩, small, apart, ZY T ?_⟩
   ·refine (ZAK _ rfl).trans ?_
    simp [Ymh, rawInt, T.sz]
   ·exact (Vx _ es).map _
  | false =>
   have hl : t.led = true := by rw [T.led, hbt]; rfl
   have hz : es.size <= 1 := by
    rcases T.pl with h0 | h0
    ·omega
    ·have z' : ¬ (!(byText w) && (!t.plain && decide (es.size > 1))) = true := z
     rw [hbt, h0] at z'
     simp at z'
     omega
   have W := YeK (prog := prog) (es := es) (ep := ep) hh hbt hne T.fit hl hz
   simp only [<- Array.getElem?_toList, Array.toList_map] at W
   rw [T.sz] at W
   refine ⟨_, _, _, W, ⟨?_, ZAC _ ho⟩, small, apart, ZY T (.refl _)⟩
   refine (ZAK _ rfl).trans ?_
   simp [Ymh, rawInt, T.sz]
end
section
variable {prog : Program} {w : World} {A : Around} {E : VSP} {s : Shared} {S : Addr}
theorem Yfx {r : Addr} {Q : Bool -> Shared -> Prop} (hT : s.TypeIs (.ref r) "set") (h : Q false s) : wpAny (model prog w) A (Builtin.List.listLengthHint (.ref r)) Q E s := by
 unfold Builtin.List.listLengthHint
 refine ZAA (ZCO hT F.slot_set_len.lookup ?_)
 generalize hid : ("set.__len__" : String) = id0
 wp_delta
 rw [show splitId id0 = some ("set", "__len__") from by subst hid; decide +kernel]
 subst hid
 refine ZAA (ZBn (T := "set") (b := true) hT (by rw [isSubtype_type]; kernel_rfl) ?_)
 refine ZCP (fun hab => absurd hab (by decide)) (fun _ => ?_)
 refine ZCP (fun _ => ?_) (fun hab => absurd (by decide +kernel) hab)
 refine ZAA (ZBO hT ?_)
 exact ZAB h
theorem YcN {items : List Value} {acc : Array Value} (h : ItemsOf (fun i v => items[i]? = some v) acc items.length) : acc.toList = items := by
 refine List.ext_getElem? fun i => ?_
 by_cases hi : i < acc.size
 ·have e : acc[i]? = some acc[i] := by simp [hi]
  rw [ZBQ, e, h.2 i _ e]
 ·rw [ZBQ, ZBg (by omega), ZAr (by have := h.1; omega)]
theorem Yc8 {R : Result -> Shared -> Prop} {ks : List Str} (T : TS prog w s.heap S ks) (hb : ks.length < scanBound) (hh : A.handled = none) (L : Addr) (hLS : L ≠ S) (res : Value)
 (hL : s.heap.get? L = some { cls := .type "list", data := .seq #[] })
 (hR : ∀ (s' : Shared) (acc : Array Value) (c : Nat) (ys : List Str), (∀ b o, b ≠ L -> s.heap.get? b = some o -> s'.heap.get? b = some o) -> s'.gens = s.gens -> s'.os = s.os ->
  s'.heap.get? L = some { cls := .type "list", dict := none, data := .seq acc c, slots := #[] } -> StrsAre acc.toList ys -> ys.Perm ks -> R (.ok (.ret res)) s') :
 wpAny (model prog w) A.in1 (Builtin.List.listExtendWith (.ref L) (.ref S) res)
  (fun fin s' => match fin with | .done f => R (.ok f) s' | .again c' => c'.quiet = true /\ codeAny (model prog w) A c' R s') (fun e s' => R (.error e) s') s := by
 have hT := T.typeIs
 unfold Builtin.List.listExtendWith
 refine ZAA (ZBO (T := "set") hT ?_)
 have h1 : Builtin.List.listSameRef (.ref L) (.ref S) = false := by simp [Builtin.List.listSameRef, hLS]
 have h2 : (Value.type "set" == Value.type "list") = false := by decide
 have h3 : (Value.type "set" == Value.type "tuple") = false := by decide
 simp only [h1, h2, h3, Bool.or_false, Bool.false_eq_true, if_false]
 refine ZAA (Yhb T hb fun I s1 X => ?_)
 obtain ⟨fp, items, St, W, st, small, apart, hlen, ys, hys, hp⟩ := X.wk A.in1 hh
 have hLf : L ∉ fp := fun z => by
  rcases apart L z with e | e
  ·exact hLS e
  ·exact absurd (ZAE hL) (ZCa.mpr e)
 have hn : ks.length <= sizeLine := fits_of_scanBound hb
 have hL1 := X.old _ _ hL
 have hLI : L ≠ I := fun z => absurd (ZAE hL) (ZCa.mpr (by rw [z]; exact X.new))
 have key : ∀ (h : Heap) (c₁ : Nat), St 0 h -> (∀ b o, b ≠ L -> s.heap.get? b = some o -> h.get? b = some o) -> h.get? L = some { cls := .type "list", data := .seq #[] c₁ } ->
  codeAny (model prog w) A (.builtin "list.extend.loop" ⟨[.ref L, .ref I, res], []⟩) R { s1 with heap := h } := by
  intro h c₁ hst hk hS₁
  refine codeAny_extend_loopS W.toS hn L hLf res ks.length 0 _ #[] c₁ rfl (ZBM _) hst hS₁ (ItemsOf.nil _) fun s' acc' c' hm hS' hacc => ?_
  rw [<- hlen] at hacc
  have e := YcN hacc
  refine hR s' acc' c' ys (fun b o hb' e' => ?_) ?_ ?_ hS' (by rw [e]; exact hys) hp
  ·refine hm.heap b o (fun hmem => ?_) (hk b o hb' e')
   rcases ZAZ.mp hmem with e'' | hmem
   ·exact hb' e''
   ·rw [ZAg.mp hmem] at e'
    exact absurd (ZAE e') (ZCa.mpr X.new)
  ·have := hm.gens; exact this.trans X.gens
  ·exact hm.os.trans X.os
 refine ZAA (ZAd (Yfx (T.keep (X.old S)).typeIs ?_))
 refine ZCP (fun _ => ?_) (fun _ => ZAB ⟨plainId_quiet PySem.F.plain_extend_loop _, key s1.heap 0 st (fun b o _ e => X.old b o e) hL1⟩)
 refine ZAA (ZBl ?_)
 show 138
 show wpAny _ _ (updateSeq L (·.push .none) >>= fun _ => updateSeq L (·.pop)) _ _ _
 refine ZAA (wpAny_updateSeq hL1 rfl ?_)
 have hS₂ := ZBF (Obj.mapSeq (·.push Value.none)) hL1 rfl
 refine wpAny_updateSeq (hz := by seq_fits) hS₂ rfl ?_
 have hS₃ := ZBF (Obj.mapSeq (·.pop)) hS₂ rfl
 refine ZAB ⟨plainId_quiet PySem.F.plain_extend_loop _, key _ _ ?_ (fun b o hb e => ?_) hS₃⟩
 ·refine W.frame 0 _ _ st fun b hb o e => ?_
  have hbS : b ≠ L := fun h => hLf (h ▸ hb)
  exact (ZAt _ _ (ZA1 hbS)).trans ((ZAt _ _ (ZA1 hbS)).trans e)
 ·exact (ZAt _ _ (ZA1 hb)).trans ((ZAt _ _ (ZA1 hb)).trans (X.old b o e))
theorem Yct {R : List Value -> Shared -> Prop} {ks : List Str} (T : TS prog w s.heap S ks) (hb : ks.length < scanBound) (hh : A.handled = none)
 (h : ∀ (s' : Shared) (acc : List Value) (ys : List Str), (∀ b o, s.heap.get? b = some o -> s'.heap.get? b = some o) -> s'.gens = s.gens -> s'.os = s.os -> s.heap.objs.size < s'.heap.objs.size -> StrsAre acc ys -> ys.Perm ks -> R acc s') :
 wpAny (model prog w) A (collect (.ref S)) R E s := by
 have hlt : S < s.heap.objs.size := let ⟨_, _, _, ho, _⟩ := T; ZAE ho
 unfold collect
 refine ZAA (ZB3 (codeAny_builtin entry_proto_collect' ?_))
 rw [Around.under_plainId PySem.F.plain_proto_collect _]
 show wpAny _ A.in1 (newList [] >>= fun l => again (.builtin "list.__iadd__" ⟨[l, .ref S], []⟩)) _ _ s
 refine ZAA (ZAk ?_)
 refine ZAB ⟨plainId_quiet PySem.F.plain_list_iadd _, codeAny_builtin entry_list_iadd' ?_⟩
 rw [Around.under_plainId PySem.F.plain_list_iadd _]
 have hS₁ : (s.heap.push { cls := .type "list", data := .seq ([] : List Value).toArray }).get? s.heap.objs.size = some { cls := .type "list", data := .seq #[] } := ZAK _ rfl
 show wpAny _ A.in1 (Builtin.List.listExtendWith (.ref s.heap.objs.size) (.ref S) (.ref s.heap.objs.size)) _ _ _
 have key := Yc8 (A := A) (s := { s with heap := s.heap.push { cls := .type "list", data := .seq ([] : List Value).toArray } })
  (R := fun (q : Result) (s' : Shared) => ∃ (acc : Array Value) (c : Nat) (ys : List Str), q = .ok (.ret (.ref s.heap.objs.size)) /\
   (∀ b o, s.heap.get? b = some o -> s'.heap.get? b = some o) /\ s'.gens = s.gens /\ s'.os = s.os /\ s'.heap.get? s.heap.objs.size = some { cls := .type "list", dict := none, data := .seq acc c, slots := #[] } /\ StrsAre acc.toList ys /\ ys.Perm ks)
  (T.keep fun o e => ZAC _ e) hb hh s.heap.objs.size (ZA5 hlt) (.ref s.heap.objs.size) hS₁
  (fun s' acc c ys hk hg ho hS' hacc hp => ⟨acc, c, ys, rfl, fun b o e => hk b o (ZAL (ZAE e)) (ZAC _ e), hg, ho, hS', hacc, hp⟩)
 refine ZA7 key (fun fin s' x => ?_) fun e s' x => ?_
 ·cases fin with
  | done f =>
   obtain ⟨acc, c, ys, e, hk, hg, ho, hS', hacc, hp⟩ := x
   cases e
   show wpAny _ A (load s.heap.objs.size >>= _) _ _ _
   refine ZAA (ZCE hS' ?_)
   exact ZAB (h s' acc.toList ys hk hg ho (ZAE hS') hacc hp)
  | again c₁ =>
   refine ⟨x.1, codeAny_mono x.2 fun q s₂ y => ?_⟩
   obtain ⟨acc, c, ys, rfl, hk, hg, ho, hS', hacc, hp⟩ := y
   show wpAny _ A (load s.heap.objs.size >>= _) _ _ _
   refine ZAA (ZCE hS' ?_)
   exact ZAB (h s₂ acc.toList ys hk hg ho (ZAE hS') hacc hp)
 ·obtain ⟨_, _, _, e', _⟩ := x
  cases e'
theorem Jf {ks : List Str} {Q : VSP} (T : TS prog w s.heap S ks) (hb : ks.length < 64) (hh : A.handled = none)
 (h : ∀ (D : Addr) (s' : Shared) (out : List Value) (ss : List Str) (n : Nat), s.heap.objs.size <= D -> (∀ b o, s.heap.get? b = some o -> s'.heap.get? b = some o) -> s'.gens = s.gens -> s'.os = s.os ->
  s'.heap.get? D = some { cls := .type "list", data := .seq out.toArray n } -> StrsAre out ss -> ss.Perm ks -> sortedS ss = true -> Q (.ref D) s') :
 wpAny (model prog w) A (call (.builtin "sorted") [.ref S]) Q E s := by
 refine Calls.call_function_entry kind_sorted plain_sorted entry_sorted (args_sorted1 _) ?_
 unfold Builtin.«sorted»
 refine ZAA (m := checkCount "sorted" 1 1 _) (ZAB ?_)
 refine ZAA (Yct (A := A.in1) T (Nat.lt_trans hb (by decide)) hh fun s1 acc ys hk hg ho hsz0 hacc hp => ?_)
 have hl : acc.length = ks.length := by have := StrsAre.length hacc; rw [this, hp.length_eq]
 refine ZAA (wpAny_newList ?_ (by rw [hl]; exact ZAR (ZBW hb) (by rw [sizeLine_eq]; decide)))
 have hoL : (s1.heap.push (seqObj "list" acc.toArray 0)).get? s1.heap.objs.size = some (seqObj "list" acc.toArray 0) := ZAK _ rfl
 refine ZAA (ZAd (ZAe (s := { s1 with heap := s1.heap.push (seqObj "list" acc.toArray 0) }) slot_list_sort ⟨_, hoL, rfl⟩ entry_list_sort
  (list_sort_treeK strKind_oneLt hoL hacc.keysOf (fun v₁ v₂ rest e => keyKind_strs (by rw [<- e]; exact hacc)) (by rw [hl]; exact hb) fun st' a1 a2 => ⟨_, rfl, ?_⟩) (args_list_sort _)))
 obtain ⟨ss, g1, g2, g3⟩ := sorted_out_str hacc a1 a2
 have hsz : s.heap.objs.size <= s1.heap.objs.size := ZBW hsz0
 obtain ⟨n, hD⟩ : ∃ n, (sortedHeap (s1.heap.push (seqObj "list" acc.toArray 0)) s1.heap.objs.size acc ((arrOf st').map (·.2))).get? s1.heap.objs.size = some (seqObj "list" ((arrOf st').map (·.2)) n) := by
  have g0 := ZAC (seqObj "list" #[] 0) (ZAC (seqObj "tuple" acc.toArray 0) (get?_update_seq hoL fun _ => #[]))
  exact ⟨_, get?_update_seq g0 _⟩
 have hOld : ∀ b o, s.heap.get? b = some o -> (sortedHeap (s1.heap.push (seqObj "list" acc.toArray 0)) s1.heap.objs.size acc ((arrOf st').map (·.2))).get? b = some o := fun b o e => by
  have hb' : b ≠ s1.heap.objs.size := ZAL (ZAE (hk b o e))
  unfold sortedHeap
  rw [ZAt _ _ (ZA1 hb')]
  refine ZAC _ (ZAC _ ?_)
  rw [ZAt _ _ (ZA1 hb')]
  exact ZAC _ (hk b o e)
 generalize sortedHeap (s1.heap.push (seqObj "list" acc.toArray 0)) s1.heap.objs.size acc ((arrOf st').map (·.2)) = hp' at hD hOld ⊢
 have hD' : hp'.get? s1.heap.objs.size = some { cls := .type "list", data := .seq ((arrOf st').map (·.2)).toList.toArray n } := by rw [Array.toArray_toList]; exact hD
 exact ZAB ⟨_, rfl, h s1.heap.objs.size _ ((arrOf st').map (·.2)).toList ss n hsz hOld hg ho hD' g1 (g2.trans hp) g3⟩
end
def leS (a b : Str) : Bool := !Ynh b a
def YmX (ks : List Str) : List Str := ks.mergeSort leS
theorem YhP {a b : Str} (h : a.cps.toList = b.cps.toList) : a = b := by
 cases a with | mk a => cases b with | mk b => exact ZBK Str.mk (Array.toList_inj.mp h)
theorem Jq {a b : Str} : leS a b = true ↔ a.cps.toList <= b.cps.toList := by
 unfold leS Ynh
 simp [List.not_lt]
theorem YaZ (a b c : Str) (h1 : leS a b = true) (h2 : leS b c = true) : leS a c = true := by
 rw [Jq] at *
 exact List.le_trans h1 h2
theorem Ye3 (a b : Str) : (leS a b || leS b a) = true := by
 rw [Bool.or_eq_true, Jq, Jq]
 exact List.le_total _ _
theorem YgM {a b : Str} (h1 : leS a b = true) (h2 : leS b a = true) : a = b := by
 rw [Jq] at *
 exact YhP (List.le_antisymm h1 h2)
theorem YcJ (ks : List Str) : (YmX ks).Perm ks := List.mergeSort_perm ks leS
theorem J4 (ks : List Str) : (YmX ks).Pairwise fun a b => leS a b = true := List.pairwise_mergeSort YaZ Ye3 ks
theorem W9 {ss ks : List Str} (hp : ss.Perm ks) (h : ss.Pairwise fun a b => leS a b = true) : ss = YmX ks :=
 List.Perm.eq_of_pairwise (fun a b _ _ h1 h2 => YgM h1 h2) h (J4 ks) (hp.trans (YcJ ks).symm)
theorem ZL : ∀ (p : Str) (l : List Str), risingS p l = true -> (p :: l).Pairwise fun a b => leS a b = true
 | p, [], _ => List.pairwise_singleton ..
 | p, x :: r, h => by
  unfold risingS at h
  rw [ZAi] at h
  have ih := ZL x r h.2
  have h1 : leS p x = true := by
   have := h.1
   rw [ltCps_eq] at this
   exact this
  refine List.Pairwise.cons (fun y hy => ?_) ih
  rcases ZAZ.mp hy with rfl | hy
  ·exact h1
  ·exact YaZ _ _ _ h1 (List.rel_of_pairwise_cons ih hy)
theorem VA : ∀ (l : List Str), sortedS l = true -> l.Pairwise fun a b => leS a b = true
 | [], _ => .nil
 | x :: r, h => ZL x r h
theorem YaL : ∀ {us : List Value} {ss : List Str}, StrsAre us ss -> Vals (ss.map V.str) us
 | _, _, .nil => .nil
 | _, _, .cons x t h => .cons ⟨t, rfl⟩ (YaL h)
theorem VJ {K : Frag} {as : List Addr} {H : Hp} : ∀ (ss : List Str), Dens K as H (ss.map V.str) (ss.map P.str)
 | [] => .nil
 | _ :: r => .cons .str (VJ r)
section
variable {X : Cx} {e : Expr} {me : ME} {p1 p2 c1 c2 : Pos}
end
end Mi
namespace Mi
open PySem PySem.Spec L2 PySem.SeqAt
open PyProof.Rows hiding St
def noD : Nat -> PyData -> Bool
 | _, .none => true
 | _, .bool _ => true
 | _, .int _ => true
 | _, .str _ => true
 | n + 1, .list xs => xs.all (noD n)
 | n + 1, .tuple xs => xs.all (noD n)
 | _, _ => false
theorem Y7 {h : Heap} : ∀ {vs : List Value} {xs : List PyData} {as : List Addr}, ReadsAll h vs xs as -> ∀ j (h1 : j < vs.length), ∃ (h2 : j < xs.length) (bs : List Addr), Reads h vs[j] xs[j] bs
 | _, _, _, .nil, j, h1 => absurd h1 (Nat.not_lt_zero _)
 | _, _, _, .cons r _, 0, _ => ⟨Nat.succ_pos _, _, r⟩
 | _, _, _, .cons _ rs, j + 1, h1 => by
  obtain ⟨h2, bs, q⟩ := Y7 rs j (Nat.lt_of_succ_lt_succ h1)
  exact ⟨Nat.succ_lt_succ h2, bs, q⟩
theorem YD {h : Heap} : ∀ {vs : List Value} {xs : List PyData} {as : List Addr}, ReadsAll h vs xs as -> vs.length = xs.length
 | _, _, _, .nil => rfl
 | _, _, _, .cons _ rs => ZBK Nat.succ (YD rs)
theorem Yeb {h : Heap} : ∀ (n : Nat) {v : Value} {d e : PyData} {as bs : List Addr}, noD n d = true -> Reads h v d as -> Reads h v e bs -> d = e := by
 intro n
 induction n with
 | zero =>
  intro v d e as bs hd r q
  cases r <;> first | (cases q; rfl) | exact absurd hd (by simp [noD])
 | succ n ih =>
  have all : ∀ {vs : List Value} {xs ys : List PyData} {as bs : List Addr}, xs.all (noD n) = true -> ReadsAll h vs xs as -> ReadsAll h vs ys bs -> xs = ys := by
   intro vs xs ys as bs ha rx ry
   have l1 := YD rx
   have l2 := YD ry
   refine List.ext_getElem (l1.symm.trans l2) fun j j1 j2 => ?_
   obtain ⟨_, _, a⟩ := Y7 rx j (by omega)
   obtain ⟨_, _, b⟩ := Y7 ry j (by omega)
   exact ih (ZA6.mp ha _ (ZAu j1)) a b
  intro v d e as bs hd r q
  cases r with
  | none => cases q; rfl
  | bool b => cases q; rfl
  | int i t => cases q; rfl
  | str x t => cases q; rfl
  | list h1 h2 h3 h4 =>
   cases q with
   | list k1 k2 k3 k4 => rw [h1] at k1; cases k1; rw [h3] at k3; cases k3; rw [all hd h4 k4]
   | tuple k1 k2 k3 k4 => show 218
   | dict k1 k2 k3 k4 k5 => show 218
  | tuple h1 h2 h3 h4 =>
   cases q with
   | tuple k1 k2 k3 k4 => rw [h1] at k1; cases k1; rw [h3] at k3; cases k3; rw [all hd h4 k4]
   | list k1 k2 k3 k4 => show 218
   | dict k1 k2 k3 k4 k5 => show 218
  | dict => exact absurd hd (by simp [noD])
theorem J1 {xs : List PyData} (h : ∀ x ∈ xs, PyData.eqv x x = true) : PyData.eqvAll xs xs = true := by
 induction xs with
 | nil => rfl
 | cons x r ih => rw [PyData.eqvAll, h x (ZAQ ..), ih fun y hy => h y (ZAT _ hy)]; rfl
theorem Yg9 : ∀ (n : Nat) {d : PyData}, noD n d = true -> PyData.eqv d d = true := by
 intro n
 induction n with
 | zero => intro d hd; cases d <;> first | (simp [PyData.eqv]; done) | exact absurd hd (by simp [noD])
 | succ n ih =>
  intro d hd
  cases d with
  | list xs => rw [PyData.eqv]; exact J1 fun x hx => ih (ZA6.mp hd x hx)
  | tuple xs => rw [PyData.eqv]; exact J1 fun x hx => ih (ZA6.mp hd x hx)
  | dict _ => exact absurd hd (by simp [noD])
  | _ => simp [PyData.eqv]
inductive Sh (h : Heap) : Value -> PyData -> Prop where
 | none : Sh h .none .none
 | bool (b) : Sh h (.bool b) (.bool b)
 | int (i t) : Sh h (.int i t) (.int i)
 | str (x t) : Sh h (.str x t) (.str x)
 | list {a its xs as} : h.IsList a its -> ReadsAll h its.toList xs as -> Sh h (.ref a) (.list xs)
 | tup {a its xs as} : h.IsTuple a its -> ReadsAll h its.toList xs as -> Sh h (.ref a) (.tuple xs)
theorem Yds {h : Heap} {n : Nat} {v : Value} {d : PyData} {as : List Addr} (r : Reads h v d as) (hd : noD n d = true) : Sh h v d := by
 cases r with
 | none => exact .none
 | bool b => exact .bool b
 | int i t => exact .int i t
 | str x t => exact .str x t
 | list h1 h2 h3 h4 => exact .list ⟨_, h1, h2, _, h3⟩ h4
 | tuple h1 h2 h3 h4 => exact .tup ⟨_, h1, h2, _, h3⟩ h4
 | dict => cases n <;> exact absurd hd (by simp [noD])
theorem Ycj {A : Around} {s : Shared} {v u : Value} {d e : PyData} (hu : A.units < cLine) (a : Sh s.heap v d) (b : Sh s.heap u e)
 (sub : ∀ {its its' : Array Value} {xs ys : List PyData} {as bs : List Addr}, (d = .list xs /\ e = .list ys) \/ (d = .tuple xs /\ e = .tuple ys) -> ReadsAll s.heap its.toList xs as -> ReadsAll s.heap its'.toList ys bs ->
  ∀ j (h1 : j < its.size) (h2 : j < its'.size), EqAt A.in1 s its[j] its'[j] (pairEq xs ys j)) : RcAt A s v u (PyData.eqv d e) /\ RcNeAt A s v u (!PyData.eqv d e) := by
 cases a with
 | none =>
  cases b with
  | none => exact ⟨.none_none, .none_none⟩
  | bool y => exact ⟨.none_bool y, .none_bool y⟩
  | int y t => exact ⟨.none_int y t, .none_int y t⟩
  | str y t => exact ⟨.none_str y t, .none_str y t⟩
  | list k _ => exact ⟨.none_list k hu, .none_list k hu⟩
  | tup k _ => exact ⟨.none_tuple k hu, .none_tuple k hu⟩
 | bool x =>
  cases b with
  | none => exact ⟨.bool_none x, .bool_none x⟩
  | bool y => exact ⟨.bool_bool x y, .bool_bool x y⟩
  | int y t => exact ⟨.bool_int x y t, .bool_int x y t⟩
  | str y t => exact ⟨.bool_str x y t, .bool_str x y t⟩
  | list k _ => exact ⟨.bool_list x k hu, .bool_list x k hu⟩
  | tup k _ => exact ⟨.bool_tuple x k hu, .bool_tuple x k hu⟩
 | int x t =>
  cases b with
  | none => exact ⟨.int_none x t, .int_none x t⟩
  | bool y => exact ⟨.int_bool x t y, .int_bool x t y⟩
  | int y t' => exact ⟨.int_int x t y t', .int_int x t y t'⟩
  | str y t' => exact ⟨.int_str x t y t', .int_str x t y t'⟩
  | list k _ => exact ⟨.int_list x t k hu, .int_list x t k hu⟩
  | tup k _ => exact ⟨.int_tuple x t k hu, .int_tuple x t k hu⟩
 | str x t =>
  cases b with
  | none => exact ⟨.str_none x t, .str_none x t⟩
  | bool y => exact ⟨.str_bool x t y, .str_bool x t y⟩
  | int y t' => exact ⟨.str_int x t y t', .str_int x t y t'⟩
  | str y t' => exact ⟨.str_str x t y t', .str_str x t y t'⟩
  | list k _ => exact ⟨.str_list x t k hu, .str_list x t k hu⟩
  | tup k _ => exact ⟨.str_tuple x t k hu, .str_tuple x t k hu⟩
 | @list l its xs as h1 h2 =>
  cases b with
  | none => exact ⟨.list_none h1 hu, .list_none h1 hu⟩
  | bool y => exact ⟨.list_bool y h1 hu, .list_bool y h1 hu⟩
  | int y t' => exact ⟨.list_int y t' h1 hu, .list_int y t' h1 hu⟩
  | str y t' => exact ⟨.list_str y t' h1 hu, .list_str y t' h1 hu⟩
  | tup k _ => exact ⟨.list_tuple h1 k hu, .list_tuple h1 k hu⟩
  | @list l' its' ys bs k1 k2 =>
   have n1 : its.size = xs.length := by simpa using YD h2
   have n2 : its'.size = ys.length := by simpa using YD k2
   have he := sub (.inl ⟨rfl, rfl⟩) h2 k2
   rw [PyData.eqv]
   by_cases hz : its.size = its'.size
   ·rw [<- eqvAll_same_length (by omega : xs.length = ys.length), <- n1]
    exact ⟨.lists h1 k1 hz hu he, .lists h1 k1 hz hu he⟩
   ·rw [eqvAll_other_length (by omega : xs.length ≠ ys.length)]
    exact ⟨.lists_lengths h1 k1 (by simpa using hz) hu, .lists_lengths h1 k1 (by simpa using hz) hu⟩
 | @tup l its xs as h1 h2 =>
  cases b with
  | none => exact ⟨.tuple_none h1 hu, .tuple_none h1 hu⟩
  | bool y => exact ⟨.tuple_bool y h1 hu, .tuple_bool y h1 hu⟩
  | int y t' => exact ⟨.tuple_int y t' h1 hu, .tuple_int y t' h1 hu⟩
  | str y t' => exact ⟨.tuple_str y t' h1 hu, .tuple_str y t' h1 hu⟩
  | list k _ => exact ⟨.tuple_list h1 k hu, .tuple_list h1 k hu⟩
  | @tup l' its' ys bs k1 k2 =>
   have n1 : its.size = xs.length := by simpa using YD h2
   have n2 : its'.size = ys.length := by simpa using YD k2
   have he := sub (.inr ⟨rfl, rfl⟩) h2 k2
   rw [PyData.eqv, <- eqvAll_eq xs ys, <- n1, <- n2]
   exact ⟨.tuples h1 k1 hu he, .tuples h1 k1 hu he⟩
theorem Ydt {A : Around} {s : Shared} {v u : Value} {d e : PyData} (hu : A.units < cLine) (a : Sh s.heap v d) (b : Sh s.heap u e) (hs : ∀ x y, v = .ref x -> u = .ref y -> EqAt A s v u (PyData.eqv d e)) : EqAt A s v u (PyData.eqv d e) := by
 cases a with
 | none =>
  cases b with
  | none => exact .same _
  | bool y => exact .none_bool y
  | int y t => exact .none_int y t
  | str y t => exact .none_str y t
  | list k _ => exact .none_list k hu
  | tup k _ => exact .none_tuple k hu
 | bool x =>
  cases b with
  | none => exact .bool_none x
  | bool y => exact .bool_bool x y
  | int y t => exact .bool_int x y t
  | str y t => exact .bool_str x y t
  | list k _ => exact .bool_list x k hu
  | tup k _ => exact .bool_tuple x k hu
 | int x t =>
  cases b with
  | none => exact .int_none x t
  | bool y => exact .int_bool x t y
  | int y t' => exact .int_int x t y t'
  | str y t' => exact .int_str x t y t'
  | list k _ => exact .int_list x t k hu
  | tup k _ => exact .int_tuple x t k hu
 | str x t =>
  cases b with
  | none => exact .str_none x t
  | bool y => exact .str_bool x t y
  | int y t' => exact .str_int x t y t'
  | str y t' => exact .str_str x t y t'
  | list k _ => exact .str_list x t k hu
  | tup k _ => exact .str_tuple x t k hu
 | list h1 _ =>
  cases b with
  | none => exact .list_none h1 hu
  | bool y => exact .list_bool y h1 hu
  | int y t' => exact .list_int y t' h1 hu
  | str y t' => exact .list_str y t' h1 hu
  | list _ _ => exact hs _ _ rfl rfl
  | tup _ _ => exact hs _ _ rfl rfl
 | tup h1 _ =>
  cases b with
  | none => exact .tuple_none h1 hu
  | bool y => exact .tuple_bool y h1 hu
  | int y t' => exact .tuple_int y t' h1 hu
  | str y t' => exact .tuple_str y t' h1 hu
  | list _ _ => exact hs _ _ rfl rfl
  | tup _ _ => exact hs _ _ rfl rfl
theorem Ydm : ∀ (n : Nat) {d e : PyData} {A : Around} {s : Shared} {v u : Value} {as bs : List Addr}, Reads s.heap v d as -> Reads s.heap u e bs -> noD n d = true -> noD n e = true -> A.units + n < cLine ->
 EqAt A s v u (PyData.eqv d e) /\ RcAt A s v u (PyData.eqv d e) /\ RcNeAt A s v u (!PyData.eqv d e) := by
 intro n
 induction n with
 | zero =>
  intro d e A s v u as bs r q hd he hu
  have a := Yds r hd
  have b := Yds q he
  have rc := Ycj (A := A) (by omega) a b fun {its its' xs ys as bs} h => by rcases h with ⟨rfl, _⟩ | ⟨rfl, _⟩ <;> exact absurd hd (by simp [noD])
  exact ⟨Ydt (by omega) a b fun x y e1 e2 => by subst e1; cases a <;> exact absurd hd (by simp [noD]), rc.1, rc.2⟩
 | succ n ih =>
  intro d e A s v u as bs r q hd he hu
  have a := Yds r hd
  have b := Yds q he
  have rc := Ycj (A := A) (by omega) a b fun {its its' xs ys as bs} h rx ry j h1 h2 => by
   obtain ⟨l1, as', ra⟩ := Y7 rx j (by simpa using h1)
   obtain ⟨l2, bs', rb⟩ := Y7 ry j (by simpa using h2)
   have hx : noD n xs[j] = true := by
    rcases h with ⟨rfl, _⟩ | ⟨rfl, _⟩ <;> exact ZA6.mp hd _ (ZAu l1)
   have hy : noD n ys[j] = true := by
    rcases h with ⟨_, rfl⟩ | ⟨_, rfl⟩ <;> exact ZA6.mp he _ (ZAu l2)
   have := (ih (A := A.in1) ra rb hx hy (by show A.units + 1 + n < cLine; omega)).1
   unfold pairEq
   rw [ZBC, ZBC, ZAO l1, ZAO l2]
   show 167
  refine ⟨Ydt (by omega) a b fun x y e1 e2 => ?_, rc.1, rc.2⟩
  subst e1; subst e2
  by_cases hxy : x = y
  ·subst hxy
   have := Yeb (n + 1) hd r q
   subst this
   rw [Yg9 (n + 1) hd]
   exact .same _
  ·exact .of_refs hxy rc.1
def snap : Nat -> Yls -> P -> Option PyData
 | _, _, .non => some .none
 | _, _, .bl b => some (.bool b)
 | _, _, .int i => some (.int i)
 | _, _, .str x => some (.str x)
 | n + 1, st, .tup xs => (xs.mapM (snap n st)).map .tuple
 | n + 1, st, .ref k => match listAt st k with
  | some xs => (xs.mapM (snap n st)).map .list
  | none => none
 | 0, _, .tup _ => none
 | 0, _, .ref _ => none
theorem Wp {α β : Type} {f : α -> Option β} {x : α} {xs : List α} {ys : List β} (h : (x :: xs).mapM f = some ys) : ∃ y r, f x = some y /\ xs.mapM f = some r /\ ys = y :: r := by
 rw [List.mapM_cons] at h
 cases q : f x with
 | none => show 152
 | some y =>
  rw [q] at h
  cases q2 : xs.mapM f with
  | none => rw [q2] at h; cases h
  | some r => rw [q2] at h; cases h; exact ⟨y, r, rfl, rfl, rfl⟩
theorem JB {α β : Type} {f : α -> Option β} {p : β -> Bool} (hf : ∀ x y, f x = some y -> p y = true) : ∀ {xs : List α} {ys : List β}, xs.mapM f = some ys -> ys.all p = true
 | [], ys, h => by rw [List.mapM_nil] at h; cases h; rfl
 | x :: xs, ys, h => by
  obtain ⟨y, r, h1, h2, rfl⟩ := Wp h
  rw [ZBc, hf x y h1, JB hf h2]
  rfl
theorem Vd {st : Yls} : ∀ {n : Nat} {p : P} {d : PyData}, snap n st p = some d -> noD n d = true := by
 intro n
 induction n with
 | zero => intro p d h; cases p <;> first | (unfold snap at h; cases h; rfl) | (unfold snap at h; cases h)
 | succ n ih =>
  intro p d h
  cases p with
  | tup xs =>
   unfold snap at h
   cases q : xs.mapM (snap n st) with
   | none => show 152
   | some ds => rw [q] at h; cases h; exact JB (fun x y e => ih e) q
  | ref k =>
   unfold snap at h
   cases q0 : listAt st k with
   | none => rw [q0] at h; cases h
   | some xs =>
    rw [q0] at h
    dsimp only at h
    cases q : xs.mapM (snap n st) with
    | none => show 152
    | some ds => rw [q] at h; cases h; exact JB (fun x y e => ih e) q
  | _ => unfold snap at h; cases h; rfl
section
variable {X : Cx} {pins : LAO} {σ : St} {H : Hp} {s : Shared} {as : List Addr} {st : Yls}
theorem Z2 (I : Inv X pins σ H s) (rp : Rep X.K as st H) : ∀ {n : Nat} {p : P} {d : PyData} {x : V} {v : Value}, snap n st p = some d -> Den X.K as H x p -> RelV x v -> ∃ bs, Reads s.heap v d bs := by
 have all : ∀ {n : Nat}, (∀ {p : P} {d : PyData} {x : V} {v : Value}, snap n st p = some d -> Den X.K as H x p -> RelV x v -> ∃ bs, Reads s.heap v d bs) ->
  ∀ {ps : List P} {ds : List PyData} {xs : List V} {vs : List Value}, ps.mapM (snap n st) = some ds -> Dens X.K as H xs ps -> Vals xs vs -> ∃ bs, ReadsAll s.heap vs ds bs := by
  intro n one ps
  induction ps with
  | nil => intro ds xs vs h d r; rw [List.mapM_nil] at h; cases h; cases d; cases r; exact ⟨_, .nil⟩
  | cons p ps ih =>
   intro ds xs vs h d r
   obtain ⟨y, rs, h1, h2, rfl⟩ := Wp h
   cases d with
   | cons d1 d2 =>
    cases r with
    | cons r1 r2 =>
     obtain ⟨b1, q1⟩ := one h1 d1 r1
     obtain ⟨b2, q2⟩ := ih h2 d2 r2
     exact ⟨_, .cons q1 q2⟩
 intro n
 induction n with
 | zero =>
  intro p d x v h den r
  cases den with
  | non => unfold snap at h; cases h; cases r; exact ⟨_, .none⟩
  | bl => unfold snap at h; cases h; cases r; exact ⟨_, .bool _⟩
  | int => unfold snap at h; cases h; obtain ⟨t, rfl⟩ := r; exact ⟨_, .int _ t⟩
  | str => unfold snap at h; cases h; obtain ⟨t, rfl⟩ := r; exact ⟨_, .str _ t⟩
  | _ => unfold snap at h; cases h
 | succ n ih =>
  intro p d x v h den r
  cases den with
  | non => unfold snap at h; cases h; cases r; exact ⟨_, .none⟩
  | bl => unfold snap at h; cases h; cases r; exact ⟨_, .bool _⟩
  | int => unfold snap at h; cases h; obtain ⟨t, rfl⟩ := r; exact ⟨_, .int _ t⟩
  | str => unfold snap at h; cases h; obtain ⟨t, rfl⟩ := r; exact ⟨_, .str _ t⟩
  | @tup a vs ps e q =>
   unfold snap at h
   cases z : ps.mapM (snap n st) with
   | none => show 176
   | some ds =>
    show 176
    cases r
    obtain ⟨its, r1, ⟨o, ho, hc, m, hd⟩, _⟩ := I.tuple e
    obtain ⟨bs, q'⟩ := all ih z q r1
    exact ⟨_, .tuple ho hc hd (by simpa using q')⟩
  | @ref k a e =>
   unfold snap at h
   cases q0 : listAt st k with
   | none => rw [q0] at h; cases h
   | some xs =>
    rw [q0] at h
    dsimp only at h
    cases z : xs.mapM (snap n st) with
    | none => show 176
    | some ds =>
     show 176
     cases r
     obtain ⟨vs, g1, g2⟩ := YV rp e q0
     obtain ⟨its, r1, pl, _⟩ := I.list g1
     obtain ⟨o, ho, hc, m, hd⟩ := pl.isList
     obtain ⟨bs, q'⟩ := all ih z g2 r1
     exact ⟨_, .list ho hc hd (by simpa using q')⟩
def deep : Nat := 8
def eqB (p q : P) (st : Yls) : Option Bool := match snap deep st p, snap deep st q with
 | some d, some e => some (PyData.eqv d e)
 | _, _ => none
def eqP : G2 := fun p q st => (eqB p q st).map fun b => (.bl b, st)
def neP : G2 := fun p q st => (eqB p q st).map fun b => (.bl (!b), st)
theorem YdG (hu : X.A.units + deep < cLine) : OpR X (compareOp .Eq) (rM X eqP) := opM fun pins s σ H x y v u Q as st p q I rx ry rp d1 d2 h => by
 unfold eqP eqB at h
 cases z1 : snap deep st p with
 | none => rw [z1] at h; exact h.elim
 | some d =>
  cases z2 : snap deep st q with
  | none => rw [z1, z2] at h; exact h.elim
  | some e =>
   rw [z1, z2] at h
   obtain ⟨b1, r1⟩ := Z2 I rp z1 d1 rx
   obtain ⟨b2, r2⟩ := Z2 I rp z2 d2 ry
   exact (Ydm deep (A := X.A) r1 r2 (Vd z1) (Vd z2) hu).2.1 _ _ _ _ ⟨.bl _, H, I, rfl, h as H _ Ext.refl rp .bl⟩
theorem YfB (hu : X.A.units + deep < cLine) : OpR X (compareOp .NotEq) (rM X neP) := opM fun pins s σ H x y v u Q as st p q I rx ry rp d1 d2 h => by
 unfold neP eqB at h
 cases z1 : snap deep st p with
 | none => rw [z1] at h; exact h.elim
 | some d =>
  cases z2 : snap deep st q with
  | none => rw [z1, z2] at h; exact h.elim
  | some e =>
   rw [z1, z2] at h
   obtain ⟨b1, r1⟩ := Z2 I rp z1 d1 rx
   obtain ⟨b2, r2⟩ := Z2 I rp z2 d2 ry
   exact (Ydm deep (A := X.A) r1 r2 (Vd z1) (Vd z2) hu).2.2 _ _ _ _ ⟨.bl _, H, I, rfl, h as H _ Ext.refl rp .bl⟩
end
end Mi
namespace Mi
open PySem PySem.Spec L2
open PyProof.Rows hiding St
theorem Wh : bootBuiltins "len" = some (.builtin "len") := by decide +kernel
theorem Wf : bootBuiltins "tuple" = some (.type "tuple") := by decide +kernel
theorem J8 : bootBuiltins "str" = some (.type "str") := by decide +kernel
theorem YkA : bootBuiltins "int" = some (.type "int") := by decide +kernel
theorem Yir : bootBuiltins "dict" = some (.type "dict") := by decide +kernel
theorem Yi9 : bootBuiltins "set" = some (.type "set") := by decide +kernel
theorem YeE : bootBuiltins "sorted" = some (.builtin "sorted") := by decide +kernel
theorem YX : bootBuiltins "isinstance" = some (.builtin "isinstance") := by decide +kernel
theorem Ydb : bootBuiltins "zip" = some (.type "zip") := by decide +kernel
theorem YgT : bootBuiltins "sum" = some (.builtin "sum") := by decide +kernel
theorem Yhj : bootBuiltins "min" = some (.builtin "min") := by decide +kernel
def YpF (me : ME) : ME := fun ρ st => (me ρ st).bind fun p st1 => match p with
 | .int i => .ok (.int (-i)) st1
 | _ => .bad
structure Fn (P' : Program) (w : World) (K : Frag) (mg : SOV) (base : Heap) (x : Str) (k : Nat) (ps : List Str) (mf : MF) : Prop where
 ex : ∃ f fd, FM P' w K mg base k f fd ps mf /\ mg x = some (.ref f) /\ PySem.W.keepIn K (.ref f) = true /\ Binds K fd ps []
theorem Ys {X : Cx} {x : Str} {k : Nat} {ps : List Str} {mf : MF} {e : Expr} {es : List Expr} {mr : MA} {p pos : Pos} (F : Fn X.prog X.w X.K X.mg X.base x k ps mf) (hr : Ymm k X.A) (hg : Gl X x) (ha : JA X (e :: es) mr)
 (hdb : (x == ("__debug__" : Str)) = false := by decide) (he : starEach (e :: es) X.env = (false, eval e X.env) :: starEach es X.env := by rfl) (hpl : (backTo pos (starEach es X.env)).any (·.1) = false := by rfl) :
 JE X (.Call (.Name x p) (e :: es) [] pos) (YlI ps.length mf mr) := by
 obtain ⟨f, fd, h1, h2, h3, h4⟩ := F.ex
 exact YhM h1 hr hg h2 h3 h4 ha hdb he hpl
def Ylx (K : Frag) (x : Str) (st : Stmt) : Prop := ∃ (f : Addr) (oc : Value) (od an : Option Addr) (kV doc pm cd ct : Value) (sl : Array (Option Value)),
 nsIn K mainGlobals x = some (some (.ref f)) /\ K.lookup f = some ⟨oc, od, .func (fnOf x x (YlD st) (YlB st) (Ylu st) .none kV doc pm an cd ct), sl⟩ /\ PySem.W.codeIn K cd x = true /\ PySem.W.keepIn K (.ref f) = true
structure Top (K : Frag) (mg : SOV) : Prop where
 ex : ∃ h : Heap, K.In h /\ h.Ns mainGlobals mg
theorem Top.none {K : Frag} {mg : SOV} {x : Str} (T : Top K mg) (e : nsIn K mainGlobals x = some none) : mg x = none := by
 obtain ⟨h, a, b⟩ := T.ex
 exact PySem.W.mg_none_of a b e
theorem Top.at {K : Frag} {mg : SOV} {x : Str} {v : Value} (T : Top K mg) (e : nsIn K mainGlobals x = some (some v)) : mg x = some v := by
 obtain ⟨h, a, b⟩ := T.ex
 exact PySem.W.mg_of a b e
section
variable {P' : Program} {w : World} {K : Frag} {mg : SOV} {base : Heap} {x : Str} {st : Stmt} {N ps : List Str} {k : Nat} {m : MS}
theorem YK (T : Top K mg) (D : Ylx K x st) (S : YlH N ps (Ylu st))
 (hb : ∀ (kV doc pm : Value) (an : Option Addr) (cdv ct : Value) (us : List Value), us.length = ps.length -> bindArgs (fnOf x x (YlD st) (YlB st) (Ylu st) .none kV doc pm an cdv ct) ⟨us, []⟩ = pure (ps.zip us))
 (hbody : ∀ (f : Addr) (cdv : Value) (A : Around) (outer : List Env) (s : Shared) (H : Hp) (E : XK), Ymm k (A.deeper (envOfC x (Ylu st) s.heap.objs.size f cdv)) -> JSs (YnL CX0 P' w K mg base N x (Ylu st) f cdv A outer s H E).nox (YlB st) m) :
 Fn P' w K mg base x (k + 1) ps (fnM N.length m) := by
 obtain ⟨f, oc, od, an, kV, doc, pm, cd, ct, sl, h1, h2, h3, h4⟩ := D
 have F := YfE (st := st) h2 h3 h4
 exact ⟨f, _, Mi.Fun.mirror F S (hbody f), T.at h1, h4, F.binds hb⟩
end
def YoV (n : Nat) (mf : MF) (K : Frag) : Sp := fun vs H Q _ => ∃ (a : Addr) (ns : List Int), vs = [.ref a] /\ Only H /\ SqL K H a (ns.map V.int) /\ ns.length <= n /\ ∀ H', Q (.bl true) H'
theorem VU {K : Frag} {as : List Addr} {H : Hp} : ∀ (ns : List Int), Dens K as H (ns.map V.int) (ns.map P.int)
 | [] => .nil
 | _ :: r => .cons .int (VU r)
theorem Yc4 {K : Frag} {H : Hp} {a : Addr} {ns : List Int} (hO : Only H) (hS : SqL K H a (ns.map V.int)) : Rep K [a] [.ro (ns.map P.int)] H where
 len := rfl
 nd := fun i j b hi hj ni nj => by
  have h1 : i < 1 := (ZAD.mp hi).1
  have h2 : j < 1 := (ZAD.mp hj).1
  omega
 ob := fun k b o hk ho => by
  have h1 : k < 1 := (ZAD.mp hk).1
  have e : k = 0 := by omega
  subst e
  cases hk; cases ho
  rcases hS with (h | h) | h
  ·rcases hO a with z | ⟨o, xs, z⟩
   ·show 176
   ·show 176
  ·exact ⟨_, .inl h, VU ns⟩
  ·exact ⟨_, .inr h, VU ns⟩
def Law (n : Nat) (mf : MF) : Prop := ∀ ns : List Int, ns.length <= n -> ∃ st, mf [.ref 0] [.ro (ns.map P.int)] = .ok (.bl true) st
theorem YjR {n : Nat} {mf : MF} {K : Frag} (L : Law n mf) : ∀ vs H Q E, YoV n mf K vs H Q E -> spM K 1 mf vs H Q E := by
 rintro vs H Q E ⟨a, ns, rfl, hO, hS, hl, hq⟩
 refine ⟨rfl, [a], _, [.ref 0], Yc4 hO hS, .cons (.ref rfl) .nil, ?_⟩
 obtain ⟨st, e⟩ := L ns hl
 rw [e]
 intro as' H' v _ _ d
 cases d
 exact hq H'
theorem Ygd {l : PySem.W.OpenLaw} {q : Program} {loose : List Str} {XP : (Str -> Option Value) -> Heap -> Prop} {YP : World -> Heap -> Prop} {d : DefRec} {K : Params -> Frag} {n k : Nat} {x y : Str} {st : Stmt} {mf : MF} (hn : l.most = some n) (hn2 : n <= 1000) (hdf : d.params.defaults = []) (hy : d.name = y)
 (hr : Ymm k callerA) (hY : ∀ (w : World) (h : Heap), YP w h -> (K w.params).In h) (hb : ∀ (kV doc pm : Value) (an : Option Addr) (cdv ct : Value) (s : Shared) (u : Value), BindsTo s (fnOf y y (YlD st) (YlB st) (Ylu st) .none kV doc pm an cdv ct) ⟨[u], []⟩ [(x, u)])
 (D : ∀ w : World, Ylx (K w.params) y st)
 (F : ∀ (w : World) (mg : SOV), Top (K w.params) mg -> ∀ (f : Addr) (fd : FuncData), Fun (K w.params) y y st f fd -> ∀ base : Heap, FM l.prog w (K w.params) mg base k f fd [x] mf) (L : Law n mf) :
 PySem.W.WalkO q loose XP YP l.row.toRowW d [] (fun f vs => PySem.call f vs) := by
 refine L2.walk_of (n := n) (k := k) (x := x) (CX := fun _ => CX0) (sp := fun w => YoV n mf (K w.params)) hn (ZAR hn2 (by rw [sizeLine_eq]; decide)) hdf hr hY ?_ (fun w H a ns hl hO hS => ⟨a, ns, rfl, hO, hS, hl, fun _ => rfl⟩) fun _ _ _ _ _ z => z
 intro w mg fa h KX G hmg
 subst hy
 have T : Top (K w.params) mg := ⟨h, KX, G⟩
 obtain ⟨f, oc, od, an, kV, doc, pm, cd, ct, sl, h1, h2, h3, h4⟩ := D w
 have e := T.at h1
 rw [hmg] at e
 cases e
 have F0 := YfE (st := st) h2 h3 h4
 exact ⟨_, hb kV doc pm an cd ct, fun base _ _ => (F w mg T fa _ F0 base).imp (YjR L)⟩
theorem Yu {A : Around} {k : Nat} (hr : Ymm k A) : A.units + deep < cLine := ZBu (Nat.add_le_add_left (by decide : deep <= 64) _) hr.units
def Yn7 (X : Cx) (scope : Scope) (FN : List Str) (fr : List Nat) : Bool :=
 scope.names.all (fun y => !(y.2 == NameKind.cell)) && (match scope.kind with | .function => true | _ => false) && scope.names.all (fun y => !(y.2 == NameKind.local) || (match scope.names.lookup y.1 with | some .local => true | _ => false)) &&
 scope.names.all (fun y => !(y.2 == NameKind.free) || (match X.env.kindOf y.1 with | some .cell => true | some .free => true | _ => false)) &&
 (FN.length == fr.length) && (FN.zip fr).all fun z => (match X.N[z.2]? with | some x => x == z.1 | none => false) && (match scope.names.lookup z.1 with | some .free => true | _ => false)
theorem YfQ {α : Type} : ∀ {l : List (Str × α)} {y : Str} {a : α}, l.lookup y = some a -> (y, a) ∈ l
 | [], _, _, h => by cases h
 | (k, v) :: r, y, a, h => by
  rw [ZBD] at h
  cases q : (y == k) with
  | true =>
   rw [q] at h
   have e : y = k := by simpa using q
   subst e
   cases h
   exact ZAQ ..
  | false => rw [q] at h; exact ZAT _ (YfQ h)
theorem YkZ {a b : NameKind} (h : (!(a == b)) = true) : a ≠ b := fun e => by
 subst e
 cases a <;> exact absurd h (by decide)
theorem Y0 {X : Cx} {scope : Scope} (TN FN : List Str) (fr : List Nat) (h : Yn7 X scope FN fr = true) : Ymk X scope TN FN fr := by
 unfold Yn7 at h
 simp only [Bool.and_eq_true, List.all_eq_true] at h
 obtain ⟨⟨⟨⟨⟨h1, h2⟩, h3⟩, h4⟩, h5⟩, h6⟩ := h
 refine ⟨fun y hy => YkZ (h1 y hy), ?_, fun y hy e => ?_, fun y hy e => ?_, fun y => YfQ, by simpa using h5, fun j x k hx hk => ?_⟩
 ·revert h2; cases scope.kind <;> intro h2 <;> first | rfl | exact absurd h2 (by decide)
 ·have := h3 y hy
  rw [e] at this
  have e2 : (!(NameKind.local == NameKind.local)) = false := by decide
  rw [e2, ZCb] at this
  revert this
  split
  ·intro _; assumption
  ·intro z; exact absurd z (by decide)
 ·have := h4 y hy
  rw [e] at this
  have e2 : (!(NameKind.free == NameKind.free)) = false := by decide
  rw [e2, ZCb] at this
  revert this
  split
  ·intro _; left; assumption
  ·intro _; right; assumption
  ·intro z; exact absurd z (by decide)
 ·have hm : (x, k) ∈ FN.zip fr := List.mem_iff_getElem?.mpr ⟨j, by rw [List.getElem?_zip_eq_some]; exact ⟨hx, hk⟩⟩
  obtain ⟨g1, g2⟩ := h6 _ hm
  dsimp only at g1 g2
  constructor
  ·revert g1
   cases X.N[k]? with
   | none => intro z; exact absurd z ZAN
   | some z => intro e; rw [show z = x by simpa using e]
  ·revert g2
   split
   ·intro _; assumption
   ·intro z; exact absurd z (by decide)
theorem Ylx.of {K : Frag} {x : Str} {st : Stmt} {f : Addr} {oc : Value} {od an : Option Addr} {kV doc pm cd ct : Value} {sl : Array (Option Value)} (a : nsIn K mainGlobals x = some (some (.ref f)))
 (l : K.lookup f = some ⟨oc, od, .func (fnOf x x (YlD st) (YlB st) (Ylu st) .none kV doc pm an cd ct), sl⟩) (c : PySem.W.codeIn K cd x = true) (k : PySem.W.keepIn K (.ref f) = true) : Ylx K x st := ⟨f, oc, od, an, kV, doc, pm, cd, ct, sl, a, l, c, k⟩
def Ynk : List P -> Option (List Int)
 | [] => some []
 | .int i :: r => (Ynk r).map (i :: ·)
 | _ :: _ => none
section
variable {K : Frag} {as : List Addr} {H : Hp}
theorem Ydp : ∀ {ps : List P} {vs : List V} {us : List Value} {ns : List Int}, Dens K as H vs ps -> Vals vs us -> Ynk ps = some ns -> IntsAre us ns
 | [], _, _, _, .nil, .nil, e => by cases e; exact .nil
 | .int i :: r, _, _, ns, .cons d ds, .cons rv rs, e => by
  cases d
  obtain ⟨t, rfl⟩ := rv
  have e' : (Ynk r).map (i :: ·) = some ns := e
  cases q : Ynk r with
  | none => rw [q] at e'; cases e'
  | some cs => rw [q] at e'; cases e'; exact .cons i t (Ydp ds rs q)
end
section
variable {prog : Program} {w : World} {A : Around} {E : VSP} {s : Shared} {l : Addr} {vs : List Value} {bs : List Bool} {Q : VSP}
theorem Yhx {ns : List Int} (hh : A.handled = none) (hl : s.heap.IsList l vs.toArray) (hi : IntsAre vs ns)
 (h : ∀ h' tk t', (∀ b x, s.heap.get? b = some x -> h'.get? b = some x) -> Q (.int ns.sum t') { s with heap := h', toks := tk }) : wpAny (model prog w) A (call (.builtin "sum") [.ref l]) Q E s := by
 obtain ⟨xs, hx⟩ := hi.allInts.items
 have hl2 : s.heap.IsList l (intItems xs) := hx ▸ hl
 refine sum_intListG hh hl2 fun h' tk t' hk => ?_
 have e1 : ns = xs.toList.map (·.1) := by
  have := hi.numsOf
  rw [<- nums_intItems, <- hx]
  exact this.symm
 have e2 : preSum (numAt xs) xs.size = ns.sum := by rw [preSum_eq, List.take_of_length_le (by simp), e1]
 rw [e2]
 exact h h' tk t' hk
end
section
variable {X : Cx} {e : Expr} {m : MA} {p pos : Pos}
theorem YeO (hc : X.calm = true) : Yl0 X (.builtin "sum") (fun xs H Q => ∃ a vs ns, xs = [.ref a] /\ SqL X.K H a vs /\ (∀ us, Vals vs us -> IntsAre us ns) /\ Q (.int ns.sum) H) := by
 intro pins s σ H xs us Q I r ⟨a, vs, bs, e, sq, hb, q⟩
 subst e
 obtain ⟨u, rfl, rx⟩ := vals1 r
 cases rx
 obtain ⟨its, rv, pl, _⟩ := I.list sq
 exact Yhx (I.ok.hd hc) pl.isList (hb _ rv) fun h' tk t' hk => ⟨.int _, H, I.kept hk, ⟨_, rfl⟩, q⟩
def YoO : GC := fun ps st => match ps with
 | [.int i, .int j] => okP (.int (if j < i then j else i)) st
 | _ => none
theorem YgU (hc : X.calm = true) : Yl0 X (.builtin "min") (rMC X YoO) := Yl0.imp (YdZ hc) fun xs H Q ⟨as, st, ps, rp, d, h⟩ => by
 match ps, h with
 | [.int i, .int j], h =>
  obtain ⟨v, u, rfl, d1, d2⟩ := d.two
  cases d1; cases d2
  exact ⟨i, j, rfl, h as H _ Ext.refl rp .int⟩
end
section
variable {prog : Program} {w : World} {A : Around} {E : VSP} {s : Shared}
theorem YcA {J t : Addr} {i : Nat} {its : Array Value} {x : Value} {Q : VSP} (hJ : s.heap.IsTupleIter J t i) (ht : s.heap.IsTuple t its) (hx : its[i]? = some x)
 (hQ : ∀ h', h'.IsTupleIter J t (i + 1) -> Heap.SameBut J s.heap h' -> Q x { s with heap := h' }) : wpAny (model prog w) A (Builtin.SmallTypes.nextOf (.ref J)) Q E s := by
 obtain ⟨oJ, gJ, cJ, dJ⟩ := id hJ
 obtain ⟨oT, gT, _, nT, dT⟩ := ht
 unfold Builtin.SmallTypes.nextOf
 have nn : ¬ ((Value.ref t == Value.none) = true) := ZAN
 refine ZAA (wpAny_callSpecial?_slot (name := Str.ofString "__next__") hJ.typeIs F.slot_tuple_iterator_next (ZAe F.slot_tuple_iterator_next hJ.typeIs F.entry_tuple_iterator_next ?_ (F.args_tuple_iterator_next_1 _)))
 show wpAny _ _ (field (.ref J) 0 >>= _) _ _ s
 refine ZAA (ZAl gJ dJ (x := .ref t) rfl ?_)
 show wpAny _ _ (if (Value.ref t == Value.none) = true then _ else field (.ref J) 1 >>= _) _ _ s
 rw [ZAF nn]
 refine ZAA (ZAl gJ dJ (x := .int i 0) rfl ?_)
 show wpAny _ _ (seqItems? (.ref t) >>= _) _ _ s
 refine ZAA (ZAy gT dT ?_)
 simp only [Int.toNat_natCast, hx]
 refine wpAny_bind (wpAny_setField gJ dJ (by simp) (wpAny_pure ⟨x, rfl, wpAny_pure ?_⟩))
 refine hQ _ ⟨_, ZBF _ gJ (Obj.isFreed_of_fields (Obj.data_mapFields dJ _)), (Obj.cls_mapFields ..).trans cJ, ?_⟩ (Heap.SameBut.update ..)
 rw [Obj.data_mapFields dJ]
 simp [rawInt]
theorem Yet {J t : Addr} {i : Nat} {its : Array Value} {Q : VSP} (hh : A.handled = none) (hJ : s.heap.IsTupleIter J t i) (ht : s.heap.IsTuple t its) (hx : its[i]? = none)
 (hE : ∀ h' e, Heap.ExtBut J s.heap h' -> (∃ o, h'.get? e = some o /\ o.cls = .type "StopIteration") -> E (.ref e) { s with heap := h' }) : wpAny (model prog w) A (Builtin.SmallTypes.nextOf (.ref J)) Q E s := by
 obtain ⟨oJ, gJ, cJ, dJ⟩ := id hJ
 obtain ⟨oT, gT, _, nT, dT⟩ := ht
 unfold Builtin.SmallTypes.nextOf
 have nn : ¬ ((Value.ref t == Value.none) = true) := ZAN
 refine ZAA (wpAny_callSpecial?_slot (name := Str.ofString "__next__") hJ.typeIs F.slot_tuple_iterator_next (ZAe F.slot_tuple_iterator_next hJ.typeIs F.entry_tuple_iterator_next ?_ (F.args_tuple_iterator_next_1 _)))
 show wpAny _ _ (field (.ref J) 0 >>= _) _ _ s
 refine ZAA (ZAl gJ dJ (x := .ref t) rfl ?_)
 show wpAny _ _ (if (Value.ref t == Value.none) = true then _ else field (.ref J) 1 >>= _) _ _ s
 rw [ZAF nn]
 refine ZAA (ZAl gJ dJ (x := .int i 0) rfl ?_)
 show wpAny _ _ (seqItems? (.ref t) >>= _) _ _ s
 refine ZAA (ZAy gT dT ?_)
 simp only [Int.toNat_natCast, hx]
 refine wpAny_bind (wpAny_rule (wpAny_bind (wpAny_setField gJ dJ (by simp) ?_)))
 have kk : Heap.ExtBut J s.heap (s.heap.update J (Obj.mapFields fun x => x.setIfInBounds 0 Value.none)) := (Heap.SameBut.update ..).extBut
 exact Vy (A := A.in1) (s := { s with heap := s.heap.update J (Obj.mapFields fun x => x.setIfInBounds 0 Value.none) }) hh kk fun h' x k o => hE h' x k o
theorem ZC (hh : A.handled = none) (J t : Addr) (hne : t ≠ J) (its : Array Value) : Draws prog w A J [J, t] its.size (fun i v => its[i]? = some v) (fun i h => h.IsTupleIter J t i /\ h.IsTuple t its) where
 live := fun _ _ st => let ⟨o, ho, _⟩ := st.1; ⟨o, ho⟩
 frame := fun _ _ _ st hk => ⟨let ⟨o, e, r⟩ := st.1; ⟨o, hk J (by simp) o e, r⟩, let ⟨o, e, r⟩ := st.2; ⟨o, hk t (by simp) o e, r⟩⟩
 item := fun i s Q E hi st hQ => YcA st.1 st.2 (x := its[i]) (by simp [hi]) fun h' a b => hQ _ h' s.toks (by simp [hi]) ⟨a, st.2.extBut b.extBut hne⟩ b
 done := fun s Q E st hE => Yet hh st.1 st.2 (by simp) hE
end
structure Yok (P' : Program) (w : World) (K : Frag) (it : Addr) (tn0 : Nat -> Heap -> Prop) (go : Nat -> Hp -> V -> Prop) (stop : Nat -> Hp -> Prop) : Prop where
 obj : ∀ i h, tn0 i h -> ∃ o, h.get? it = some o /\ ∀ v, o.data ≠ .cell v
 keep : ∀ i h h', tn0 i h -> (∀ o, h.get? it = some o -> h'.get? it = some o) -> tn0 i h'
 uniq : ∀ (X : Cx), X.K = K -> ∀ i pins s σ H x y, Inv X pins σ H s -> go i H x -> go i H y -> x = y
 item : ∀ (X : Cx), X.prog = P' -> X.w = w -> X.K = K -> X.calm = true -> ∀ i pins s σ H x, Inv X pins σ H s -> Ymt X pins H it -> tn0 i s.heap -> go i H x ->
  ∃ fp n Pv St, Draws P' w X.A.in1 it fp n Pv St /\ St i s.heap /\ i < n /\ (∀ e, Ymt X pins H e -> e ≠ it -> e ∉ fp) /\ (∀ v, Pv i v -> RelV x v) /\ ∀ h', St (i + 1) h' -> tn0 (i + 1) h'
 done : ∀ (X : Cx), X.prog = P' -> X.w = w -> X.K = K -> X.calm = true -> ∀ i pins s σ H, Inv X pins σ H s -> Ymt X pins H it -> tn0 i s.heap -> stop i H ->
  ∃ fp n Pv St, Draws P' w X.A.in1 it fp n Pv St /\ St n s.heap
open PySem.AutoSeq1 (wpAny_loadPart')
theorem JH {X : Cx} {pins : LAO} {σ : St} {H : Hp} {s : Shared} {a b : Addr} {xs : List V} (I : Inv X pins σ H s) (h : SqT X.K H a xs) (f : Ymt X pins H b) : a ≠ b := by
 obtain ⟨f0, f1, f2, f3, f4, f5⟩ := f
 rintro rfl
 rcases h with (h | ⟨o, h⟩) | ⟨o, its, n, hk, _⟩
 ·rw [f0] at h; cases h
 ·rw [f0] at h; cases h
 ·have hb := I.ok.mod.kin a o hk
  rcases f3 with z | z
  ·exact I.ok.noex a o hb z
  ·exact absurd (ZAE (I.ok.bs a o hb).1) (ZCa.mpr z)
theorem Yj7 {P' : Program} {w : World} {K : Frag} {it l : Addr} : Yok P' w K it (fun i h => h.IsTupleIter it l i) (fun i H x => ∃ xs, SqT K H l xs /\ xs[i]? = some x) (fun i H => ∃ xs, SqT K H l xs /\ i = xs.length) where
 obj := fun i h ⟨o, e, c, d⟩ => ⟨o, e, fun v z => by rw [d] at z; cases z⟩
 keep := fun i h h' ⟨o, e, r⟩ k => ⟨o, k o e, r⟩
 uniq := fun X hK i pins s σ H x y I ⟨xs, h1, h2⟩ ⟨ys, h3, h4⟩ => by
  subst hK
  rw [I.tuple_inj h1 h3, h4] at h2
  exact (Option.some.inj h2).symm
 item := fun X hP hw hK hc i pins s σ H x I f st ⟨xs, h1, h2⟩ => by
  show 155
  obtain ⟨its, rv, pt, _⟩ := I.tuple h1
  show 168
  have hi := (ZAD.mp h2).1
  have D := ZC (prog := X.prog) (w := X.w) (A := X.A.in1) (I.ok.hd hc) it l (JH I h1 f) its.toArray
  refine ⟨_, _, _, _, D, ⟨st, pt⟩, by simp; omega, fun e fe hne hm => ?_, fun v hv => ?_, fun h' q => q.1⟩
  ·show 234
   rcases hm with z | z
   ·exact hne z
   ·exact JH I h1 fe z.symm
  ·obtain ⟨u, e1, e2⟩ := rv.get h2
   have : its[i]? = some v := by simpa using hv
   rw [this] at e1
   cases e1
   exact e2
 done := fun X hP hw hK hc i pins s σ H I f st ⟨xs, h1, h2⟩ => by
  show 155
  obtain ⟨its, rv, pt, _⟩ := I.tuple h1
  show 168
  have D := ZC (prog := X.prog) (w := X.w) (A := X.A.in1) (I.ok.hd hc) it l (JH I h1 f) its.toArray
  refine ⟨_, _, _, _, D, ?_, pt⟩
  show 54
  exact st
theorem Yje {P' : Program} {w : World} {K : Frag} {it : Addr} {z : Str} {t : Tok} : Yok P' w K it (fun i h => h.IsStrIter it (strIterType z) z t i) (fun i _ x => ∃ c, z.cps[i]? = some c /\ x = .str ⟨#[c]⟩) (fun i _ => i = z.cps.size) where
 obj := fun i h ⟨o, e, c, d⟩ => ⟨o, e, fun v z => by rw [d] at z; cases z⟩
 keep := fun i h h' ⟨o, e, r⟩ k => ⟨o, k o e, r⟩
 uniq := fun X hK i pins s σ H x y I ⟨c, h1, h2⟩ ⟨d, h3, h4⟩ => by
  rw [h1] at h3
  cases h3
  rw [h2, h4]
 item := fun X hP hw hK hc i pins s σ H x I f st ⟨c, h1, h2⟩ => by
  show 155
  have hi : i < z.cps.size := (Array.getElem?_eq_some_iff.mp h1).1
  have rel : ∀ v, (∃ c u, z.cps[i]? = some c /\ v = .str ⟨#[c]⟩ u) -> RelV x v := fun v ⟨d, u, e1, e2⟩ => by
   rw [h1] at e1
   cases e1
   rw [h2, e2]
   exact ⟨u, rfl⟩
  unfold strIterType at st ⊢
  split at st
  ·rename_i ha
   rw [ZAG ha]
   have D := Draws.strAscii (prog := X.prog) (w := X.w) (A := X.A.in1) (I.ok.hd hc) it z t
   exact ⟨_, _, _, _, D, st, hi, fun e fe hne hm => hne (by simpa using hm), rel, fun h' q => q⟩
  ·rename_i ha
   rw [ZAF ha]
   have D := Draws.strWide (prog := X.prog) (w := X.w) (A := X.A.in1) (I.ok.hd hc) it z t
   exact ⟨_, _, _, _, D, st, hi, fun e fe hne hm => hne (by simpa using hm), rel, fun h' q => q⟩
 done := fun X hP hw hK hc i pins s σ H I f st h1 => by
  show 155
  subst h1
  unfold strIterType at st
  split at st
  ·have D := Draws.strAscii (prog := X.prog) (w := X.w) (A := X.A.in1) (I.ok.hd hc) it z t
   exact ⟨_, _, _, _, D, st⟩
  ·have D := Draws.strWide (prog := X.prog) (w := X.w) (A := X.A.in1) (I.ok.hd hc) it z t
   exact ⟨_, _, _, _, D, st⟩
theorem YjC {P' : Program} {w : World} {K : Frag} {it l : Addr} : Yok P' w K it (fun i h => h.IsListIter it l i) (fun i H x => ∃ xs, SqL K H l xs /\ xs[i]? = some x) (fun i H => ∃ xs, SqL K H l xs /\ i = xs.length) where
 obj := fun i h ⟨o, e, c, d⟩ => ⟨o, e, fun v z => by rw [d] at z; cases z⟩
 keep := fun i h h' ⟨o, e, r⟩ k => ⟨o, k o e, r⟩
 uniq := fun X hK i pins s σ H x y I ⟨xs, h1, h2⟩ ⟨ys, h3, h4⟩ => by
  subst hK
  rw [I.list_inj h1 h3, h4] at h2
  exact (Option.some.inj h2).symm
 item := fun X hP hw hK hc i pins s σ H x I f st ⟨xs, h1, h2⟩ => by
  show 155
  obtain ⟨its, rv, pt, _⟩ := I.list h1
  show 168
  have hi := (ZAD.mp h2).1
  have D := Draws.list (prog := X.prog) (w := X.w) (A := X.A.in1) (I.ok.hd hc) it l (Yy I h1 f) its.toArray
  refine ⟨_, _, _, _, D, ⟨st, pt.isList⟩, by simp; omega, fun e fe hne hm => ?_, fun v hv => ?_, fun h' q => q.1⟩
  ·show 234
   rcases hm with z | z
   ·exact hne z
   ·exact Yy I h1 fe z.symm
  ·obtain ⟨u, e1, e2⟩ := rv.get h2
   have : its[i]? = some v := by simpa using hv
   rw [this] at e1
   cases e1
   exact e2
 done := fun X hP hw hK hc i pins s σ H I f st ⟨xs, h1, h2⟩ => by
  show 155
  obtain ⟨its, rv, pt, _⟩ := I.list h1
  show 168
  have D := Draws.list (prog := X.prog) (w := X.w) (A := X.A.in1) (I.ok.hd hc) it l (Yy I h1 f) its.toArray
  refine ⟨_, _, _, _, D, ?_, pt.isList⟩
  show 54
  exact st
def numAt (xs : List P) (i : Nat) : Option (Option P) := if i < xs.length then some ((xs[i]?).map fun p => .tup [.int i, p]) else if i = xs.length then some none else none
def Yna (z : Str) : List P := z.cps.toList.map YnT
section
variable {K : Frag} {as : List Addr} {H : Hp}
end
section
variable {X : Cx} {elts : List Expr} {x1 : Nat} {tp p pos : Pos} {e : Expr} {me : ME}
end
def YmY : G2 := fun p q st => match p, q with
 | .int i, .int j => if (small64 i || small64 j) = true then okP (.int (i * j)) st else none
 | .str x, .int k => if -1000000 <= k /\ k <= 1000000 /\ x.length <= 1000000 /\ x.length * k.toNat <= cap then okP (.str (Txt.mul x k)) st else none
 | _, _ => none
theorem YgY {x : Str} {k : Int} (h1 : -1000000 <= k) (h2 : k <= 1000000) (h3 : x.length <= 1000000) (h4 : x.length * k.toNat <= cap) : MulOk x k := by
 refine ⟨?_, fun h _ => ?_, fun h _ => ?_⟩
 ·rw [ZAW (by omega), ZAW (by omega)]; rfl
 ·have a : (9223372036854 : Int) <= (2 ^ 63 - 1) / k := by
   refine Int.le_ediv_of_mul_le (by omega) ?_
   have : (9223372036854 : Int) * k <= 9223372036854 * 1000000 := Int.mul_le_mul_of_nonneg_left h2 (by decide)
   omega
  omega
 ·unfold Builtin.Str.tooLong
  rw [ZAW]
  have : cap <= sizeLine := Yp
  omega
variable {X : Cx}
theorem ZX : OpR X (binaryOp .Mult) (rM X YmY) := opM fun pins s σ H x y v u Q as st p q I rx ry rp d1 d2 h => by
 cases d1 with
 | int =>
  cases d2 with
  | int => exact Yju pins s σ H _ _ v u Q I rx ry ⟨as, st, _, _, rp, .int, .int, h⟩
  | _ => show 124
 | str =>
  rename_i x
  cases d2 with
  | int =>
   rename_i k
   have h' : YlL X as H (if -1000000 <= k /\ k <= 1000000 /\ x.length <= 1000000 /\ x.length * k.toNat <= cap then okP (.str (Txt.mul x k)) st else none) Q := h
   by_cases z : -1000000 <= k /\ k <= 1000000 /\ x.length <= 1000000 /\ x.length * k.toNat <= cap
   ·rw [ZAG z] at h'
    show 20
    exact SB.mul (YgY z.1 z.2.1 z.2.2.1 z.2.2.2) fun t'' k' => ⟨.str _, H, I.tok k', ⟨t'', rfl⟩, h' as H _ Ext.refl rp .str⟩
   ·show 185
  | _ => show 124
 | _ => show 124
section
variable {X : Cx}
end
section
variable {X : Cx} {e v1 v2 : Expr} {vs : List Expr} {me : ME} {mp : Str -> ME} {pos : Pos}
end
section
variable {X : Cx}
end
structure Yog (z TI TO i1 i2 : Addr) (f1 f2 : List Addr) : Prop where
 ap : ZAp z TI TO i1 i2
 z1 : z ∉ f1
 t1 : TO ∉ f1
 x1 : i2 ∉ f1
 z2 : z ∉ f2
 t2 : TO ∉ f2
 x2 : i1 ∉ f2
section
variable {prog : Program} {w : World} {A : Around} {E : VSP} {s : Shared} {z TI TO i1 i2 : Addr} {f1 f2 : List Addr} {n1 n2 k : Nat} {P1 P2 : Nat -> Value -> Prop} {S1 S2 : Nat -> Heap -> Prop} {a b : Value}
theorem YG {it : Addr} {fp : List Addr} {n : Nat} {Pv : Nat -> Value -> Prop} {St' : Nat -> Heap -> Prop} (D : Draws prog w A it fp n Pv St') {i : Nat} {c : Addr} {h h' : Heap} (st : St' i h) (x : Heap.ExtBut c h h') (hc : c ∉ fp) : St' i h' :=
 D.frame i h h' st fun b hb o e => x b o (fun q => hc (q ▸ hb)) e
theorem Yec {Q : VSP} (D1 : Draws prog w A i1 f1 n1 P1 S1) (D2 : Draws prog w A i2 f2 n2 P2 S2) (D : Yog z TI TO i1 i2 f1 f2)
 (hz : IsZip s.heap z TI TO .none) (hTI : IsPair s.heap TI (.ref i1) (.ref i2)) (hTO : IsPair s.heap TO a b) (h1 : S1 k s.heap) (h2 : S2 k s.heap) (k1 : k < n1) (k2 : k < n2)
 (hQ : ∀ x y h' tk, P1 k x -> P2 k y -> IsZip h' z TI TO (rawInt s.heap.objs.size) -> IsPair h' TO x y -> S1 (k + 1) h' -> S2 (k + 1) h' -> IsPair h' s.heap.objs.size x y -> h'.objs.size = s.heap.objs.size + 1 ->
  (∀ c o, c ≠ z -> c ≠ TO -> c ≠ i1 -> c ≠ i2 -> s.heap.get? c = some o -> h'.get? c = some o) -> Q (.ref s.heap.objs.size) { s with heap := h', toks := tk }) :
 wpAny (model prog w) A (Builtin.«zip.__next__» ⟨[.ref z], []⟩) (fun fin s' => ∃ v, fin = .done (.ret v) /\ Q v s') E s := by
 show 71
 show 138
 unfold Builtin.SmallTypes.ownedTupleIsFree
 refine ZAA (ZAl hz rfl (x := .none) rfl (ZAB ?_))
 simp only [if_true]
 refine wpAny_bind (wpAny_rule (wpAny_bind (wpAny_field hz rfl (x := .ref TO) rfl (wpAny_bind (wpAny_setField_rec hz (by simp) fun g1 hz1 e1 => ?_)))))
 replace hz1 : IsZip g1 z TI TO .ellipsis := hz1
 show 138
 simp only [List.zipIdx_cons, List.zipIdx_nil, List.forIn_cons, List.forIn_nil]
 show 222
 show 207
 refine ZAA (D1.item k { s with heap := g1 } _ _ k1 (YG D1 h1 e1.extBut D.z1) fun x g2 tk1 px s1 e2 => ZAB ?_)
 have to2 : IsPair g2 TO a b := e2.extBut _ _ D.ap.TOi1 (e1.extBut _ _ D.ap.TOz hTO)
 refine ZAA (ZAy to2 rfl (ZAA (ZB2 to2 fun g3 to3 e3 => ?_)))
 replace to3 : IsPair g3 TO x b := to3
 refine ZAA (ZCT (ZAB ?_))
 show 222
 show wpAny _ _ (Builtin.SmallTypes.nextOf (.ref i2) >>= _) _ _ _
 refine ZAA (D2.item k { s with heap := g3, toks := tk1 } _ _ k2 (YG D2 (YG D2 (YG D2 h2 e1.extBut D.z2) e2.extBut D.x2) e3.extBut D.t2) fun y g4 tk2 py s2 e4 => ZAB ?_)
 have to4 : IsPair g4 TO x b := e4.extBut _ _ D.ap.TOi2 to3
 refine ZAA (ZAy to4 rfl (ZAA (ZB2 to4 fun g5 to5 e5 => ?_)))
 replace to5 : IsPair g5 TO x y := to5
 refine ZAA (ZCT (ZAB (ZAB ?_)))
 refine ZAA (ZAy to5 rfl (ZAA (wpAny_newTuple ?_)))
 have sz : g5.objs.size = s.heap.objs.size := by rw [e5.1, e4.1, e3.1, e2.1, e1.1]
 have hz5 : IsZip g5 z TI TO .ellipsis := e5.extBut _ _ D.ap.TOz.symm (e4.extBut _ _ D.ap.i2z.symm (e3.extBut _ _ D.ap.TOz.symm (e2.extBut _ _ D.ap.i1z.symm hz1)))
 have kp : ∀ c o, c ≠ z -> c ≠ TO -> c ≠ i1 -> c ≠ i2 -> s.heap.get? c = some o -> g5.get? c = some o := fun c o c1 c2 c3 c4 e =>
  e5.extBut _ _ c2 (e4.extBut _ _ c4 (e3.extBut _ _ c2 (e2.extBut _ _ c3 (e1.extBut _ _ c1 e))))
 have s15 : S1 (k + 1) g5 := YG D1 (YG D1 (YG D1 s1 e3.extBut D.t1) e4.extBut D.x1) e5.extBut D.t1
 have s25 : S2 (k + 1) g5 := YG D2 s2 e5.extBut D.t2
 have lz : z < g5.objs.size := ZAE hz5
 show wpAny _ _ (Builtin.SmallTypes.ownedTupleHandOut (.ref z) (.ref g5.objs.size) >>= _) _ _ _
 show 138
 unfold Builtin.SmallTypes.ownedTupleHandOut
 have hz6 : IsZip (g5.push { cls := .type "tuple", data := .seq #[x, y] }) z TI TO .ellipsis := ZAC _ hz5
 refine wpAny_bind (wpAny_setField_rec hz6 (by simp) fun g7 hz7 e7 => ?_)
 replace hz7 : IsZip g7 z TI TO (rawInt g5.objs.size) := hz7
 refine wpAny_setField_rec hz7 (by simp) fun g8 hz8 e8 => ?_
 replace hz8 : IsZip g8 z TI TO (rawInt g5.objs.size) := hz8
 have up : ∀ c o, c ≠ z -> g5.get? c = some o -> g8.get? c = some o := fun c o c1 e => e8.extBut _ _ c1 (e7.extBut _ _ c1 (ZAC _ e))
 have t8 : IsPair g8 g5.objs.size x y := e8.extBut _ _ (ZA5 lz) (e7.extBut _ _ (ZA5 lz) (ZAK _ rfl))
 have z8 : g8.objs.size = g5.objs.size + 1 := by rw [e8.1, e7.1, ZAa]
 rw [sz] at hz8 t8 z8
 refine ZAB ⟨_, rfl, ?_⟩
 show Q (.ref g5.objs.size) _
 rw [sz]
 exact hQ x y g8 tk2 px py hz8 (up _ _ D.ap.TOz to5) (D1.frame _ _ _ s15 fun c hc o e => up c o (fun q => D.z1 (q ▸ hc)) e) (D2.frame _ _ _ s25 fun c hc o e => up c o (fun q => D.z2 (q ▸ hc)) e) t8 z8 fun c o c1 c2 c3 c4 e => up c o c1 (kp c o c1 c2 c3 c4 e)
theorem Va {Q : Option Value -> Shared -> Prop} (D1 : Draws prog w A.in1 i1 f1 n1 P1 S1) (D2 : Draws prog w A.in1 i2 f2 n2 P2 S2) (D : Yog z TI TO i1 i2 f1 f2)
 (hz : IsZip s.heap z TI TO .none) (hTI : IsPair s.heap TI (.ref i1) (.ref i2)) (hTO : IsPair s.heap TO a b) (h1 : S1 k s.heap) (h2 : S2 k s.heap) (k1 : k < n1) (k2 : k < n2)
 (hQ : ∀ x y h' tk, P1 k x -> P2 k y -> IsZip h' z TI TO (rawInt s.heap.objs.size) -> IsPair h' TO x y -> S1 (k + 1) h' -> S2 (k + 1) h' -> IsPair h' s.heap.objs.size x y -> h'.objs.size = s.heap.objs.size + 1 ->
  (∀ c o, c ≠ z -> c ≠ TO -> c ≠ i1 -> c ≠ i2 -> s.heap.get? c = some o -> h'.get? c = some o) -> Q (some (.ref s.heap.objs.size)) { s with heap := h', toks := tk }) :
 wpAny (model prog w) A (pyNext (.ref z)) Q E s := by
 show 52
 exact ZAA (ZBU (wpAny_callSpecial?_slot (name := Str.ofString "__next__") hT F.slot_zip_next
  (ZAe F.slot_zip_next hT F.entry_zip_next
   (Yec D1 D2 D hz hTI hTO h1 h2 k1 k2 fun x y h' tk c1 c2 a1 a2 a3 a4 a5 a6 a7 => ZAB (hQ x y h' tk c1 c2 a1 a2 a3 a4 a5 a6 a7)) (F.args_zip_next_1 _))))
end
section
variable {prog : Program} {w : World} {A : Around} {E : VSP} {s : Shared} {z TI TO i1 i2 : Addr} {f1 f2 : List Addr} {n1 n2 k : Nat} {P1 P2 : Nat -> Value -> Prop} {S1 S2 : Nat -> Heap -> Prop} {a b : Value}
theorem Ygl {Q : Fin -> Shared -> Prop} (D1 : Draws prog w A i1 f1 n1 P1 S1) (D : ZAp z TI TO i1 i2) (az1 : z ∉ f1)
 (hz : IsZip s.heap z TI TO .none) (hTI : IsPair s.heap TI (.ref i1) (.ref i2)) (hTO : IsPair s.heap TO a b) (h1 : S1 k s.heap)
 (hk : k = n1 \/ k < n1 /\ ∃ f2 n2 P2 S2, Draws prog w A i2 f2 n2 P2 S2 /\ S2 n2 s.heap /\ z ∉ f2 /\ TO ∉ f2 /\ i1 ∉ f2)
 (hE : ∀ h' e tk, (∀ c o, c ≠ z -> c ≠ TO -> c ≠ i1 -> c ≠ i2 -> s.heap.get? c = some o -> h'.get? c = some o) -> (∃ o, h'.get? e = some o /\ o.cls = .type "StopIteration") -> E (.ref e) { s with heap := h', toks := tk }) :
 wpAny (model prog w) A (Builtin.«zip.__next__» ⟨[.ref z], []⟩) Q E s := by
 show 71
 show 138
 unfold Builtin.SmallTypes.ownedTupleIsFree
 refine ZAA (ZAl hz rfl (x := .none) rfl (ZAB ?_))
 simp only [if_true]
 refine wpAny_bind (wpAny_rule (wpAny_bind (wpAny_field hz rfl (x := .ref TO) rfl (wpAny_bind (wpAny_setField_rec hz (by simp) fun g1 hz1 e1 => ?_)))))
 replace hz1 : IsZip g1 z TI TO .ellipsis := hz1
 show 138
 simp only [List.zipIdx_cons, List.zipIdx_nil, List.forIn_cons, List.forIn_nil]
 show 222
 show 207
 rcases hk with hk | ⟨k1, f2, n2, P2, S2, D2, h2, az2, at2, ax2⟩
 ·subst hk
  refine ZAA (D1.done { s with heap := g1 } _ _ (YG D1 h1 e1.extBut az1) fun g2 e e2 he => ?_)
  obtain ⟨oe, hoe, hce⟩ := he
  have hz2 : IsZip g2 z TI TO .ellipsis := e2 _ _ D.i1z.symm hz1
  have hez : e ≠ z := fun q => by subst q; rw [hz2] at hoe; cases hoe; simp at hce
  exact wpAny_setField_rec hz2 (by simp) fun g3 _ e3 => hE g3 e s.toks (fun c o c1 _ c3 _ q => e3.extBut _ _ c1 (e2 _ _ c3 (e1.extBut _ _ c1 q))) ⟨oe, e3.extBut _ _ hez hoe, hce⟩
 ·refine ZAA (D1.item k { s with heap := g1 } _ _ k1 (YG D1 h1 e1.extBut az1) fun x g2 tk1 px s1 e2 => ZAB ?_)
  have to2 : IsPair g2 TO a b := e2.extBut _ _ D.TOi1 (e1.extBut _ _ D.TOz hTO)
  refine ZAA (ZAy to2 rfl (ZAA (ZB2 to2 fun g3 to3 e3 => ?_)))
  refine ZAA (ZCT (ZAB ?_))
  show 222
  show wpAny _ _ (Builtin.SmallTypes.nextOf (.ref i2) >>= _) _ _ _
  have h23 : S2 n2 g3 := YG D2 (YG D2 (YG D2 h2 e1.extBut az2) e2.extBut ax2) e3.extBut at2
  refine ZAA (D2.done { s with heap := g3, toks := tk1 } _ _ h23 fun g4 e e4 he => ?_)
  obtain ⟨oe, hoe, hce⟩ := he
  have hz4 : IsZip g4 z TI TO .ellipsis := e4 _ _ D.i2z.symm (e3.extBut _ _ D.TOz.symm (e2.extBut _ _ D.i1z.symm hz1))
  have hez : e ≠ z := fun q => by subst q; rw [hz4] at hoe; cases hoe; simp at hce
  exact wpAny_setField_rec hz4 (by simp) fun g5 _ e5 => hE g5 e tk1 (fun c o c1 c2 c3 c4 q => e5.extBut _ _ c1 (e4 _ _ c4 (e3.extBut _ _ c2 (e2.extBut _ _ c3 (e1.extBut _ _ c1 q))))) ⟨oe, e5.extBut _ _ hez hoe, hce⟩
theorem Wm {Q : Option Value -> Shared -> Prop} (D1 : Draws prog w A.in1 i1 f1 n1 P1 S1) (D : ZAp z TI TO i1 i2) (az1 : z ∉ f1)
 (hz : IsZip s.heap z TI TO .none) (hTI : IsPair s.heap TI (.ref i1) (.ref i2)) (hTO : IsPair s.heap TO a b) (h1 : S1 k s.heap)
 (hk : k = n1 \/ k < n1 /\ ∃ f2 n2 P2 S2, Draws prog w A.in1 i2 f2 n2 P2 S2 /\ S2 n2 s.heap /\ z ∉ f2 /\ TO ∉ f2 /\ i1 ∉ f2)
 (hQ : ∀ h' tk, (∀ c o, c ≠ z -> c ≠ TO -> c ≠ i1 -> c ≠ i2 -> s.heap.get? c = some o -> h'.get? c = some o) -> Q none { s with heap := h', toks := tk }) : wpAny (model prog w) A (pyNext (.ref z)) Q E s := by
 show 52
 refine ZAA (ZBU (wpAny_callSpecial?_slot (name := Str.ofString "__next__") hT F.slot_zip_next
  (ZAe F.slot_zip_next hT F.entry_zip_next (Ygl D1 D az1 hz hTI hTO h1 hk fun h' e tk kp he => ?_) (F.args_zip_next_1 _))))
 obtain ⟨o, ho, hc⟩ := he
 exact ZAA (ZBn (T := "StopIteration") (b := true) ⟨o, ho, hc⟩ isSubtype_stop (ZAB (hQ h' tk kp)))
end
def Ypd (go1 go2 : Nat -> Hp -> V -> Prop) (stop1 stop2 : Nat -> Hp -> Prop) : It :=
 ⟨fun i H => ∃ x y, go1 i H x /\ go2 i H y, fun i H v H' => ∃ p, v = .ref p /\ H p = none /\ ∀ x y, go1 i H x -> go2 i H y -> H' = upd H p (.tup [x, y]), fun i H => stop1 i H \/ (∃ x, go1 i H x) /\ stop2 i H⟩
def YpR (z TI TO i1 i2 : Addr) (t1 t2 : Nat -> Heap -> Prop) (i : Nat) (h : Heap) : Prop := IsZip h z TI TO .none /\ IsPair h TI (.ref i1) (.ref i2) /\ (∃ x y, IsPair h TO x y) /\ t1 i h /\ t2 i h
def Yne (P' : Program) (w : World) (K : Frag) (it : Addr) (tn0 : Nat -> Heap -> Prop) (stop : Nat -> Hp -> Prop) : Prop :=
 ∀ (X : Cx), X.prog = P' -> X.w = w -> X.K = K -> X.calm = true -> ∀ i pins s σ H, Inv X pins σ H s -> Ymt X pins H it -> tn0 i s.heap -> stop i H ->
  ∃ fp n Pv St, Draws P' w X.A.in1 it fp n Pv St /\ St n s.heap /\ ∀ e, Ymt X pins H e -> e ≠ it -> e ∉ fp
theorem Yg5 {P' : Program} {w : World} {K : Frag} {it l : Addr} : Yne P' w K it (fun i h => h.IsTupleIter it l i) (fun i H => ∃ xs, SqT K H l xs /\ i = xs.length) :=
 fun X hP hw hK hc i pins s σ H I f st ⟨xs, h1, h2⟩ => by
  show 155
  obtain ⟨its, rv, pt, _⟩ := I.tuple h1
  show 168
  have D := ZC (prog := X.prog) (w := X.w) (A := X.A.in1) (I.ok.hd hc) it l (JH I h1 f) its.toArray
  refine ⟨_, _, _, _, D, ⟨?_, pt⟩, fun e fe hne hm => ?_⟩
  ·show 54
   exact st
  ·show 234
   rcases hm with z | z
   ·exact hne z
   ·exact JH I h1 fe z.symm
theorem YeI {P : Program} {w : World} {K : Frag} {elts : List Expr} {x1 : Nat} {tp : Pos} {z TI TO i1 i2 : Addr} {t1 t2 : Nat -> Heap -> Prop} {go1 go2 : Nat -> Hp -> V -> Prop} {stop1 stop2 : Nat -> Hp -> Prop} (D : ZAp z TI TO i1 i2) (B1 : Yok P w K i1 t1 go1 stop1) (B2 : Yok P w K i2 t2 go2 stop2) (C1 : Yne P w K i1 t1 stop1) (C2 : Yne P w K i2 t2 stop2) :
 Turn P w K (.Tuple elts x1 tp) (Ypd go1 go2 stop1 stop2) [z, TI, TO, i1, i2] z (YpR z TI TO i1 i2 t1 t2) where
 mem := by simp
 obj := fun i h st c hc => by
  obtain ⟨h1, h2, ⟨x, y, h3⟩, h4, h5⟩ := st
  show 46
  ·exact ⟨_, h1, fun v z => by cases z⟩
  ·exact ⟨_, h2, fun v z => by cases z⟩
  ·exact ⟨_, h3, fun v z => by cases z⟩
  ·exact B1.obj i h h4
  ·exact B2.obj i h h5
 keep := fun i h h' st k => by
  obtain ⟨h1, h2, ⟨x, y, h3⟩, h4, h5⟩ := st
  exact ⟨k z (by simp) _ h1, k TI (by simp) _ h2, ⟨x, y, k TO (by simp) _ h3⟩, B1.keep i h h' h4 fun o e => k i1 (by simp) o e, B2.keep i h h' h5 fun o e => k i2 (by simp) o e⟩
 item := by
  show 69
  obtain ⟨x, y, ex, ey⟩ := hg
  show 205
  have fTI := hf TI (by simp)
  show 59
  obtain ⟨fp1, n1, P1, S1, D1, s1, k1, ap1, r1, b1⟩ := B1.item X rfl rfl rfl hc i pins s σ H x I f1 h4 ex
  obtain ⟨fp2, n2, P2, S2, D2, s2, k2, ap2, r2, b2⟩ := B2.item X rfl rfl rfl hc i pins s σ H y I f2 h5 ey
  refine Va D1 D2 ⟨D, ap1 _ fz D.i1z.symm, ap1 _ fTO D.TOi1, ap1 _ f2 D.i12.symm, ap2 _ fz D.i2z.symm, ap2 _ fTO D.TOi2, ap2 _ f1 D.i12⟩ h1 h2 h3 s1 s2 k1 k2 fun ux uy h' tk px py a1 a2 a3 a4 a5 a6 hk => ?_
  have nT : H s.heap.objs.size = none := I.hok.fresh (ZAI _)
  have fp4 : ∀ c ∈ [z, TO, i1, i2], Ymt X pins H c := fun c hc => by
   show 47
  have notIn : ∀ {c}, c ∉ [z, TO, i1, i2] -> c ≠ z /\ c ≠ TO /\ c ≠ i1 /\ c ≠ i2 := fun {c} hc => by
   show 212
  have tr : ∀ {c u}, H c = some u -> c ≠ z /\ c ≠ TO /\ c ≠ i1 /\ c ≠ i2 := fun {c u} e => ⟨Yd e fz.1, Yd e fTO.1, Yd e f1.1, Yd e f2.1⟩
  have hns : ∀ m, s.heap.Ns X.env.locals m -> h'.Ns X.env.locals m := fun m ⟨o, es, ep, e, r⟩ => ⟨o, es, ep, hk _ o fz.2.1.symm fTO.2.1.symm f1.2.1.symm f2.2.1.symm e, r⟩
  have hok : HOk X.prog X.w (upd H s.heap.objs.size (.tup [x, y])) h' := fun c u e => by
   by_cases hb : c = s.heap.objs.size
   ·subst hb
    rw [Yj] at e
    cases e
    exact ⟨by show 2 <= sizeLine; decide, [ux, uy], .cons (r1 _ px) (.cons (r2 _ py) .nil), ⟨_, a5, rfl, _, rfl⟩⟩
   ·rw [Yg hb] at e
    refine (I.hok c u e).stay (fun c' v hc' q => ?_) (fun c' q => by rw [Yg (Yd q nT)]; exact q) fun c' xs q => by rw [Yg (Yd q nT)]; exact q
    show 235
    ·show 224
    ·obtain ⟨t1, t2, t3, t4⟩ := tr z1; exact hk _ v t1 t2 t3 t4 q
  have I1 : Inv X pins σ (upd H s.heap.objs.size (.tup [x, y])) { s with heap := h', toks := tk } :=
   I.step (h' := h') (g' := s.gens) (t' := tk) (d' := s.drawn) (ch := [z, TO, i1, i2]) (fun c hc => ⟨(fp4 c hc).2.2.2.1, (fp4 c hc).2.1, (fp4 c hc).2.2.2.2.1, (fp4 c hc).2.2.2.2.2⟩)
    (fun c o _ _ hc e _ => let ⟨t1, t2, t3, t4⟩ := notIn hc; hk c o t1 t2 t3 t4 e) (fun c o _ _ hc e _ => let ⟨t1, t2, t3, t4⟩ := notIn hc; ⟨o.slots, hk c o t1 t2 t3 t4 e⟩)
    (fun c o hc e n => by rw [Yg (ZAL (ZAE e))]; exact n) (fun c o hc e => let ⟨t1, t2, t3, t4⟩ := notIn hc; ⟨o, hk c o t1 t2 t3 t4 e⟩)
    (fun c xs q => by rw [Yg (Yd q nT)]; exact q) (fun c o u q => by rw [Yg (Yd q nT)]; exact q) (fun c ps q => ⟨#[], by rw [Yg (Yd q nT), q]; simp⟩) hns hok I.bare
  refine ⟨.ref s.heap.objs.size, rfl, ZCF (s := { s with heap := h', toks := tk }) a1 fun h'' hz'' sb => ?_⟩
  have zl : z < s.heap.objs.size := ZAE h1
  have nz1 : (upd H s.heap.objs.size (.tup [x, y])) z = none := by rw [Yg (ZAL zl)]; exact fz.1
  have I2 : Inv X pins σ (upd H s.heap.objs.size (.tup [x, y])) { s with heap := h'', toks := tk } := Inv.turned (s := { s with heap := h', toks := tk }) (it := z) I1 (fun c o hc e => (sb.2 c hc).trans e) nz1 fz.2.1 fz.2.2.2.1 fz.2.2.2.2.1 fz.2.2.2.2.2
  refine ⟨.ref s.heap.objs.size, _, I2, rfl, ⟨s.heap.objs.size, rfl, nT, fun x' y' hx' hy' => ?_⟩, ⟨hz'', (sb.2 _ D.TIz).trans (hk _ _ D.TIz D.TITO D.TIi1 D.TIi2 h2), ⟨_, _, (sb.2 _ D.TOz).trans a2⟩, B1.keep _ _ _ (b1 _ a3) fun o e => (sb.2 _ D.i1z).trans e, B2.keep _ _ _ (b2 _ a4) fun o e => (sb.2 _ D.i2z).trans e⟩, fun c hc => ?_⟩
  ·rw [B1.uniq X rfl i pins s σ H x' x I hx' ex, B2.uniq X rfl i pins s σ H y' y I hy' ey]
  ·have hlt : c < s.heap.objs.size := by
    show 46
    ·exact ZAE h1
    ·exact ZAE h2
    ·exact ZAE h3
    ·obtain ⟨_, e, _⟩ := B1.obj _ _ h4; exact ZAE e
    ·obtain ⟨_, e, _⟩ := B2.obj _ _ h5; exact ZAE e
   rw [Yg (ZAL hlt)]
   exact (hf c hc).1
 done := by
  show 69
  show 205
  show 59
  have fin : ∀ h' tk, (∀ c o, c ≠ z -> c ≠ TO -> c ≠ i1 -> c ≠ i2 -> s.heap.get? c = some o -> h'.get? c = some o) -> Inv X pins σ H { s with heap := h', toks := tk } := fun h' tk hk => by
   have fp4 : ∀ c ∈ [z, TO, i1, i2], Ymt X pins H c := fun c hc => by
    show 47
   have notIn : ∀ {c}, c ∉ [z, TO, i1, i2] -> c ≠ z /\ c ≠ TO /\ c ≠ i1 /\ c ≠ i2 := fun {c} hc => by
    show 212
   have tr : ∀ {c u}, H c = some u -> c ≠ z /\ c ≠ TO /\ c ≠ i1 /\ c ≠ i2 := fun {c u} e => ⟨Yd e fz.1, Yd e fTO.1, Yd e f1.1, Yd e f2.1⟩
   exact I.step (h' := h') (g' := s.gens) (t' := tk) (d' := s.drawn) (ch := [z, TO, i1, i2]) (fun c hc => ⟨(fp4 c hc).2.2.2.1, (fp4 c hc).2.1, (fp4 c hc).2.2.2.2.1, (fp4 c hc).2.2.2.2.2⟩)
    (fun c o _ _ hc e _ => let ⟨t1, t2, t3, t4⟩ := notIn hc; hk c o t1 t2 t3 t4 e) (fun c o _ _ hc e _ => let ⟨t1, t2, t3, t4⟩ := notIn hc; ⟨o.slots, hk c o t1 t2 t3 t4 e⟩)
    (fun c o hc e n => n) (fun c o hc e => let ⟨t1, t2, t3, t4⟩ := notIn hc; ⟨o, hk c o t1 t2 t3 t4 e⟩)
    (fun c xs q => q) (fun c o u q => q) (fun c ps q => ⟨#[], by rw [q]; simp⟩) (fun m ⟨o, es, ep, e, r⟩ => ⟨o, es, ep, hk _ o fz.2.1.symm fTO.2.1.symm f1.2.1.symm f2.2.1.symm e, r⟩)
    (fun c u e => by
     refine (I.hok c u e).stay (fun c' v hc' q => ?_) (fun c' q => q) fun c' xs q => q
     show 235
     ·show 224
     ·obtain ⟨t1, t2, t3, t4⟩ := tr z1; exact hk _ v t1 t2 t3 t4 q) I.bare
  rcases hg with hg | ⟨⟨x, ex⟩, hg⟩
  ·obtain ⟨fp1, n1, P1, S1, D1, s1, ap1⟩ := C1 X rfl rfl rfl hc i pins s σ H I f1 h4 hg
   exact Wm D1 D (ap1 _ fz D.i1z.symm) h1 h2 h3 s1 (.inl rfl) fun h' tk hk => ⟨rfl, fin h' tk hk⟩
  ·obtain ⟨fp1, n1, P1, S1, D1, s1, k1, ap1, r1, b1⟩ := B1.item X rfl rfl rfl hc i pins s σ H x I f1 h4 ex
   obtain ⟨fp2, n2, P2, S2, D2, s2, ap2⟩ := C2 X rfl rfl rfl hc i pins s σ H I f2 h5 hg
   exact Wm D1 D (ap1 _ fz D.i1z.symm) h1 h2 h3 s1 (.inr ⟨k1, fp2, n2, P2, S2, D2, s2, ap2 _ fz D.i2z.symm, ap2 _ fTO D.TOi2, ap2 _ f1 D.i12⟩) fun h' tk hk => ⟨rfl, fin h' tk hk⟩
 self := fun A i s Q E st h => ZBm st.1 h
section
variable {X : Cx} {elts : List Expr} {x1 : Nat} {tp p pos : Pos} {e f : Expr}
def Yps (xs ys : List P) : Src := ⟨xs.length, fun i _ => if i <= xs.length /\ i <= ys.length then some (Ymi xs ys i) else none⟩
def YoT (ps : List P) (st : Yls) : R Src := match ps with
 | [.ref k, .ref l] => (match listAt st k, listAt st l with
  | some xs, some _ => .ok (Ynu k l xs.length) st
  | _, _ => .bad)
 | [.tup xs, .tup ys] => .ok (Yps xs ys) st
 | _ => .bad
end
section
variable {X : Cx} {tg : Expr}
def YoB (lo : Int) (n : Nat) : Src := ⟨n, fun i _ => some (if i < n then some (.int (lo - i)) else none)⟩
def Yn9 (ps : List P) (st : Yls) : R Src := match ps with
 | [.int i, .int j, .int c] => if small62 i = true /\ small62 j = true /\ c = -1 then .ok (YoB i (i - j).toNat) st else .bad
 | _ => .bad
def YoK (mr : MA) : MI := fun ρ st => (mr ρ st).bind fun ps st1 => Yn9 ps st1
end
@[simp] theorem YkC {ρ : Rho} {st : Yls} {r : MA} : YoK r ρ st = (r ρ st).bind fun ps st1 => Yn9 ps st1 := rfl
@[simp] theorem Ylk {lo : Int} {n : Nat} : (YoB lo n).n = n := rfl
@[simp] theorem YkI {lo : Int} {n i : Nat} {st : Yls} : (YoB lo n).nx i st = some (if i < n then some (.int (lo - i)) else none) := rfl
inductive ZK where | tup (a : Addr) | lst (a : Addr) | str (z : Str)
def ZK.v : ZK -> V
 | .tup a => .ref a
 | .lst a => .ref a
 | .str z => .str z
def ZK.ok (K : Frag) (H : Hp) : ZK -> Prop
 | .tup a => ∃ xs, SqT K H a xs
 | .lst a => ∃ xs, SqL K H a xs
 | .str _ => True
def goZ (K : Frag) : ZK -> Nat -> Hp -> V -> Prop
 | .tup a => fun i H x => ∃ xs, SqT K H a xs /\ xs[i]? = some x
 | .lst a => fun i H x => ∃ xs, SqL K H a xs /\ xs[i]? = some x
 | .str z => fun i _ x => ∃ c, z.cps[i]? = some c /\ x = .str ⟨#[c]⟩
def YnU (K : Frag) : ZK -> Nat -> Hp -> Prop
 | .tup a => fun i H => ∃ xs, SqT K H a xs /\ i = xs.length
 | .lst a => fun i H => ∃ xs, SqL K H a xs /\ i = xs.length
 | .str z => fun i _ => i = z.cps.size
theorem Ygo {P' : Program} {w : World} {K : Frag} {it l : Addr} : Yne P' w K it (fun i h => h.IsListIter it l i) (fun i H => ∃ xs, SqL K H l xs /\ i = xs.length) :=
 fun X hP hw hK hc i pins s σ H I f st ⟨xs, h1, h2⟩ => by
  show 155
  obtain ⟨its, rv, pt, _⟩ := I.list h1
  show 168
  have D := Draws.list (prog := X.prog) (w := X.w) (A := X.A.in1) (I.ok.hd hc) it l (Yy I h1 f) its.toArray
  refine ⟨_, _, _, _, D, ⟨?_, pt.isList⟩, fun e fe hne hm => ?_⟩
  ·show 54
   exact st
  ·show 234
   rcases hm with z | z
   ·exact hne z
   ·exact Yy I h1 fe z.symm
theorem Ye8 {P' : Program} {w : World} {K : Frag} {it : Addr} {z : Str} {t : Tok} : Yne P' w K it (fun i h => h.IsStrIter it (strIterType z) z t i) (fun i _ => i = z.cps.size) :=
 fun X hP hw hK hc i pins s σ H I f st h1 => by
  show 155
  subst h1
  unfold strIterType at st
  split at st
  ·have D := Draws.strAscii (prog := X.prog) (w := X.w) (A := X.A.in1) (I.ok.hd hc) it z t
   exact ⟨_, _, _, _, D, st, fun e fe hne hm => hne (by simpa using hm)⟩
  ·have D := Draws.strWide (prog := X.prog) (w := X.w) (A := X.A.in1) (I.ok.hd hc) it z t
   exact ⟨_, _, _, _, D, st, fun e fe hne hm => hne (by simpa using hm)⟩
def Opn (v : Value) (o : Obj) (C : Heap -> Prop) : Prop := ∀ {prog : Program} {w : World} {A : Around} {Q : VSP} {E : VSP} {s : Shared}, C s.heap -> Q (.ref s.heap.objs.size) { s with heap := s.heap.push o } -> wpAny (model prog w) A (pyIter v) Q E s
theorem YbY {X : Cx} {pins : LAO} {σ : St} {H : Hp} {s : Shared} {k : ZK} {v : Value} (I : Inv X pins σ H s) (hk : k.ok X.K H) (rv : RelV k.v v) :
 ∃ (o : Obj) (C : Heap -> Prop) (t0 : Addr -> Nat -> Heap -> Prop), C s.heap /\ (∀ h p, C h -> C (h.push p)) /\ Opn v o C /\ (∀ it, Yok X.prog X.w X.K it (t0 it) (goZ X.K k) (YnU X.K k)) /\ (∀ it, Yne X.prog X.w X.K it (t0 it) (YnU X.K k)) /\ (∀ h it, h.get? it = some o -> t0 it 0 h) /\ o.isFreed = false := by
 cases k with
 | tup a =>
  obtain ⟨xs, hx⟩ := hk
  have rv' : RelV (.ref a) v := rv
  cases rv'
  obtain ⟨its, rx, px, zx⟩ := I.tuple hx
  exact ⟨{ cls := .type "tuple_iterator", data := .fields #[.ref a, .int 0 0] }, fun h => h.IsTuple a its.toArray, fun it i h => h.IsTupleIter it a i, px, fun h p q => Heap.IsTuple.push q _, fun hc hQ => wpAny_pyIter_tuple hc hQ, fun it => Yj7, fun it => Yg5, fun h it e => ⟨_, e, rfl, rfl⟩, rfl⟩
 | lst a =>
  obtain ⟨xs, hx⟩ := hk
  have rv' : RelV (.ref a) v := rv
  cases rv'
  obtain ⟨its, rx, px, zx⟩ := I.list hx
  exact ⟨{ cls := .type "list_iterator", data := .fields #[.ref a, .int 0 0] }, fun h => h.IsList a its.toArray, fun it i h => h.IsListIter it a i, px.isList, fun h p q => let ⟨o, e, r⟩ := q; ⟨o, ZAC _ e, r⟩, fun hc hQ => ZBz hc hQ, fun it => YjC, fun it => Ygo, fun h it e => ⟨_, e, rfl, rfl⟩, rfl⟩
 | str z =>
  obtain ⟨t, rfl⟩ : ∃ t, v = .str z t := rv
  exact ⟨{ cls := .type (strIterType z), data := .fields #[.str z t, .int 0 0] }, fun _ => True, fun it i h => h.IsStrIter it (strIterType z) z t i, trivial, fun _ _ _ => trivial, fun {_ _ _ _ _ _} _ hQ => by
   cases ha : z.cps.all (· < 128)
   ·exact wpAny_pyIter_wide ha (by simpa [strIterType, ha] using hQ)
   ·exact wpAny_pyIter_ascii ha (by simpa [strIterType, ha] using hQ), fun it => Yje, fun it => Ye8, fun h it e => ⟨_, e, rfl, rfl⟩, rfl⟩
abbrev zg1 (h : Heap) (o1 : Obj) : Heap := h.push o1
abbrev zg2 (h : Heap) (o1 o2 : Obj) : Heap := (zg1 h o1).push o2
abbrev zg3 (h : Heap) (o1 o2 : Obj) : Heap := (zg2 h o1 o2).push { cls := .type "tuple", data := .seq #[.ref h.objs.size, .ref (zg1 h o1).objs.size] }
abbrev zg4 (h : Heap) (o1 o2 : Obj) : Heap := (zg3 h o1 o2).push { cls := .type "tuple", data := .seq #[.none, .none] }
abbrev zg5 (h : Heap) (o1 o2 : Obj) : Heap := (zg4 h o1 o2).push { cls := .type "zip", data := .fields #[.none, .bool false, .bool false, .ref (zg2 h o1 o2).objs.size, .ref (zg3 h o1 o2).objs.size] }
theorem YbW (v1 v2 : Value) (o1 o2 : Obj) (C1 C2 : Heap -> Prop) (p1 : Opn v1 o1 C1) (p2 : Opn v2 o2 C2) (c2 : ∀ h p, C2 h -> C2 (h.push p)) :
 Meets (Builtin.«zip.__new__» ⟨[.type "zip", v1, v2], []⟩) (fun _ R s => C1 s.heap /\ C2 s.heap /\ R (.ok (.ret (.ref (zg4 s.heap o1 o2).objs.size))) { s with heap := zg5 s.heap o1 o2 }) :=
 .of_wp fun prog w A R s h => by
  obtain ⟨hp, g, d, tk, os⟩ := s; obtain ⟨hl1, hl2, h⟩ := h
  have hsub := sub_zip
  have hL1 : C1 (Shared.heap ⟨hp, g, d, tk, os⟩) := hl1
  have hL2 : C2 (Shared.heap ⟨hp.push o1, g, d, tk, os⟩) := c2 _ _ hl2
  have P1 : ∀ {A : Around} {Q : VSP} {E : VSP} {s : Shared}, C1 s.heap -> Q (.ref s.heap.objs.size) { s with heap := s.heap.push o1 } -> wpAny (model prog w) A (pyIter v1) Q E s := fun h1 h2 => p1 h1 h2
  have P2 : ∀ {A : Around} {Q : VSP} {E : VSP} {s : Shared}, C2 s.heap -> Q (.ref s.heap.objs.size) { s with heap := s.heap.push o2 } -> wpAny (model prog w) A (pyIter v2) Q E s := fun h1 h2 => p2 h1 h2
  wp_walk using P1 hL1, P2 hL2
  exact ⟨_, rfl, h⟩
theorem JU {prog : Program} {w : World} {A : Around} {E : VSP} {s : Shared} {v1 v2 : Value} {o1 o2 : Obj} {C1 C2 : Heap -> Prop} {Q : VSP} (p1 : Opn v1 o1 C1) (p2 : Opn v2 o2 C2) (c2 : ∀ h p, C2 h -> C2 (h.push p)) (hl1 : C1 s.heap) (hl2 : C2 s.heap) (n1 : o1.isFreed = false) (n2 : o2.isFreed = false)
 (h : ∀ h', IsZip h' (s.heap.objs.size + 4) (s.heap.objs.size + 2) (s.heap.objs.size + 3) .none -> IsPair h' (s.heap.objs.size + 2) (.ref s.heap.objs.size) (.ref (s.heap.objs.size + 1)) -> IsPair h' (s.heap.objs.size + 3) .none .none ->
  h'.get? s.heap.objs.size = some o1 -> h'.get? (s.heap.objs.size + 1) = some o2 -> (∀ c o, s.heap.get? c = some o -> h'.get? c = some o) -> Q (.ref (s.heap.objs.size + 4)) { s with heap := h' }) :
 wpAny (model prog w) A (call (.type "zip") [v1, v2]) Q E s := by
 refine callType_new F.called_zip (by decide) (F.typeCall_zip_2 _ _) (F.newCall_zip_2 _ _) (fun obj => F.args_object_init_3 obj _ _) F.entry_zip_new (YbW v1 v2 o1 o2 C1 C2 p1 p2 c2) ⟨hl1, hl2, ?_⟩
 have z1 : (zg1 s.heap o1).objs.size = s.heap.objs.size + 1 := ZAa ..
 have z2 : (zg2 s.heap o1 o2).objs.size = s.heap.objs.size + 2 := by rw [ZAa, z1]
 have z3 : (zg3 s.heap o1 o2).objs.size = s.heap.objs.size + 3 := by rw [ZAa, z2]
 have z4 : (zg4 s.heap o1 o2).objs.size = s.heap.objs.size + 4 := by rw [ZAa, z3]
 have up : ∀ {h : Heap} {c : Addr} {o p : Obj}, h.get? c = some o -> (h.push p).get? c = some o := fun e => ZAC _ e
 have g5 : (zg5 s.heap o1 o2).get? (zg4 s.heap o1 o2).objs.size = some _ := ZAK _ rfl
 have g4 : (zg5 s.heap o1 o2).get? (zg3 s.heap o1 o2).objs.size = some _ := up (ZAK _ rfl)
 have g3 : (zg5 s.heap o1 o2).get? (zg2 s.heap o1 o2).objs.size = some _ := up (up (ZAK _ rfl))
 have g2 : (zg5 s.heap o1 o2).get? (zg1 s.heap o1).objs.size = some o2 := up (up (up (ZAK _ n2)))
 have g1 : (zg5 s.heap o1 o2).get? s.heap.objs.size = some o1 := up (up (up (up (ZAK _ n1))))
 show _ /\ _
 rw [z2, z3, z4] at g5
 rw [z1, z2] at g3
 rw [z3] at g4
 rw [z1] at g2
 rw [z4]
 exact ⟨⟨_, g5, rfl⟩, h _ g5 g3 g4 g1 g2 fun c o q => up (up (up (up (up q))))⟩
section
variable {X : Cx} {elts : List Expr} {x1 : Nat} {tp p pos : Pos} {e f : Expr}
def Ypv (K : Frag) (k1 k2 : ZK) : It := Ypd (goZ K k1) (goZ K k2) (YnU K k1) (YnU K k2)
theorem Yh2 {ta : TA} (hg : Gl X "zip") (hm : X.mg "zip" = none) (hv : bootBuiltins "zip" = some (.type "zip")) (ha : PA X [e, f] ta) (hs : starEach [e, f] X.env = [(false, eval e X.env), (false, eval f X.env)] := by rfl) (hs2 : starEach [f] X.env = [(false, eval f X.env)] := by rfl) :
 PI X (.Tuple elts x1 tp) (.Call (.Name "zip" p) [e, f] [] pos) (fun σ H R => ta σ H fun vs H1 => (∃ a b, vs = [.ref a, .ref b] /\ ∃ xs ys, SqL X.K H1 a xs /\ SqL X.K H1 b ys /\ R (Itz X.K a b) H1) \/ ∃ k1 k2 : ZK, vs = [k1.v, k2.v] /\ k1.ok X.K H1 /\ k2.ok X.K H1 /\ R (Ypv X.K k1 k2) H1) := by
 intro pins s σ H R I h
 refine Call_ (ZU I hg hm hv (PyProof.Rows.callWith_type1 (thn (ha pos pins s σ H _ I h) fun us s1 ⟨vs, H1, I1, r1, q1⟩ => ?_) (by rw [hs, hs2]) (by rw [hs2]; rfl)))
 have fps : ∀ c ∈ [s1.heap.objs.size + 4, s1.heap.objs.size + 2, s1.heap.objs.size + 3, s1.heap.objs.size, s1.heap.objs.size + 1], Ymt X pins H1 c := fun c hc => by
  show 245
  have hle : s1.heap.objs.size <= c := by rcases hc with rfl | rfl | rfl | rfl | rfl <;> simp
  exact I1.fpOk hle (I1.hok.fresh hle)
 have ap : ZAp (s1.heap.objs.size + 4) (s1.heap.objs.size + 2) (s1.heap.objs.size + 3) s1.heap.objs.size (s1.heap.objs.size + 1) := by
  constructor <;> (intro z; have z' : (_ : Nat) = _ := z; omega)
 rcases q1 with ⟨a, b, rfl, xs, ys, hx, hy, q⟩ | ⟨k1, k2, rfl, o1, o2, q⟩
 ·obtain ⟨u, v, rfl, ru, rv⟩ := r1.two
  cases ru
  cases rv
  obtain ⟨its, rx, px, zx⟩ := I1.list hx
  obtain ⟨jts, ry, py, zy⟩ := I1.list hy
  refine call_zip_2 px.isList py.isList fun h' b1 b2 b3 b4 b5 b6 hk => ?_
  refine ZBm b1 ?_
  have I2 : Inv X pins σ H1 { s1 with heap := h' } := I1.kept (t' := s1.toks) hk
  exact ⟨_, _, _, _, H1, rfl, I2, YfK (a := a) (b := b) ap, ⟨b1, b2, ⟨_, _, b3⟩, b4, b5⟩, fps, q⟩
 ·obtain ⟨u, v, rfl, ru, rv⟩ := r1.two
  obtain ⟨ob1, C1, t1, c1, m1, p1, e1, s1', g1, n1⟩ := YbY I1 o1 ru
  obtain ⟨ob2, C2, t2, c2, m2, p2, e2, s2', g2, n2⟩ := YbY I1 o2 rv
  refine JU p1 p2 m2 c1 c2 n1 n2 fun h' b1 b2 b3 b4 b5 hk => ?_
  refine ZBm b1 ?_
  have I2 : Inv X pins σ H1 { s1 with heap := h' } := I1.kept (t' := s1.toks) hk
  exact ⟨_, _, _, _, H1, rfl, I2, YeI ap (e1 _) (e2 _) (s1' _) (s2' _), ⟨b1, b2, ⟨_, _, b3⟩, g1 _ _ b4, g2 _ _ b5⟩, fps, q⟩
def rowAt (p : P) (st : Yls) : Option (List P) := match p with
 | .tup xs => some xs
 | .str z => some (Yna z)
 | .ref k => listAt st k
 | _ => none
def Yot (K : Frag) (as : List Addr) (H : Hp) : P -> ZK -> Prop
 | .tup xs, .tup a => Den K as H (.ref a) (.tup xs)
 | .str z, .str z' => z = z'
 | .ref j, .lst a => as[j]? = some a
 | _, _ => False
theorem YiP {K : Frag} {as : List Addr} {H : Hp} {st : Yls} {v : V} {p : P} {xs : List P} (rp : Rep K as st H) (d : Den K as H v p) (h : rowAt p st = some xs) : ∃ k : ZK, v = k.v /\ k.ok K H /\ Yot K as H p k := by
 cases d with
 | tup s1 d1 => exact ⟨.tup _, rfl, ⟨_, s1⟩, .tup s1 d1⟩
 | str => exact ⟨.str _, rfl, trivial, rfl⟩
 | ref e1 =>
  have h' : listAt st _ = some xs := h
  obtain ⟨vs, s1, _⟩ := YV rp e1 h'
  exact ⟨.lst _, rfl, ⟨_, s1⟩, e1⟩
 | _ => cases h
theorem YgS {K : Frag} {as as2 : List Addr} {H H2 : Hp} {st2 : Yls} {p px : P} {k : ZK} {xs : List P} {i : Nat} (z : Yot K as H p k) (x : Ext as H as2 H2) (rp : Rep K as2 st2 H2) (h : rowAt p st2 = some xs) (hi : xs[i]? = some px) : ∃ v, goZ K k i H2 v /\ Den K as2 H2 v px := by
 match p, k, z with
 | .tup ys, .tup a, z =>
  cases h
  have z' : Den K as H (.ref a) (.tup xs) := z
  cases z'.ext x with
  | tup s1 d1 =>
   obtain ⟨v, g1, g2⟩ := d1.get hi
   exact ⟨v, ⟨_, s1, g1⟩, g2⟩
 | .str y, .str _, z =>
  have z' : y = _ := z
  subst z'
  have h' : Yna y = xs := Option.some.inj h
  subst h'
  unfold Yna at hi
  rw [ZAX] at hi
  obtain ⟨c, e2, rfl⟩ := ZCR.mp hi
  exact ⟨_, ⟨c, by simpa using e2, rfl⟩, .str⟩
 | .ref j, .lst a, z =>
  have z' : as[j]? = some a := z
  have h' : listAt st2 j = some xs := h
  obtain ⟨vs, s1, d1⟩ := YV rp (x.pre j a z') h'
  obtain ⟨v, g1, g2⟩ := d1.get hi
  exact ⟨v, ⟨_, s1, g1⟩, g2⟩
theorem Ydr {K : Frag} {as as2 : List Addr} {H H2 : Hp} {st2 : Yls} {p : P} {k : ZK} {xs : List P} {i : Nat} (z : Yot K as H p k) (x : Ext as H as2 H2) (rp : Rep K as2 st2 H2) (h : rowAt p st2 = some xs) (hi : i = xs.length) : YnU K k i H2 := by
 match p, k, z with
 | .tup ys, .tup a, z =>
  cases h
  have z' : Den K as H (.ref a) (.tup xs) := z
  cases z'.ext x with
  | tup s1 d1 => exact ⟨_, s1, by rw [d1.length]; exact hi⟩
 | .str y, .str _, z =>
  have z' : y = _ := z
  subst z'
  have h' : Yna y = xs := Option.some.inj h
  subst h'
  show i = y.cps.size
  rw [hi]
  unfold Yna
  simp
 | .ref j, .lst a, z =>
  have z' : as[j]? = some a := z
  have h' : listAt st2 j = some xs := h
  obtain ⟨vs, s1, d1⟩ := YV rp (x.pre j a z') h'
  exact ⟨_, s1, by rw [d1.length]; exact hi⟩
def Yom (p q : P) (n : Nat) : Src := ⟨n, fun i st => match rowAt p st, rowAt q st with
 | some xs, some ys => if i <= xs.length /\ i <= ys.length then some (Ymi xs ys i) else none
 | _, _ => none⟩
theorem Yem {K : Frag} {as : List Addr} {H : Hp} {p q : P} {n : Nat} {k1 k2 : ZK} (ha : Yot K as H p k1) (hb : Yot K as H q k2) : YnH K as H (Yom p q n) (Ypv K k1 k2) where
 go := fun i as2 st2 H2 pp x rp e => by
  have e' : (match rowAt p st2, rowAt q st2 with
   | some xs, some ys => if i <= xs.length /\ i <= ys.length then some (Ymi xs ys i) else none
   | _, _ => none) = some (some pp) := e
  cases q1 : rowAt p st2 with
  | none => show 238
  | some xs =>
   cases q2 : rowAt q st2 with
   | none => show 206
   | some ys =>
    rw [q1, q2] at e'
    dsimp only at e'
    have ez : Ymi xs ys i = some pp := by
     by_cases y : i <= xs.length /\ i <= ys.length
     ·rw [ZAG y] at e'; exact Option.some.inj e'
     ·rw [ZAF y] at e'; cases e'
    unfold Ymi at ez
    cases r1 : xs[i]? with
    | none => rw [r1] at ez; cases ez
    | some px =>
     cases r2 : ys[i]? with
     | none => show 216
     | some py =>
      rw [r1, r2] at ez
      cases ez
      obtain ⟨v, g1, g2⟩ := YgS ha x rp q1 r1
      obtain ⟨w, g3, g4⟩ := YgS hb x rp q2 r2
      refine ⟨⟨v, w, g1, g3⟩, fun u H3 ⟨t, e1, e2, e3⟩ => ?_⟩
      have := e3 v w g1 g3
      subst this e1
      exact ⟨Ext.laid e2, rp.laid e2, .tup (.of Yj) (.cons (g2.ext (Ext.laid e2)) (.cons (g4.ext (Ext.laid e2)) .nil))⟩
 stop := fun i as2 st2 H2 x rp e => by
  have e' : (match rowAt p st2, rowAt q st2 with
   | some xs, some ys => if i <= xs.length /\ i <= ys.length then some (Ymi xs ys i) else none
   | _, _ => none) = some none := e
  cases q1 : rowAt p st2 with
  | none => show 238
  | some xs =>
   cases q2 : rowAt q st2 with
   | none => show 206
   | some ys =>
    rw [q1, q2] at e'
    dsimp only at e'
    by_cases y : i <= xs.length /\ i <= ys.length
    ·rw [ZAG y] at e'
     have ez : Ymi xs ys i = none := Option.some.inj e'
     unfold Ymi at ez
     cases r1 : xs[i]? with
     | none =>
      have := ZAn.mp r1
      exact .inl (Ydr ha x rp q1 (by omega))
     | some px =>
      cases r2 : ys[i]? with
      | none =>
       have := ZAn.mp r2
       obtain ⟨v, g1, g2⟩ := YgS ha x rp q1 r1
       exact .inr ⟨⟨v, g1⟩, Ydr hb x rp q2 (by omega)⟩
      | some py => show 216
    ·rw [ZAF y] at e'; cases e'
def YnC : List P -> Bool
 | [.ref _, .ref _] => true
 | _ => false
def YoC (ps : List P) (st : Yls) : R Src := match ps with
 | [p, q] => (match rowAt p st, rowAt q st with
  | some xs, some _ => .ok (Yom p q xs.length) st
  | _, _ => .bad)
 | _ => .bad
def YnR (ps : List P) (st : Yls) : R Src := if YnC ps = true then YoT ps st else YoC ps st
def Yn5 (mr : MA) : MI := fun ρ st => (mr ρ st).bind YnR
theorem Ydv {mr : MA} (hg : Gl X "zip") (hm : X.mg "zip" = none) (hv : bootBuiltins "zip" = some (.type "zip")) (ha : JA X [e, f] mr) (hs : starEach [e, f] X.env = [(false, eval e X.env), (false, eval f X.env)] := by rfl) (hs2 : starEach [f] X.env = [(false, eval f X.env)] := by rfl) :
 JI X (.Tuple elts x1 tp) (.Call (.Name "zip" p) [e, f] [] pos) (Yn5 mr) := by
 show 221
 refine Yh2 hg hm hv ha hs hs2 pins s σ H R I ⟨as, ρ, st, en, rp, ?_⟩
 refine Yl1.bindA h fun ps st1 as1 H1 vs x rp1 d h1 => ?_
 unfold YnR at h1
 by_cases ht : YnC ps = true
 ·rw [ZAG ht] at h1
  match ps, d, h1, ht with
  | [.ref k, .ref l], d, h1, _ =>
   obtain ⟨v, w, rfl, d1, d2⟩ := d.two
   cases d1 with
   | ref e1 =>
    cases d2 with
    | ref e2 =>
     have h2 : Yl1 X as1 H1 ρ (match listAt st1 k, listAt st1 l with | some xs, some _ => .ok (Ynu k l xs.length) st1 | _, _ => .bad) R := h1
     cases q1 : listAt st1 k with
     | none => rw [q1] at h2; exact h2.elim
     | some xs =>
      cases q2 : listAt st1 l with
      | none => rw [q1, q2] at h2; exact h2.elim
      | some ys =>
       rw [q1, q2] at h2
       obtain ⟨vs, s1, _⟩ := YV rp1 e1 q1
       obtain ⟨ws, s2, _⟩ := YV rp1 e2 q2
       exact .inl ⟨_, _, rfl, vs, ws, s1, s2, h2 as1 H1 _ Ext.refl rp1 (Yhi e1 e2)⟩
 ·rw [ZAF ht] at h1
  match ps, d, h1 with
  | [p, q], d, h1 =>
   obtain ⟨v, w, rfl, d1, d2⟩ := d.two
   have h2 : Yl1 X as1 H1 ρ (match rowAt p st1, rowAt q st1 with | some xs, some _ => .ok (Yom p q xs.length) st1 | _, _ => .bad) R := h1
   cases q1 : rowAt p st1 with
   | none => rw [q1] at h2; exact h2.elim
   | some xs =>
    cases q2 : rowAt q st1 with
    | none => rw [q1, q2] at h2; exact h2.elim
    | some ys =>
     rw [q1, q2] at h2
     obtain ⟨k1, rfl, o1, z1⟩ := YiP rp1 d1 q1
     obtain ⟨k2, rfl, o2, z2⟩ := YiP rp1 d2 q2
     exact .inr ⟨k1, k2, rfl, o1, o2, h2 as1 H1 _ Ext.refl rp1 (Yem z1 z2)⟩
  | [], _, h1 => show 137
  | [_], _, h1 => show 137
  | _ :: _ :: _ :: _, _, h1 => show 137
end
section
variable {ρ : Rho} {st : Yls}
theorem YhI {r : MA} : Yn5 r ρ st = (r ρ st).bind fun ps st1 => YnR ps st1 := rfl
theorem Ygz {k l : Nat} {xs ys : List P} (h1 : listAt st k = some xs) (h2 : listAt st l = some ys) : YnR [.ref k, .ref l] st = .ok (Ynu k l xs.length) st := by
 unfold YnR
 rw [ZAG (show YnC [P.ref k, P.ref l] = true from rfl)]
 unfold YoT
 show 127
 rw [h1, h2]
end
section
variable {X : Cx}
end
section
variable {X : Cx}
def Yqa : GM := fun p ps st => match p, ps with
 | .ref k, [] => (match YlQ st k with
  | some xs => (match xs[xs.length - 1]? with
   | some y => some (y, st.set k (.lst xs.dropLast))
   | none => none)
  | none => none)
 | _, _ => none
theorem Dens.dropLast {K : Frag} {as : List Addr} {H : Hp} : ∀ {vs : List V} {xs : List P}, Dens K as H vs xs -> Dens K as H vs.dropLast xs.dropLast
 | [], [], _ => .nil
 | [_], [_], _ => .nil
 | v :: v2 :: vs, x :: x2 :: xs, d => by
  cases d with
  | cons d1 d2 =>
   have ih := Dens.dropLast d2
   exact .cons d1 ih
 | [], _ :: _, d => nomatch d
 | _ :: _, [], d => nomatch d
 | [_], _ :: _ :: _, d => by cases d with | cons _ d2 => cases d2
 | _ :: _ :: _, [_], d => by cases d with | cons _ d2 => cases d2
def Ym5 : GM := fun p ps st => match p, ps with
 | .ref k, [.ref l] => (match YlQ st k, YlQ st l with
  | some xs, some ys => if xs.length + ys.length <= cap then some (.non, st.set k (.lst (xs ++ ys))) else none
  | _, _ => none)
 | _, _ => none
theorem YeM : MtR X "list.extend" (rMM X Ym5) := mM fun pins s σ H x xs v us Q as st p ps I rx rv rp d1 d2 h => by
 match p, ps, d1, d2, h with
 | .ref k, [.ref l], d1, d2, h =>
  have h' : YlL X as H (match YlQ st k, YlQ st l with | some xs, some ys => if xs.length + ys.length <= cap then some (.non, st.set k (.lst (xs ++ ys))) else none | _, _ => none) Q := h
  cases z : YlQ st k with
  | none => rw [z] at h'; exact h'.elim
  | some ys =>
   cases z2 : YlQ st l with
   | none => rw [z, z2] at h'; exact h'.elim
   | some zs =>
    rw [z, z2] at h'
    dsimp only at h'
    obtain ⟨a, vs, rfl, e, hk, h1, h2⟩ := VV rp d1 z
    obtain ⟨y, rfl, dy⟩ := d2.one
    obtain ⟨b, ws, rfl, e', hk', h1', h2'⟩ := VV rp dy z2
    by_cases hl : ys.length + zs.length <= cap
    ·rw [ZAG hl] at h'
     exact YeW pins s σ H _ _ v us Q I rx rv ⟨a, b, vs, ws, rfl, rfl, h1, h1', by rw [h2.length, h2'.length]; exact ZAR hl Yp, h' as _ _ (Ext.write h1 trivial) (rp.lset e h1 hk (h2.append h2')) .non⟩
    ·rw [ZAF hl] at h'; exact h'.elim
 | .ref k, [.non], _, _, h => show 124
 | .ref k, [.bl _], _, _, h => show 124
 | .ref k, [.int _], _, _, h => show 124
 | .ref k, [.str _], _, _, h => show 124
 | .ref k, [.tup _], _, _, h => show 124
 | .ref k, [], _, _, h => show 124
 | .ref k, _ :: _ :: _, _, _, h => exact (by simp only [Ym5] at h; exact h.elim)
 | .non, _, _, _, h => show 124
 | .bl _, _, _, _, h => show 124
 | .int _, _, _, _, h => show 124
 | .str _, _, _, _, h => show 124
 | .tup _, _, _, _, h => show 124
def YoF : GC := fun ps st => match ps with
 | [.int i] => okP (.int i) st
 | [.bl k] => okP (.int (if k then 1 else 0)) st
 | _ => none
theorem Yki : Yl0 X (.type "int") (rMC X YoF) := by
 intro pins s σ H xs us Q I r ⟨as, st, ps, rp, d, h⟩
 match ps, d, h with
 | [.int i], d, h =>
  show 196
  cases dx
  exact YaW pins s σ H _ us Q I r (.inl ⟨i, rfl, h as H _ Ext.refl rp .int⟩)
 | [.bl k], d, h =>
  show 196
  cases dx
  exact YaW pins s σ H _ us Q I r (.inr ⟨k, rfl, h as H _ Ext.refl rp .int⟩)
 | [], _, h => show 124
 | [.non], _, h => show 124
 | [.str _], _, h => show 124
 | [.tup _], _, h => show 124
 | [.ref _], _, h => show 124
 | _ :: _ :: _, _, h => exact (by simp only [YoF] at h; exact h.elim)
def Ymn {α : Type} (is : List Nat) (xs : List α) : List α := is.filterMap fun i => xs[i]?
def YmM (n : Nat) (lo hi : Option Int) (c : Int) : List Nat := sliceRange (sliceBounds lo hi (some c) n).1 (sliceBounds lo hi (some c) n).2.1 (sliceBounds lo hi (some c) n).2.2
theorem Ya1 {xs : List V} {its : List Value} (r : Vals xs its) : ∀ is : List Nat, Vals (Ymn is xs) (Ymn is its)
 | [] => .nil
 | i :: is => by
  have ih := Ya1 r is
  unfold Ymn at ih ⊢
  cases q : xs[i]? with
  | none =>
   have : its[i]? = none := ZAr (by rw [<- r.length]; exact ZAn.mp q)
   rw [ZBY q, ZBY this]
   exact ih
  | some x =>
   obtain ⟨u, hu, ru⟩ := r.get q
   rw [ZBZ q, ZBZ hu]
   exact .cons ru ih
theorem YaP {K : Frag} {as : List Addr} {H : Hp} {vs : List V} {xs : List P} (d : Dens K as H vs xs) : ∀ is : List Nat, Dens K as H (Ymn is vs) (Ymn is xs)
 | [] => .nil
 | i :: is => by
  have ih := YaP d is
  unfold Ymn at ih ⊢
  cases q : xs[i]? with
  | none =>
   have : vs[i]? = none := ZAr (by rw [d.length]; exact ZAn.mp q)
   rw [ZBY q, ZBY this]
   exact ih
  | some x =>
   obtain ⟨u, hu, ru⟩ := d.get q
   rw [ZBZ q, ZBZ hu]
   exact .cons ru ih
theorem Yac (its : List Value) (lo hi : Option Int) (c : Int) : slicePick its.toArray lo hi (some c) = (Ymn (YmM its.length lo hi c) its).toArray := by
 unfold slicePick Ymn YmM
 simp
variable {e es : Expr} {lo hi : Option Expr} {pos p2 : Pos}
end
section
variable {ρ : Rho} {st : Yls}
theorem Ycr {k l : Nat} {xs ys : List P} (h : st[k]? = some (.lst xs)) (h2 : st[l]? = some (.lst ys)) (hl : xs.length + ys.length <= 1000000) : Ym5 (.ref k) [.ref l] st = some (.non, st.set k (.lst (xs ++ ys))) := by
 have e : YlQ st k = some xs := by unfold YlQ; rw [h]
 have e2 : YlQ st l = some ys := by unfold YlQ; rw [h2]
 show (match YlQ st k, YlQ st l with | some xs, some ys => if xs.length + ys.length <= cap then some (P.non, st.set k (.lst (xs ++ ys))) else none | _, _ => none) = _
 rw [e, e2]
 show 127
 rw [ZAG (show xs.length + ys.length <= cap from hl)]
theorem Yff {b : Bool} : YoF [.bl b] st = some (.int (if b then 1 else 0), st) := rfl
end
section
variable {X : Cx}
end
section
variable {X : Cx}
end
theorem Wa : entryFor table "dict.update.loop" = some Builtin.«dict.update.loop» := entryFor_of_tree (by kernel_rfl)
theorem Y2 : plainId "dict.update.loop" = true := by decide +kernel
section
variable {prog : Program} {w : World} {A : Around} {E : VSP} {s : Shared}
end
section
variable {prog : Program} {w : World} {A : Around} {R : Result -> Shared -> Prop} {I : Addr} {fp wr : List Addr} {G : Array GenState -> Array GenState -> Prop} {P : Nat -> Value -> Prop} {St : Nat -> Shared -> Prop}
def storeAll (prs : List (Key × Value)) : List (Key × Value) := prs.foldl (fun acc p => stored acc p.1 p.2) []
theorem Yat (prs : List (Key × Value)) (p : Key × Value) : storeAll (prs ++ [p]) = stored (storeAll prs) p.1 p.2 := by simp [storeAll, List.foldl_append]
theorem Yc5 (kvs : List (Key × Value)) (k : Key) (v : Value) : (stored kvs k v).length <= kvs.length + 1 := by
 unfold stored
 split
 ·simp
 ·simp
theorem Vg (prs : List (Key × Value)) : (storeAll prs).length <= prs.length := by
 have : ∀ (prs acc : List (Key × Value)), (prs.foldl (fun acc p => stored acc p.1 p.2) acc).length <= acc.length + prs.length := by
  intro prs
  induction prs with
  | nil => intro acc; simp
  | cons p r ih =>
   intro acc
   have h1 := ih (stored acc p.1 p.2)
   have h2 := Yc5 acc p.1 p.2
   rw [ZA2, ZA4]
   omega
 have h := this prs []
 rw [List.length_nil, Nat.zero_add] at h
 exact h
def YnA (prog : Program) (w : World) (P : Nat -> Value -> Prop) (no : List Addr) (prs : List (Key × Value)) (h : Heap) : Prop :=
 ∀ i v, P i v -> ∃ t k key val, v = .ref t /\ t ∉ no /\ IsTup h t #[key, val] /\ prs[i]? = some (k, val) /\ (YlC prog w).is k key = true
theorem YnA.keep {no : List Addr} {prs : List (Key × Value)} {h h' : Heap} (x : YnA prog w P no prs h) (k : ∀ b o, b ∉ no -> h.get? b = some o -> h'.get? b = some o) : YnA prog w P no prs h' := fun i v hv => by
 obtain ⟨t, kk, key, val, e1, e2, ⟨o, ho, c⟩, e4, e5⟩ := x i v hv
 exact ⟨t, kk, key, val, e1, e2, ⟨o, k t o e2 ho, c⟩, e4, e5⟩
end
section
variable {prog : Program} {w : World} {A : Around} {E : VSP} {s : Shared}
theorem PlainL.keep {h h' : Heap} {a : Addr} {xs : Array Value} (x : PlainL h a xs) (k : ∀ o, h.get? a = some o -> h'.get? a = some o) : PlainL h' a xs :=
 let ⟨o, n, e, c⟩ := x; ⟨o, n, k o e, c⟩
end
def You (prs : List (Key × V)) : List (Key × V) := prs.foldl (fun acc q => L2.putK acc q.1 q.2) []
def Yoe (prs : List (Key × P)) : List (Key × P) := prs.foldl (fun acc q => Yma acc q.1 q.2) []
section
variable {X : Cx} {pins : LAO} {σ : St} {H : Hp} {s : Shared}
theorem YiA {prs : List (Key × V)} {pv : List (Key × Value)} (r : KV prs pv) : ∀ {a : List (Key × V)} {b : List (Key × Value)}, KV a b -> KV (prs.foldl (fun acc q => L2.putK acc q.1 q.2) a) (pv.foldl (fun acc p => stored acc p.1 p.2) b) := by
 unfold KV at r
 induction r with
 | nil => exact fun h => h
 | @cons p q ps qs r1 r2 ih =>
  intro a b h
  rw [ZA2, ZA2]
  refine ih ?_
  rw [<- r1.1]
  exact KV.put h p.1 r1.2
end
section
variable {X : Cx} {e : Expr} {m : MA} {p pos : Pos}
theorem YfN {K : Frag} {as : List Addr} {H : Hp} : ∀ {prs : List (Key × V)} {kvs : List (Key × P)} {a : List (Key × V)} {b : List (Key × P)}, prs.map (·.1) = kvs.map (·.1) -> Dens K as H (prs.map (·.2)) (kvs.map (·.2)) -> a.map (·.1) = b.map (·.1) -> Dens K as H (a.map (·.2)) (b.map (·.2)) ->
 (prs.foldl (fun acc q => L2.putK acc q.1 q.2) a).map (·.1) = (kvs.foldl (fun acc q => Yma acc q.1 q.2) b).map (·.1) /\ Dens K as H ((prs.foldl (fun acc q => L2.putK acc q.1 q.2) a).map (·.2)) ((kvs.foldl (fun acc q => Yma acc q.1 q.2) b).map (·.2)) := by
 intro prs
 induction prs with
 | nil =>
  intro kvs a b h1 h2 h3 h4
  cases kvs with
  | nil => exact ⟨h3, h4⟩
  | cons c d => simp at h1
 | cons q qs ih =>
  intro kvs a b h1 h2 h3 h4
  cases kvs with
  | nil => simp at h1
  | cons c d =>
   simp only [List.map_cons, List.cons.injEq] at h1
   cases h2 with
   | cons d1 d2 =>
    have := Ya8 (k := q.1) d1 h3 h4
    rw [ZA2, ZA2]
    rw [h1.1] at this ⊢
    exact ih h1.2 d2 this.1 this.2
end
def Yox (k : Nat) (st : Yls) : Option (P × Yls) := match listAt st k with
 | some xs => (match Ynk xs with
  | some ns => okP (.int ns.sum) st
  | none => none)
 | none => none
def Yoq : GC := fun ps st => match ps with
 | [.ref k] => Yox k st
 | _ => none
section
variable {X : Cx}
theorem Yhg (hc : X.calm = true) : Yl0 X (.builtin "sum") (rMC X Yoq) := cM fun pins s σ H xs us Q as st ps I rv rp d h => by
 match ps, d, h with
 | [], _, h => show 124
 | _ :: _ :: _, _, h => exact (by simp only [Yoq] at h; exact h.elim)
 | [.ref k], d, h =>
  show 236
  have h' : YlL X as H (Yox k st) Q := h
  unfold Yox at h'
  cases q : listAt st k with
  | none => show 186
  | some xs =>
   rw [q] at h'
   dsimp only at h'
   cases qi : Ynk xs with
   | none => rw [qi] at h'; exact h'.elim
   | some ns =>
    rw [qi] at h'
    dsimp only at h'
    cases d1 with
    | @ref _ a e =>
     obtain ⟨vs, sq, r⟩ := YV rp e q
     exact YeO hc pins s σ H _ us Q I rv ⟨a, vs, ns, rfl, sq, fun us r' => Ydp r r' qi, h' as H _ Ext.refl rp .int⟩
 | [.non], _, h => show 124
 | [.bl _], _, h => show 124
 | [.int _], _, h => show 124
 | [.str _], _, h => show 124
 | [.tup _], _, h => show 124
end
theorem Yan : typeLookup (.type "zip") "keys" = pure none := by rw [typeLookup_type, builtinLookup_eq_fast]; kernel_rfl
theorem VX : typeLookup (.type "zip") "__getattr__" = pure none := by rw [typeLookup_type, builtinLookup_eq_fast]; kernel_rfl
theorem Z1 : entryFor table "zip.__getattribute__" = some Builtin.«object.__getattribute__» :=
 entryFor_alias (id' := "object.__getattribute__") (by kernel_rfl) (by decide +kernel) (by decide +kernel) (by kernel_rfl)
theorem Jx (a : Addr) (fs : Array Value) (name : Str) (u : Tok) (hmiss : typeLookup (.type "zip") name = pure none) (hname : (["__module__", "__name__", "__qualname__", "__doc__", "__annotations__"] : List Str).contains name = false) (hsz : name.length + 100 <= sizeLine := by size_fits) :
 Meets (Builtin.«object.__getattribute__» ⟨[.ref a, .str name u], []⟩) (fun A R s => s.heap.get? a = some { cls := .type "zip", dict := none, data := .fields fs, slots := #[] } /\ raisesAttr (.ref a) name A R s) :=
 Meets.of_wp fun prog w A R s hs => by
  obtain ⟨hp, g, d, tk, os⟩ := s
  obtain ⟨hx, hs⟩ := hs
  have hT : (⟨hp, g, d, tk, os⟩ : Shared).TypeIs (.ref a) "zip" := ⟨_, hx, rfl⟩
  unfold Builtin.«object.__getattribute__»
  show 159
  simp only [hname, Bool.false_eq_true, if_false]
  show 159
  exact wpAny_raiseAttrError hs.1 hs.2 (attrMsg_fits (by decide +kernel) hsz)
section
variable {prog : Program} {w : World} {A : Around} {E : VSP} {s : Shared}
theorem Jw {a : Addr} {fs : Array Value} {Q : Option Value -> Shared -> Prop} (hx : s.heap.get? a = some { cls := .type "zip", dict := none, data := .fields fs, slots := #[] }) (hA : A.handled = none)
 (h : ∀ h' tk, (∀ b o, s.heap.get? b = some o -> h'.get? b = some o) -> Q none { s with heap := h', toks := tk }) : wpAny (model prog w) A (getAttr? (.ref a) "keys") Q E s := by
 obtain ⟨hp, g, d, tk, os⟩ := s
 have hT : ∀ tk', (⟨hp, g, d, tk', os⟩ : Shared).TypeIs (.ref a) "zip" := fun _ => ⟨_, hx, rfl⟩
 have f1 := sub_AttributeError
 have f3 := F.slot_zip_getattribute.lookup
 have f4 := F.slot_zip_getattribute.bind (.ref a)
 have f5 := VX
 unfold getAttr? getAttrBy? getAttrBy
 repeat (any_goals (first | assumption | exact hT _ | ((with_reducible show wpAny _ _ (call (Value.builtin "zip.__getattribute__") _ _) _ _ _); refine call_meets F.slot_zip_getattribute (hT _) Z1 (F.args_zip_getattribute_2 _ _) (Jx a fs "keys" _ Yan (by decide +kernel)) ⟨hx, hA, fun h' tk' e hx' => ?_⟩) | wp_step))
 obtain ⟨t', u', he⟩ := hx'.there
 show wpAny _ _ (getattributeRaised _ _ _ _ _ _ _) _ _ _
 unfold getattributeRaised
 show 159
 exact h _ _ hx'.keeps
abbrev Ymz (h : Heap) (z TI TO a : Addr) (f : Bool) : Prop := h.get? z = some { cls := .type "zip", dict := none, data := .fields #[rawInt a, .bool f, .bool false, .ref TI, .ref TO], slots := #[] }
theorem Yam {M : Model} {a : Addr} {Q : Option Obj -> Shared -> Prop} (h : Q (s.heap.get? a) s) : wpAny M A (loadIfAlive a) Q E s := fun _ _ _ => h
theorem busy {z TI TO a : Addr} {f : Bool} {Q : Bool -> Shared -> Prop} (hz : Ymz s.heap z TI TO a f) (ha : ∃ o, s.heap.get? a = some o) (hQ : ∀ h', Ymz h' z TI TO a true -> Heap.SameBut z s.heap h' -> Q false { s with heap := h' }) : wpAny (model prog w) A (Builtin.SmallTypes.ownedTupleIsFree (.ref z)) Q E s := by
 unfold Builtin.SmallTypes.ownedTupleIsFree
 refine ZAA (ZAl hz rfl (x := rawInt a) rfl ?_)
 show wpAny _ _ (loadIfAlive a >>= _) _ _ _
 obtain ⟨o, ho⟩ := ha
 refine ZAA (Yam ?_)
 rw [ho]
 show wpAny _ _ (field (.ref z) 1 >>= _) _ _ _
 refine ZAA (ZAl hz rfl (x := .bool f) rfl ?_)
 cases f with
 | true => exact ZAB (hQ s.heap hz ⟨rfl, fun _ _ => rfl⟩)
 | false =>
  show wpAny _ _ (setField (.ref z) 1 (.bool true) >>= _) _ _ _
  exact wpAny_bind (wpAny_setField_rec hz (by simp) fun g1 hz1 e1 => wpAny_pure (hQ g1 hz1 e1))
end
section
variable {prog : Program} {w : World} {A : Around} {E : VSP} {s : Shared} {z TI TO i1 i2 al : Addr} {fl : Bool} {f1 f2 : List Addr} {n1 n2 k : Nat} {P1 P2 : Nat -> Value -> Prop} {S1 S2 : Nat -> Heap -> Prop}
theorem Yd0 {Q : VSP} (D1 : Draws prog w A i1 f1 n1 P1 S1) (D2 : Draws prog w A i2 f2 n2 P2 S2) (D : Yog z TI TO i1 i2 f1 f2)
 (hz : Ymz s.heap z TI TO al fl) (ha : ∃ o, s.heap.get? al = some o) (hTI : IsPair s.heap TI (.ref i1) (.ref i2)) (h1 : S1 k s.heap) (h2 : S2 k s.heap) (k1 : k < n1) (k2 : k < n2)
 (hQ : ∀ x y h' tk, P1 k x -> P2 k y -> Ymz h' z TI TO al true -> S1 (k + 1) h' -> S2 (k + 1) h' -> IsPair h' s.heap.objs.size x y -> h'.objs.size = s.heap.objs.size + 1 ->
  (∀ c o, c ≠ z -> c ≠ i1 -> c ≠ i2 -> s.heap.get? c = some o -> h'.get? c = some o) -> Q (.ref s.heap.objs.size) { s with heap := h', toks := tk }) :
 wpAny (model prog w) A (Builtin.«zip.__next__» ⟨[.ref z], []⟩) (fun fin s' => ∃ v, fin = .done (.ret v) /\ Q v s') E s := by
 show 71
 refine ZAA (busy hz ha fun g1 hz1 e1 => ?_)
 show 220
 rw [<- Array.forIn_toList]
 simp only [List.forIn_cons, List.forIn_nil]
 refine ZAA (ZAA (ZAA (ZAd ?_)))
 show 207
 refine ZAA (D1.item k { s with heap := g1 } _ _ k1 (YG D1 h1 e1.extBut D.z1) fun x g2 tk1 px s1 e2 => ZAB (ZAB ?_))
 refine ZAA (ZAA (ZAd ?_))
 show wpAny _ _ (Builtin.SmallTypes.nextOf (.ref i2) >>= _) _ _ _
 refine ZAA (D2.item k { s with heap := g2, toks := tk1 } _ _ k2 (YG D2 (YG D2 h2 e1.extBut D.z2) e2.extBut D.x2) fun y g3 tk2 py s2 e3 => ZAB (ZAB ?_))
 show 150
 show wpAny _ _ (newTuple [x, y] >>= _) _ _ _
 refine ZAA (wpAny_newTuple ?_)
 have sz : g3.objs.size = s.heap.objs.size := by rw [e3.1, e2.1, e1.1]
 have hz3 : Ymz g3 z TI TO al true := e3.extBut _ _ D.ap.i2z.symm (e2.extBut _ _ D.ap.i1z.symm hz1)
 have kp : ∀ c o, c ≠ z -> c ≠ i1 -> c ≠ i2 -> s.heap.get? c = some o -> g3.get? c = some o := fun c o c1 c2 c3 e => e3.extBut _ _ c3 (e2.extBut _ _ c2 (e1.extBut _ _ c1 e))
 have s13 : S1 (k + 1) g3 := YG D1 s1 e3.extBut D.x1
 refine ZAB ⟨_, rfl, ?_⟩
 show Q (.ref g3.objs.size) _
 rw [sz]
 have hp : ∀ c o, g3.get? c = some o -> (g3.push { cls := .type "tuple", data := .seq #[x, y] }).get? c = some o := fun c o e => ZAC _ e
 have ht : IsPair (g3.push { cls := .type "tuple", data := .seq #[x, y] }) s.heap.objs.size x y := by rw [<- sz]; exact ZAK _ rfl
 exact hQ x y _ tk2 px py (hp _ _ hz3) (D1.frame _ _ _ s13 fun c _ o e => hp c o e) (D2.frame _ _ _ s2 fun c _ o e => hp c o e) ht (by rw [ZAa, sz]) fun c o c1 c2 c3 e => hp c o (kp c o c1 c2 c3 e)
theorem Yba {Q : Option Value -> Shared -> Prop} (D1 : Draws prog w A.in1 i1 f1 n1 P1 S1) (D2 : Draws prog w A.in1 i2 f2 n2 P2 S2) (D : Yog z TI TO i1 i2 f1 f2)
 (hz : Ymz s.heap z TI TO al fl) (ha : ∃ o, s.heap.get? al = some o) (hTI : IsPair s.heap TI (.ref i1) (.ref i2)) (h1 : S1 k s.heap) (h2 : S2 k s.heap) (k1 : k < n1) (k2 : k < n2)
 (hQ : ∀ x y h' tk, P1 k x -> P2 k y -> Ymz h' z TI TO al true -> S1 (k + 1) h' -> S2 (k + 1) h' -> IsPair h' s.heap.objs.size x y -> h'.objs.size = s.heap.objs.size + 1 ->
  (∀ c o, c ≠ z -> c ≠ i1 -> c ≠ i2 -> s.heap.get? c = some o -> h'.get? c = some o) -> Q (some (.ref s.heap.objs.size)) { s with heap := h', toks := tk }) :
 wpAny (model prog w) A (pyNext (.ref z)) Q E s := by
 show 52
 exact ZAA (ZBU (wpAny_callSpecial?_slot (name := Str.ofString "__next__") hT F.slot_zip_next
  (ZAe F.slot_zip_next hT F.entry_zip_next
   (Yd0 D1 D2 D hz ha hTI h1 h2 k1 k2 fun x y h' tk c1 c2 a1 a2 a3 a4 a5 a6 => ZAB (hQ x y h' tk c1 c2 a1 a2 a3 a4 a5 a6)) (F.args_zip_next_1 _))))
theorem Yhh {Q : Fin -> Shared -> Prop} (D1 : Draws prog w A i1 f1 n1 P1 S1) (D : ZAp z TI TO i1 i2) (az1 : z ∉ f1)
 (hz : Ymz s.heap z TI TO al fl) (ha : ∃ o, s.heap.get? al = some o) (hTI : IsPair s.heap TI (.ref i1) (.ref i2)) (h1 : S1 n1 s.heap)
 (hE : ∀ h' e, (∀ c o, c ≠ z -> c ≠ i1 -> c ≠ i2 -> s.heap.get? c = some o -> h'.get? c = some o) -> (∃ o, h'.get? e = some o /\ o.cls = .type "StopIteration") -> E (.ref e) { s with heap := h' }) :
 wpAny (model prog w) A (Builtin.«zip.__next__» ⟨[.ref z], []⟩) Q E s := by
 show 71
 refine ZAA (busy hz ha fun g1 hz1 e1 => ?_)
 show 220
 rw [<- Array.forIn_toList]
 simp only [List.forIn_cons, List.forIn_nil]
 refine ZAA (ZAA (ZAA (ZAd ?_)))
 show 207
 refine ZAA (D1.done { s with heap := g1 } _ _ (YG D1 h1 e1.extBut az1) fun g2 e e2 he => ?_)
 exact hE g2 e (fun c o c1 c2 c3 q => e2 _ _ c2 (e1.extBut _ _ c1 q)) he
theorem Ycx {Q : Option Value -> Shared -> Prop} (D1 : Draws prog w A.in1 i1 f1 n1 P1 S1) (D : ZAp z TI TO i1 i2) (az1 : z ∉ f1)
 (hz : Ymz s.heap z TI TO al fl) (ha : ∃ o, s.heap.get? al = some o) (hTI : IsPair s.heap TI (.ref i1) (.ref i2)) (h1 : S1 n1 s.heap)
 (hQ : ∀ h', (∀ c o, c ≠ z -> c ≠ i1 -> c ≠ i2 -> s.heap.get? c = some o -> h'.get? c = some o) -> Q none { s with heap := h' }) : wpAny (model prog w) A (pyNext (.ref z)) Q E s := by
 show 52
 refine ZAA (ZBU (wpAny_callSpecial?_slot (name := Str.ofString "__next__") hT F.slot_zip_next
  (ZAe F.slot_zip_next hT F.entry_zip_next (Yhh D1 D az1 hz ha hTI h1 fun h' e kp he => ?_) (F.args_zip_next_1 _))))
 obtain ⟨o, ho, hc⟩ := he
 exact ZAA (ZBn (T := "StopIteration") (b := true) ⟨o, ho, hc⟩ isSubtype_stop (ZAB (hQ h' kp)))
def ZSt (z TI TO i1 i2 : Addr) (lo : Addr) (S1 S2 : Nat -> Heap -> Prop) (i : Nat) (h : Heap) : Prop :=
 (IsZip h z TI TO .none \/ ∃ a f, Ymz h z TI TO a f /\ lo <= a /\ ∃ o, h.get? a = some o) /\ IsPair h TI (.ref i1) (.ref i2) /\ (∃ x y, IsPair h TO x y) /\ S1 i h /\ S2 i h
theorem YgR {Q : Option Value -> Shared -> Prop} {lo : Addr} (D1 : Draws prog w A.in1 i1 f1 n1 P1 S1) (D2 : Draws prog w A.in1 i2 f2 n2 P2 S2) (D : Yog z TI TO i1 i2 f1 f2) (hlo : lo <= s.heap.objs.size) (lz : z < lo) (l1 : i1 < lo) (l2 : i2 < lo)
 (st : ZSt z TI TO i1 i2 lo S1 S2 k s.heap) (k1 : k < n1) (k2 : k < n2)
 (hQ : ∀ x y h' tk, P1 k x -> P2 k y -> ZSt z TI TO i1 i2 lo S1 S2 (k + 1) h' -> IsPair h' s.heap.objs.size x y -> h'.objs.size = s.heap.objs.size + 1 ->
  (∀ c o, c ≠ z -> c ≠ TO -> c ≠ i1 -> c ≠ i2 -> s.heap.get? c = some o -> h'.get? c = some o) -> Q (some (.ref s.heap.objs.size)) { s with heap := h', toks := tk }) :
 wpAny (model prog w) A (pyNext (.ref z)) Q E s := by
 obtain ⟨hz, hTI, ⟨u, v, hTO⟩, h1, h2⟩ := st
 rcases hz with hz | ⟨a, f, hz, la, ha⟩
 ·refine Va D1 D2 D hz hTI hTO h1 h2 k1 k2 fun x y h' tk p1 p2 b1 b2 b3 b4 b5 b6 kp => hQ x y h' tk p1 p2 ⟨.inr ⟨s.heap.objs.size, false, b1, hlo, _, b5⟩, kp _ _ D.ap.TIz D.ap.TITO D.ap.TIi1 D.ap.TIi2 hTI, ⟨_, _, b2⟩, b3, b4⟩ b5 b6 kp
 ·obtain ⟨o, ho⟩ := ha
  refine Yba D1 D2 D hz ⟨o, ho⟩ hTI h1 h2 k1 k2 fun x y h' tk p1 p2 b1 b3 b4 b5 b6 kp => hQ x y h' tk p1 p2 ⟨.inr ⟨a, true, b1, la, ?_⟩, kp _ _ D.ap.TIz D.ap.TIi1 D.ap.TIi2 hTI, ⟨_, _, kp _ _ D.ap.TOz D.ap.TOi1 D.ap.TOi2 hTO⟩, b3, b4⟩ b5 b6 fun c o c1 _ c3 c4 e => kp c o c1 c3 c4 e
  exact ⟨o, kp a o (ZA5 (ZAM lz la)) (ZA5 (ZAM l1 la)) (ZA5 (ZAM l2 la)) ho⟩
theorem YhB {Q : Option Value -> Shared -> Prop} {lo : Addr} (D1 : Draws prog w A.in1 i1 f1 n1 P1 S1) (D : ZAp z TI TO i1 i2) (az1 : z ∉ f1) (st : ZSt z TI TO i1 i2 lo S1 S2 n1 s.heap)
 (hQ : ∀ h' tk, (∀ c o, c ≠ z -> c ≠ TO -> c ≠ i1 -> c ≠ i2 -> s.heap.get? c = some o -> h'.get? c = some o) -> Q none { s with heap := h', toks := tk }) : wpAny (model prog w) A (pyNext (.ref z)) Q E s := by
 obtain ⟨hz, hTI, ⟨u, v, hTO⟩, h1, h2⟩ := st
 rcases hz with hz | ⟨a, f, hz, la, ha⟩
 ·exact Wm D1 D az1 hz hTI hTO h1 (.inl rfl) hQ
 ·exact Ycx D1 D az1 hz ha hTI h1 fun h' kp => hQ h' s.toks fun c o c1 _ c3 c4 e => kp c o c1 c3 c4 e
theorem ZSt.keep {lo : Addr} {h h' : Heap} {d : Addr} {i : Nat} (D1 : Draws prog w A i1 f1 n1 P1 S1) (D2 : Draws prog w A i2 f2 n2 P2 S2) (st : ZSt z TI TO i1 i2 lo S1 S2 i h) (e : ∀ b o, b ≠ d -> h.get? b = some o -> h'.get? b = some o) (dz : z ≠ d) (dTI : TI ≠ d) (dTO : TO ≠ d) (d1 : d ∉ f1) (d2 : d ∉ f2) (dl : d < lo) : ZSt z TI TO i1 i2 lo S1 S2 i h' := by
 obtain ⟨hz, hTI, ⟨u, v, hTO⟩, h1, h2⟩ := st
 refine ⟨?_, e _ _ dTI hTI, ⟨u, v, e _ _ dTO hTO⟩, D1.frame _ _ _ h1 fun b hb o q => e b o (fun z => d1 (z ▸ hb)) q, D2.frame _ _ _ h2 fun b hb o q => e b o (fun z => d2 (z ▸ hb)) q⟩
 rcases hz with hz | ⟨a, f, hz, la, o, ho⟩
 ·exact .inl (e _ _ dz hz)
 ·exact .inr ⟨a, f, e _ _ dz hz, la, o, e a o (ZA5 (ZAM dl la)) ho⟩
end
section
variable {prog : Program} {w : World} {A : Around} {R : Result -> Shared -> Prop} {z TI TO i1 i2 : Addr} {f1 f2 : List Addr} {P1 P2 : Nat -> Value -> Prop} {S1 S2 : Nat -> Heap -> Prop}
theorem JQ {prs : List (Key × Value)} (D1 : Draws prog w A.in1.in1 i1 f1 prs.length P1 S1) (D2 : Draws prog w A.in1.in1 i2 f2 prs.length P2 S2) (D : Yog z TI TO i1 i2 f1 f2) (d lo : Addr) (dz : z ≠ d) (dTI : TI ≠ d) (dTO : TO ≠ d) (di1 : i1 ≠ d) (di2 : i2 ≠ d) (d1 : d ∉ f1) (d2 : d ∉ f2) (dl : d < lo) (lz : z < lo) (l1 : i1 < lo) (l2 : i2 < lo)
 (hp : ∀ i x y, P1 i x -> P2 i y -> ∃ k, prs[i]? = some (k, y) /\ (YlC prog w).is k x = true) (hb : prs.length <= sizeLine) :
 ∀ (k i : Nat) (s : Shared) (c : Int) (u : Tok), prs.length - i = k -> i <= prs.length -> lo <= s.heap.objs.size -> ZSt z TI TO i1 i2 lo S1 S2 i s.heap -> s.heap.DictOf (YlC prog w) d (storeAll (prs.take i)) ->
  (∀ h' tk, h'.DictOf (YlC prog w) d (storeAll prs) -> (∀ b o, b ≠ d -> b ≠ z -> b ≠ TO -> b ≠ i1 -> b ≠ i2 -> s.heap.get? b = some o -> h'.get? b = some o) -> R (.ok (.ret .none)) { s with heap := h', toks := tk }) -> codeAny (model prog w) A (.builtin "dict.update.loop" ⟨[.ref d, .ref z, .int c u, .none], []⟩) R s := by
 intro k
 induction k with
 | zero =>
  intro i s c u hk hi hlo hst D0 hR
  have e : i = prs.length := by omega
  subst e
  rw [ZAs] at D0
  refine codeAny_builtin Wa ?_
  rw [Around.under_plainId Y2 _]
  show wpAny _ A.in1 (pyNext (.ref z) >>= _) _ _ s
  refine ZAA (YhB D1 D.ap D.z1 hst fun h' tk kp => ?_)
  show wpAny _ A.in1 (Builtin.Dict.addKeywords d [] >>= _) _ _ _
  show 198
  show wpAny _ A.in1 (ret Value.none) _ _ _
  obtain ⟨o, es, ep, ho, r⟩ := D0
  exact ZAB (hR h' tk ⟨o, es, ep, kp d o dz.symm dTO.symm di1.symm di2.symm ho, r⟩ fun b o b0 b1 b2 b3 b4 e => kp b o b1 b2 b3 b4 e)
 | succ k ih =>
  intro i s c u hk hi hlo hst D0 hR
  have hlt : i < prs.length := by omega
  refine codeAny_builtin Wa ?_
  rw [Around.under_plainId Y2 _]
  show wpAny _ A.in1 (pyNext (.ref z) >>= _) _ _ s
  refine ZAA (YgR D1 D2 D hlo lz l1 l2 hst hlt hlt fun x y h' tk p1 p2 st' ht hsz kp => ?_)
  obtain ⟨kk, hpr, hkey⟩ := hp i x y p1 p2
  have D' : h'.DictOf (YlC prog w) d (storeAll (prs.take i)) := by
   obtain ⟨o, es, ep, ho, r⟩ := D0
   exact ⟨o, es, ep, kp d o dz.symm dTO.symm di1.symm di2.symm ho, r⟩
  have hT : Shared.TypeIs { s with heap := h', toks := tk } (.ref s.heap.objs.size) "tuple" := ⟨_, ht, rfl⟩
  show wpAny _ A.in1 (holding [Value.ref s.heap.objs.size] _ >>= _) _ _ _
  refine ZAA (ZAd ?_)
  refine ZAA (wpAny_tryCatch ?_)
  unfold Builtin.Dict.pairItems
  refine ZAA (ZBO hT ?_)
  show 181
  refine ZAA (ZAy ht rfl ?_)
  show 150
  show wpAny _ A.in1 (holding [x, y] (dictSet d x y)) _ _ _
  have room : (storeAll (prs.take i)).length <= sizeLine := by
   have := Vg (prs.take i)
   rw [ZAm] at this
   omega
  refine ZAd (wpAny_dictSet_pairs hkey D' (fun h2 D2' sb => ?_) room)
  have D3 : h2.DictOf (YlC prog w) d (storeAll (prs.take (i + 1))) := by
   rw [ZAv, hpr]
   simp only [Option.toList_some]
   rw [Yat]
   exact D2'
  have sk : ∀ b o, b ≠ d -> h'.get? b = some o -> h2.get? b = some o := fun b o hb e => by rw [sb.2 b hb]; exact e
  refine ZAB ⟨plainId_quiet Y2 _, ih (i + 1) _ _ _ (by omega) hlt ?_ (ZSt.keep D1 D2 st' sk dz dTI dTO d1 d2 dl) D3 fun h3 tk3 D4 k3 => ?_⟩
  ·show lo <= h2.objs.size
   rw [sb.1, hsz]
   exact Nat.le_succ_of_le hlo
  ·exact hR h3 tk3 D4 fun b o b0 b1 b2 b3 b4 e => k3 b o b0 b1 b2 b3 b4 (sk b o b0 (kp b o b1 b2 b3 b4 e))
end
section
variable {prog : Program} {w : World} {A : Around} {E : VSP} {s : Shared}
theorem Yer (hh : A.handled = none) (it : Addr) (x : Str) (t : Tok) : Draws prog w A it [it] x.cps.size (fun i v => ∃ c u, x.cps[i]? = some c /\ v = .str ⟨#[c]⟩ u) (fun i h => h.IsStrIter it (strIterType x) x t i) := by
 unfold strIterType
 split
 ·exact Draws.strAscii hh it x t
 ·exact Draws.strWide hh it x t
theorem Ybo {z TI TO i1 i2 a : Addr} {zs : Str} {t : Tok} {its : Array Value} {prs : List (Key × Value)} {Q : VSP} (hh : A.handled = none) (D : ZAp z TI TO i1 i2) (hz : IsZip s.heap z TI TO .none) (hTI : IsPair s.heap TI (.ref i1) (.ref i2)) (hTO : IsPair s.heap TO .none .none)
 (h1 : s.heap.IsStrIter i1 (strIterType zs) zs t 0) (h2 : s.heap.IsTupleIter i2 a 0) (ha : s.heap.IsTuple a its) (az : z ≠ a) (aTO : TO ≠ a) (a1 : i1 ≠ a) (a2 : a ≠ i2) (hn1 : zs.cps.size = prs.length) (hn2 : its.size = prs.length)
 (hp : ∀ (i : Nat) c y, zs.cps[i]? = some c -> its[i]? = some y -> prs[i]? = some (.inr ⟨#[c]⟩, y)) (hb : prs.length <= sizeLine)
 (h : ∀ h' tk, h'.DictOf (YlC prog w) s.heap.objs.size (storeAll prs) -> (∀ b o, b ≠ z -> b ≠ TO -> b ≠ i1 -> b ≠ i2 -> s.heap.get? b = some o -> h'.get? b = some o) -> Q (.ref s.heap.objs.size) { s with heap := h', toks := tk }) :
 wpAny (model prog w) A (call (.type "dict") [.ref z]) Q E s := by
 refine callType_codes (Q₁ := fun obj s₁ => obj = .ref s.heap.objs.size /\ s₁ = { s with heap := s.heap.push { cls := .type "dict", data := .dict #[] } }) F.kt_called_dict (F.kt_typeCall_dict_1 _) F.entry_dict_init (kt_code_dict_new _ ⟨rfl, rfl⟩) ?_
 rintro obj s₁ ⟨rfl, rfl⟩
 have hnew : (s.heap.push { cls := .type "dict", data := .dict #[] }).DictOf (YlC prog w) s.heap.objs.size [] := Heap.DictOf.new s.heap
 have up : ∀ b o, s.heap.get? b = some o -> (s.heap.push { cls := .type "dict", data := .dict #[] }).get? b = some o := fun b o e => ZAC _ e
 have hzT : Shared.TypeIs { s with heap := s.heap.push { cls := .type "dict", data := .dict #[] } } (.ref z) "zip" := ⟨_, up _ _ hz, rfl⟩
 have lz : z < s.heap.objs.size := ZAE hz
 have lTI : TI < s.heap.objs.size := ZAE hTI
 have lTO : TO < s.heap.objs.size := ZAE hTO
 have l1 : i1 < s.heap.objs.size := by obtain ⟨o, e, _⟩ := h1; exact ZAE e
 have l2 : i2 < s.heap.objs.size := by obtain ⟨o, e, _⟩ := h2; exact ZAE e
 have la : a < s.heap.objs.size := by obtain ⟨o, e, _⟩ := ha; exact ZAE e
 refine ⟨hnew.typeIs, F.args_dict_init_2 _ _, ?_⟩
 unfold Builtin.«dict.__init__»
 show 138
 unfold Builtin.Dict.selfAndRest
 refine ZAA (wpAny_notOrdered_dict hnew.typeIs ?_)
 show wpAny _ _ (pure (s.heap.objs.size, [Value.ref z])) _ _ _
 show 150
 show wpAny _ _ (Builtin.Dict.updateFrom "dict.__init__" s.heap.objs.size (.ref z) [] .none) _ _ _
 unfold Builtin.Dict.updateFrom
 refine ZAA (ZBO hzT ?_)
 show 181
 refine wpAny_bind (Jw (up _ _ hz) (by simp [hh]) fun hA tkA kA => ?_)
 rw [ZAG (show (none : Option Value).isNone = true from rfl)]
 refine ZAA (ZBl ?_)
 have up2 : ∀ b o, s.heap.get? b = some o -> hA.get? b = some o := fun b o e => kA b o (up b o e)
 refine ZAA (ZBm (up2 _ _ hz) ?_)
 have hd1 : hA.DictOf (YlC prog w) s.heap.objs.size [] := by
  obtain ⟨o, es, ep, ho, r⟩ := hnew
  exact ⟨o, es, ep, kA _ _ ho, r⟩
 have sz : s.heap.objs.size < hA.objs.size := by
  obtain ⟨o, es, ep, ho, r⟩ := hd1
  exact ZAE ho
 have G1 := Yer (prog := prog) (w := w) (A := A.in1.in1.in1) (by simp [hh]) i1 zs t
 rw [hn1] at G1
 have G2 := ZC (prog := prog) (w := w) (A := A.in1.in1.in1) (by simp [hh]) i2 a a2 its
 rw [hn2] at G2
 refine ZAB ⟨plainId_quiet Y2 _, JQ (A := A.in1) G1 G2 ⟨D, ?_, ?_, ?_, ?_, ?_, ?_⟩ s.heap.objs.size (s.heap.objs.size + 1) (ZAL lz) (ZAL lTI) (ZAL lTO) (ZAL l1) (ZAL l2) ?_ ?_ (ZAz _) (ZAw lz) (ZAw l1) (ZAw l2) ?_ hb (prs.length - 0) 0 _ _ _ (by omega) (ZBM _) sz ?_ hd1 ?_⟩
 ·simpa using D.i1z.symm
 ·simpa using D.TOi1
 ·simpa using D.i12.symm
 ·simp only [List.mem_cons, List.not_mem_nil, or_false, not_or]; exact ⟨D.i2z.symm, az⟩
 ·simp only [List.mem_cons, List.not_mem_nil, or_false, not_or]; exact ⟨D.TOi2, aTO⟩
 ·simp only [List.mem_cons, List.not_mem_nil, or_false, not_or]; exact ⟨D.i12, a1⟩
 ·simpa using Nat.ne_of_gt l1
 ·simp only [List.mem_cons, List.not_mem_nil, or_false, not_or]; exact ⟨Nat.ne_of_gt l2, Nat.ne_of_gt la⟩
 ·rintro i x y ⟨c, u, hc, rfl⟩ hy
  refine ⟨_, hp i c y hc hy, ?_⟩
  show Value.isStrOf ⟨#[c]⟩ (.str ⟨#[c]⟩ u) = true
  simp [Value.isStrOf]
 ·refine ⟨.inl (up2 _ _ hz), up2 _ _ hTI, ⟨_, _, up2 _ _ hTO⟩, ?_, ?_⟩
  ·obtain ⟨o, e, r⟩ := h1; exact ⟨o, up2 _ _ e, r⟩
  ·obtain ⟨o, e, r⟩ := h2
   obtain ⟨o', e', r'⟩ := ha
   exact ⟨⟨o, up2 _ _ e, r⟩, ⟨o', up2 _ _ e', r'⟩⟩
 ·intro h3 tk3 D3 k3
  exact ⟨rfl, h h3 tk3 D3 fun b o b1 b2 b3 b4 e => k3 b o (ZAL (ZAE e)) b1 b2 b3 b4 (up2 b o e)⟩
end
def keyz {α : Type} (cs : List Nat) (ws : List α) : List (Key × α) := (cs.zip ws).map fun q => (.inr ⟨#[q.1]⟩, q.2)
theorem Vq {α : Type} {cs : List Nat} {ws : List α} (h : cs.length = ws.length) : (keyz cs ws).length = ws.length := by unfold keyz; rw [List.length_map, List.length_zip]; omega
theorem Yhu {α : Type} {cs : List Nat} {ws : List α} {i c : Nat} {y : α} (h1 : cs[i]? = some c) (h2 : ws[i]? = some y) : (keyz cs ws)[i]? = some (.inr ⟨#[c]⟩, y) := by
 unfold keyz
 rw [ZAX, List.zip, List.getElem?_zipWith, h1, h2]
 rfl
theorem YdJ : ∀ {cs : List Nat} {ws : List V} {its : List Value}, Vals ws its -> KV (keyz cs ws) (keyz cs its)
 | [], _, _, _ => .nil
 | _ :: _, _, _, .nil => .nil
 | c :: cs, _, _, .cons r t => .cons ⟨rfl, r⟩ (YdJ t)
section
variable {X : Cx} {e f : Expr} {p p2 pos pos2 : Pos}
theorem YcG {ta : TA} (hc : X.calm = true) (hgd : Gl X "dict") (hmd : X.mg "dict" = none) (hvd : bootBuiltins "dict" = some (.type "dict")) (hgz : Gl X "zip") (hmz : X.mg "zip" = none) (hvz : bootBuiltins "zip" = some (.type "zip")) (ha : PA X [e, f] ta)
 (hs1 : starEach [.Call (.Name "zip" p2) [e, f] [] pos2] X.env = (false, eval (.Call (.Name "zip" p2) [e, f] [] pos2) X.env) :: starEach [] X.env := by rfl) (hs : starEach [e, f] X.env = [(false, eval e X.env), (false, eval f X.env)] := by rfl) (hs2 : starEach [f] X.env = [(false, eval f X.env)] := by rfl) :
 PE X (.Call (.Name "dict" p) [.Call (.Name "zip" p2) [e, f] [] pos2] [] pos) (fun σ H Q => ta σ H fun vs H1 => ∃ zs a ws, vs = [.str zs, .ref a] /\ SqT X.K H1 a ws /\ zs.cps.size = ws.length /\ ∀ p, H1 p = none -> Q (.ref p) (upd H1 p (.dK (You (keyz zs.cps.toList ws))))) := by
 show 139
 refine ZBE (ZU I hgd hmd hvd ?_ (by decide) (by decide))
 refine PyProof.Rows.callWith_type1 ?_ hs1 rfl
 rw [hs1]
 show wpAny _ _ (spliced ((false, eval _ X.env) :: [])) _ _ s
 refine Calls.spliced_cons ?_
 refine ZBE (ZU I hgz hmz hvz ?_ (by decide) (by decide))
 refine PyProof.Rows.callWith_type1 (thn (ha pos2 pins s σ H _ I h) fun us s1 ⟨vs, H1, I1, r1, q1⟩ => ?_) (by rw [hs, hs2]) (by rw [hs2]; rfl)
 obtain ⟨zs, a, ws, rfl, sq, hlen, q⟩ := q1
 obtain ⟨u, v, rfl, ru, rv⟩ := r1.two
 obtain ⟨t, rfl⟩ : ∃ t, u = .str zs t := ru
 cases rv
 obtain ⟨its, rx, px, zx⟩ := I1.tuple sq
 have hl := rx.length
 refine JU (o1 := { cls := .type (strIterType zs), data := .fields #[.str zs t, .int 0 0] }) (o2 := { cls := .type "tuple_iterator", data := .fields #[.ref a, .int 0 0] }) (C1 := fun _ => True) (C2 := fun h => h.IsTuple a its.toArray) (fun {_ _ _ _ _ _} _ hQ => by
  cases ha : zs.cps.all (· < 128)
  ·exact wpAny_pyIter_wide ha (by simpa [strIterType, ha] using hQ)
  ·exact wpAny_pyIter_ascii ha (by simpa [strIterType, ha] using hQ)) (fun hc hQ => wpAny_pyIter_tuple hc hQ) (fun h p q => Heap.IsTuple.push q _) trivial px rfl rfl fun h' b1 b2 b3 b4 b5 hk => ?_
 refine Calls.spliced_nil ?_
 have la : a < s1.heap.objs.size := by obtain ⟨o, e, _⟩ := px; exact ZAE e
 have ap : ZAp (s1.heap.objs.size + 4) (s1.heap.objs.size + 2) (s1.heap.objs.size + 3) s1.heap.objs.size (s1.heap.objs.size + 1) := by
  constructor <;> (intro z; have z' : (_ : Nat) = _ := z; omega)
 have pa' : h'.IsTuple a its.toArray := by obtain ⟨o, e, r⟩ := px; exact ⟨o, hk _ _ e, r⟩
 have hcs : zs.cps.toList.length = its.length := by simp; omega
 have nla : ∀ k, s1.heap.objs.size + k ≠ a := fun k => ZA5 (ZAM la (ZBo _ k))
 refine Ybo (s := { s1 with heap := h' }) (t := t) (prs := keyz zs.cps.toList its) (I1.ok.hd hc) ap b1 b2 b3 ⟨_, b4, rfl, rfl⟩ ⟨_, b5, rfl, rfl⟩ pa' (nla 4) (nla 3) (nla 0) (nla 1).symm (by rw [Vq hcs]; simpa using hcs) (by rw [Vq hcs]; simp) (fun i c y h1 h2 => Yhu (by simpa using h1) (by simpa using h2)) (by rw [Vq hcs]; omega) fun h2 tk D2 k2 => ?_
 have rel : KV (You (keyz zs.cps.toList ws)) (storeAll (keyz zs.cps.toList its)) := YiA (YdJ rx) .nil
 have hle : s1.heap.objs.size <= h'.objs.size := ZBW (ZBu (ZBo _ 4) (ZAE b1))
 refine ⟨.ref _, _, I1.laid (a := h'.objs.size) (o := .dK (You (keyz zs.cps.toList ws))) (t' := tk) (fun b o hq => ?_) hle (YgF ?_ (beq_eq_false_iff_ne.mpr (ZA1 (ZAL (ZAM I1.big hle)))) rel D2), rfl, q _ (I1.hok.fresh hle)⟩
 ·have lb := ZAE hq
  exact k2 b o (ZAL (ZAM lb (ZBo _ 4))) (ZAL (ZAM lb (ZBo _ 3))) (ZAL lb) (ZAL (ZAM lb (ZBo _ 1))) (hk b o hq)
 ·rw [rel.length]
  refine ZAR (Vg _) ?_
  rw [Vq hcs]
  omega
end
def Ynf (ps : List P) (st : Yls) : R P := match ps with
 | [.str z, .tup qs] => if z.cps.size = qs.length then .ok (.ref st.length) (st ++ [.dct (Yoe (keyz z.cps.toList qs))]) else .bad
 | _ => .bad
def Yn3 (m : MA) : ME := fun ρ st => (m ρ st).bind Ynf
section
variable {X : Cx} {e f : Expr} {p p2 pos pos2 : Pos} {m : MA}
theorem YaX {α β : Type} : ∀ {cs : List Nat} {ws : List α} {qs : List β}, ws.length = qs.length -> (keyz cs ws).map (·.1) = (keyz cs qs).map (·.1)
 | [], _, _, _ => rfl
 | _ :: _, [], [], _ => rfl
 | c :: cs, _ :: ws, _ :: qs, h => by
  show _ :: _ = _ :: _
  exact ZBK _ (YaX (cs := cs) (Nat.succ.inj h))
theorem Ycd {K : Frag} {as : List Addr} {H : Hp} : ∀ {cs : List Nat} {ws : List V} {qs : List P}, Dens K as H ws qs -> Dens K as H ((keyz cs ws).map (·.2)) ((keyz cs qs).map (·.2))
 | [], _, _, _ => .nil
 | _ :: _, _, _, .nil => .nil
 | c :: cs, _, _, .cons r t => .cons r (Ycd (cs := cs) t)
theorem YfD (hc : X.calm = true) (hgd : Gl X "dict") (hmd : X.mg "dict" = none) (hvd : bootBuiltins "dict" = some (.type "dict")) (hgz : Gl X "zip") (hmz : X.mg "zip" = none) (hvz : bootBuiltins "zip" = some (.type "zip")) (ha : JA X [e, f] m)
 (hs1 : starEach [.Call (.Name "zip" p2) [e, f] [] pos2] X.env = (false, eval (.Call (.Name "zip" p2) [e, f] [] pos2) X.env) :: starEach [] X.env := by rfl) (hs : starEach [e, f] X.env = [(false, eval e X.env), (false, eval f X.env)] := by rfl) (hs2 : starEach [f] X.env = [(false, eval f X.env)] := by rfl) :
 JE X (.Call (.Name "dict" p) [.Call (.Name "zip" p2) [e, f] [] pos2] [] pos) (Yn3 m) :=
 PE.imp (YcG hc hgd hmd hvd hgz hmz hvz ha hs1 hs hs2) fun σ H Q ⟨as, ρ, st, en, rp, h⟩ => ⟨as, ρ, st, en, rp, YlJ.bindA h fun ps st1 as1 H1 vs x rp1 d h1 => by
  match ps, d, h1 with
  | [.str z, .tup qs], d, h1 =>
   obtain ⟨v, u, rfl, d1, d2⟩ := d.two
   cases d1
   cases d2 with
   | @tup a ws _ sq dd =>
    have h2 : YlJ X as1 H1 ρ (if z.cps.size = qs.length then .ok (.ref st1.length) (st1 ++ [.dct (Yoe (keyz z.cps.toList qs))]) else .bad) Q := h1
    by_cases hl : z.cps.size = qs.length
    ·rw [ZAG hl] at h2
     have k4 := YfN (a := []) (b := []) (YaX (cs := z.cps.toList) dd.length) (Ycd (cs := z.cps.toList) dd) rfl .nil
     exact ⟨z, a, ws, rfl, sq, by rw [dd.length]; exact hl, fun p hp => h2 (as1 ++ [p]) _ _ (Ext.new hp) (rp1.new hp ⟨_, Yj, k4.1, k4.2.ext (Ext.new hp)⟩) (.ref (by rw [<- rp1.len]; exact VL))⟩
    ·rw [ZAF hl] at h2; exact h2.elim
  | [], _, h1 => show 137
  | [_], _, h1 => exact (by simp only [Ynf] at h1; exact h1.elim)
  | _ :: _ :: _ :: _, _, h1 => exact (by simp only [Ynf] at h1; exact h1.elim)
  | [.non, _], _, h1 => show 137
  | [.bl _, _], _, h1 => show 137
  | [.int _, _], _, h1 => show 137
  | [.tup _, _], _, h1 => show 137
  | [.ref _, _], _, h1 => show 137
  | [.str _, .non], _, h1 => show 137
  | [.str _, .bl _], _, h1 => show 137
  | [.str _, .int _], _, h1 => show 137
  | [.str _, .str _], _, h1 => show 137
  | [.str _, .ref _], _, h1 => exact h1.elim⟩
end
def Ym9 (z : Str) : Str := ⟨((Builtin.Str.strSliceIndices none none (-1) z.length).filterMap (z.cps[·]?)).toArray⟩
def Yoc (me : ME) : ME := fun ρ st => (me ρ st).bind fun p st1 => match p with
 | .tup xs => .ok (.tup xs.reverse) st1
 | .str z => if (Ym9 z).length <= cap then .ok (.str (Ym9 z)) st1 else .bad
 | .ref k => (match listAt st1 k with
  | some xs => ofO (YmT (Ymn (YmM xs.length none none (-1)) xs) st1)
  | none => .bad)
 | _ => .bad
section
variable {X : Cx} {e : Expr} {pos p2 : Pos} {me : ME}
theorem Yhw {j : Nat} {p3 p4 : Pos} (he : JE X e me) : JE X (.Subscript e (.Slice none none (some (.UnaryOp .USub (.Constant (.int 1) j p3) p4)) p2) pos) (Yoc me) := by
 intro pins s σ H Q I ⟨as, ρ, st, en, rp, h⟩
 refine Subscript_ (thn (he pins s σ H (fun x H1 => (∃ a vs, x = .ref a /\ SqT X.K H1 a vs /\ ∀ p, H1 p = none -> Q (.ref p) (upd H1 p (.tup vs.reverse))) \/ (∃ z, x = .str z /\ (Ym9 z).length <= cap /\ Q (.str (Ym9 z)) H1) \/ ∃ a vs, x = .ref a /\ SqL X.K H1 a vs /\ (Ymn (YmM vs.length none none (-1)) vs).length <= sizeLine /\ ∀ p, H1 p = none -> Q (.ref p) (upd H1 p (.lst (Ymn (YmM vs.length none none (-1)) vs)))) I ⟨as, ρ, st, en, rp, YlJ.bindE h fun p st1 as1 H1 v x rp1 d h1 => ?_⟩) fun v s1 ⟨x, H1, I1, r1, q1⟩ => ?_)
 ·cases d with
  | @tup a vs xs e r => exact .inl ⟨a, vs, rfl, e, fun p hp => h1 as1 _ _ (Ext.laid hp) (rp1.laid hp) (.tup (.of Yj) (r.reverse.ext (Ext.laid hp)))⟩
  | @str z =>
   have h2 : YlJ X as1 H1 ρ (if (Ym9 z).length <= cap then .ok (.str (Ym9 z)) st1 else .bad) Q := h1
   by_cases hl : (Ym9 z).length <= cap
   ·rw [ZAG hl] at h2
    exact .inr (.inl ⟨_, rfl, hl, h2 as1 H1 _ Ext.refl rp1 .str⟩)
   ·rw [ZAF hl] at h2; exact h2.elim
  | @ref k a e =>
   have h2 : YlJ X as1 H1 ρ (match listAt st1 k with | some xs => ofO (YmT (Ymn (YmM xs.length none none (-1)) xs) st1) | none => .bad) Q := h1
   cases q : listAt st1 k with
   | none => rw [q] at h2; exact h2.elim
   | some xs =>
    rw [q] at h2
    dsimp only at h2
    have h3 := YlJ.ofO h2
    obtain ⟨vs, sq, r⟩ := YV rp1 e q
    have hd := YaP r (YmM xs.length none none (-1))
    rw [<- r.length] at hd h3
    exact .inr (.inr ⟨_, vs, rfl, sq, by rw [hd.length]; exact Ycm h3, fun p hp => WI rp1 hd h3 hp⟩)
  | _ => show 137
 ·rcases q1 with ⟨a, vs, ex, hq, q1⟩ | ⟨z, ex, hz0, q1⟩ | ⟨a, vs, ex, hq, hz0, q1⟩
  ·subst ex
   cases r1
   refine ZCQ ?_
   rw [evalPart_none]
   refine ZAB (ZAB ?_)
   rw [evalPart_some]
   refine UnaryOp_ (ZBt (neg_int ?_))
   obtain ⟨its, r, ht, hz⟩ := I1.tuple hq
   show wpAny (model X.prog X.w) X.A (subscriptTail e _ (.ref a) (.ref s1.heap.objs.size)) (EP X pins σ Q) X.xe { s1 with heap := s1.heap.push { cls := .type "slice", data := .fields #[.none, .none, .int (-1) (s1.toks + 1)] }, toks := s1.toks + 1 + 1 }
   have I2 : Inv X pins σ H1 { s1 with heap := s1.heap.push { cls := .type "slice", data := .fields #[.none, .none, .int (-1) (s1.toks + 1)] }, toks := s1.toks + 1 + 1 } := I1.kept fun b ob q => ZAC _ q
   obtain ⟨its2, r2, ht2, hz2⟩ := I2.tuple hq
   refine tail_any (ops := [.ref a, .ref s1.heap.objs.size]) ht2.typeIs PyProof.Rows.slot_tuple_getitem.lookup (W7 (u := s1.toks + 1) ht2 ⟨_, Heap.get?_push_size _ rfl, rfl, rfl⟩ ?_ (by rw [<- r2.length]; exact hz2)) (by with_unfolding_all rfl)
   refine ⟨.ref _, _, I2.laid (o := .tup vs.reverse) (fun b ob q => ZAC _ q) (ZAI _) ?_, rfl, q1 _ (I2.hok.fresh (ZAI _))⟩
   exact ⟨by rw [ZBa]; exact hz2, _, r2.reverse, IsTup.new _ _⟩
  ·subst ex
   obtain ⟨t, rfl⟩ : ∃ t, v = .str z t := r1
   refine ZCQ ?_
   rw [evalPart_none]
   refine ZAB (ZAB ?_)
   rw [evalPart_some]
   refine UnaryOp_ (ZBt (neg_int ?_))
   show wpAny (model X.prog X.w) X.A (subscriptTail e _ (.str z t) (.ref s1.heap.objs.size)) (EP X pins σ Q) X.xe { s1 with heap := s1.heap.push { cls := .type "slice", data := .fields #[.none, .none, .int (-1) (s1.toks + 1)] }, toks := s1.toks + 1 + 1 }
   have I2 : Inv X pins σ H1 { s1 with heap := s1.heap.push { cls := .type "slice", data := .fields #[.none, .none, .int (-1) (s1.toks + 1)] }, toks := s1.toks + 1 + 1 } := I1.kept fun b ob q => ZAC _ q
   refine tail_any (ops := [.str z t, .ref s1.heap.objs.size]) (typeIs_str _ z t) F.slot_str_getitem.lookup (wpAny_getItem_str_slice (l := none) (u := none) (st := some (-1, s1.toks + 1)) ⟨_, Heap.get?_push_size _ rfl, rfl, rfl⟩ rfl ?_) (by with_unfolding_all rfl)
   show (Made.str (Ym9 z)).post _ _
   exact ⟨ZAR hz0 Yp, .str (Ym9 z), H1, I2.kept (t' := s1.toks + 1 + 1 + 1) fun b ob q => q, ⟨_, rfl⟩, q1⟩
  ·subst ex
   cases r1
   refine ZCQ ?_
   rw [evalPart_none]
   refine ZAB (ZAB ?_)
   rw [evalPart_some]
   refine UnaryOp_ (ZBt (neg_int ?_))
   show wpAny (model X.prog X.w) X.A (subscriptTail e _ (.ref a) (.ref s1.heap.objs.size)) (EP X pins σ Q) X.xe { s1 with heap := s1.heap.push { cls := .type "slice", data := .fields #[.none, .none, .int (-1) (s1.toks + 1)] }, toks := s1.toks + 1 + 1 }
   have I2 : Inv X pins σ H1 { s1 with heap := s1.heap.push { cls := .type "slice", data := .fields #[.none, .none, .int (-1) (s1.toks + 1)] }, toks := s1.toks + 1 + 1 } := I1.kept fun b ob q => ZAC _ q
   obtain ⟨its, r, ht, hz'⟩ := I2.list hq
   have hlen := r.length
   refine tail_any (ops := [.ref a, .ref s1.heap.objs.size]) ht.isList.typeIs slot_list_getitem.lookup ?_ (by with_unfolding_all rfl)
   refine wpAny_getItem_list_slice (lo := none) (hi := none) (st := some (-1)) ht.isList (Heap.IsSliceOf.new ..) ?_ ?_ ?_ (by decide) ?_ (by rw [ZAj] <;> omega)
   ·exact .none
   ·exact .none
   ·exact .int _ _
   ·rw [Yac, <- hlen]
    refine ⟨.ref _, _, I2.laid (t' := s1.toks + 1 + 1) (o := .lst (Ymn (YmM vs.length none none (-1)) vs)) (fun b ob q => ZAC _ q) (ZAI _) ?_, rfl, q1 _ (I2.hok.fresh (ZAI _))⟩
    exact ⟨hz0, _, 0, Ya1 r _, ZAK _ rfl⟩
end
theorem Yjg (n : Nat) : sliceRange ((n : Int) - 1) (-1) (-1) = (List.range n).reverse := by
 unfold sliceRange
 have hc : (if (-1 : Int) > 0 then (if (n : Int) - 1 < -1 then (-1 - ((n : Int) - 1) + -1 - 1) / -1 else 0) else (if (n : Int) - 1 > -1 then ((n : Int) - 1 - -1 - -1 - 1) / (- -1) else 0)) = (n : Int) := by
  rw [ZAF (by decide)]
  by_cases h : (n : Int) - 1 > -1
  ·rw [ZAG h, show (- -1 : Int) = 1 from rfl, Int.ediv_one]; omega
  ·rw [ZAF h]; omega
 simp only [hc, Int.toNat_natCast]
 apply List.ext_getElem
 ·simp
 ·intro i h1 h2
  simp only [List.getElem_map, List.getElem_range, List.getElem_reverse, List.length_range]
  simp at h1
  omega
theorem YgJ {α : Type} (xs : List α) : Ymn (List.range xs.length).reverse xs = xs.reverse := by
 unfold Ymn
 rw [List.filterMap_reverse]
 congr 1
 have : ∀ n : Nat, n <= xs.length -> (List.range n).filterMap (fun i => xs[i]?) = xs.take n := by
  intro n hn
  induction n with
  | zero => rfl
  | succ n ih =>
   rw [List.range_succ, ZCV, ih (by omega), ZAv, ZAO (show n < xs.length by omega)]
   simp [show n < xs.length by omega]
 rw [this _ (ZAI _), ZAs]
theorem YhF (z : Str) : Ym9 z = ⟨z.cps.toList.reverse.toArray⟩ := by
 unfold Ym9
 have : Builtin.Str.strSliceIndices none none (-1) z.length = (List.range z.cps.toList.length).reverse := Yjg _
 show 143
 have h2 := YgJ z.cps.toList
 unfold Ymn at h2
 congr 2
 rw [<- h2]
 congr 1
 funext i
 simp
section
variable {ρ : Rho} {st : Yls}
end
section
variable {X : Cx}
end
section
variable {ρ : Rho} {st : Yls}
end
def Ynx (z : Str) : List V := z.cps.toList.map fun c => V.str ⟨#[c]⟩
theorem Yd9 (z : Str) : (Ynx z).length = z.cps.size := by unfold Ynx; simp
theorem Yeh {z : Str} {acc : Array Value} (h : ItemsOf (SignAt z) acc z.cps.size) : Vals (Ynx z) acc.toList := by
 show 230
 have gen : ∀ (cs : List Nat) (vs : List Value), cs.length = vs.length -> (∀ (i : Nat) v, vs[i]? = some v -> ∃ c u, cs[i]? = some c /\ v = .str ⟨#[c]⟩ u) -> Vals (cs.map fun c => V.str ⟨#[c]⟩) vs := by
  intro cs
  induction cs with
  | nil =>
   intro vs hl _
   cases vs with
   | nil => exact .nil
   | cons _ _ => cases hl
  | cons c cs ih =>
   intro vs hl hv
   cases vs with
   | nil => cases hl
   | cons v vs =>
    obtain ⟨d, u, e1, e2⟩ := hv 0 v rfl
    have e1' : some c = some d := e1
    cases e1'
    exact .cons ⟨u, e2⟩ (ih vs (Nat.succ.inj hl) fun i w hw => hv (i + 1) w hw)
 refine gen z.cps.toList acc.toList (by simp [h1]) fun i v hv => ?_
 obtain ⟨c, u, e1, e2⟩ := h2 i v (by simpa using hv)
 exact ⟨c, u, by simpa using e1, e2⟩
theorem YeD {K : Frag} {as : List Addr} {H : Hp} (z : Str) : Dens K as H (Ynx z) (Yna z) := by
 unfold Ynx Yna
 induction z.cps.toList with
 | nil => exact .nil
 | cons c cs ih => exact .cons .str ih
section
variable {prog : Program} {w : World} {A : Around} {E : VSP} {s : Shared}
theorem Yb2 {z : Str} {t : Tok} {R : Result -> Shared -> Prop} (hh : A.handled = none) (hz : z.cps.size <= sizeLine)
 (hR : ∀ h' tk acc c1, (∀ b o, s.heap.get? b = some o -> h'.get? b = some o) -> h'.get? s.heap.objs.size = some { cls := .type "list", dict := none, data := .seq acc c1, slots := #[] } -> ItemsOf (SignAt z) acc z.cps.size -> R (.ok (.ret (.ref s.heap.objs.size))) { s with heap := h', toks := tk }) :
 codeAny (model prog w) A (.builtin "proto.collect" ⟨[.str z t], []⟩) R s := by
 apply codeAny_builtin F.entry_proto_collect
 rw [Around.under_plainId F.plain_proto_collect _]
 apply ZAA (m := newList [])
 refine ZAk ?_
 refine ZAB ⟨plainId_quiet F.plain_list_iadd _, ?_⟩
 apply codeAny_builtin F.entry_list_iadd
 rw [Around.under_plainId F.plain_list_iadd _]
 have g0 : (s.heap.push { cls := .type "list", data := .seq ([] : List Value).toArray }).get? s.heap.objs.size = some { cls := .type "list", data := .seq #[] } := ZAK _ rfl
 show wpAny _ _ (Builtin.List.listExtendWith (Value.ref s.heap.objs.size) (Value.str z t) (Value.ref s.heap.objs.size)) _ _ _
 exact wpAny_extend_str (s := { s with heap := s.heap.push { cls := .type "list", data := .seq ([] : List Value).toArray } }) hh z t s.heap.objs.size (.ref s.heap.objs.size) _ g0 (fun h1 tk acc c1 hk hS hi => hR h1 tk acc c1 (fun b o e => hk b o (ZAL (ZAE e)) (ZAC _ e)) hS hi) hz
theorem gathered {z : Str} {t : Tok} {Q : List Value -> Shared -> Prop} (hh : A.handled = none) (hz : z.cps.size <= sizeLine)
 (hQ : ∀ h' tk acc, (∀ b o, s.heap.get? b = some o -> h'.get? b = some o) -> s.heap.objs.size <= h'.objs.size -> ItemsOf (SignAt z) acc z.cps.size -> Q acc.toList { s with heap := h', toks := tk }) : wpAny (model prog w) A (collect (.str z t)) Q E s := by
 unfold collect
 apply ZAA
 apply ZB3
 refine Yb2 hh hz fun h1 tk acc c1 hk hS hi => ?_
 refine ZAA (m := load s.heap.objs.size) (ZCE hS ?_)
 exact ZAB (hQ h1 tk acc hk (ZBW (ZAE hS)) hi)
theorem Jd (z : Str) (t : Tok) (hz : z.cps.size <= sizeLine) :
 Meets (Builtin.«tuple.__new__» ⟨[.type "tuple", .str z t], []⟩) (fun A R s => A.handled = none /\ ∀ (h' : Heap) (tk : Nat) (acc : Array Value), (∀ b o, s.heap.get? b = some o -> h'.get? b = some o) -> s.heap.objs.size <= h'.objs.size -> ItemsOf (SignAt z) acc z.cps.size ->
  R (.ok (.ret (.ref h'.objs.size))) { s with heap := h'.push { cls := .type "tuple", data := .seq acc }, toks := tk }) :=
 .of_wp fun prog w A R s h => by
  obtain ⟨hh, h⟩ := h
  have f1 := sub_tuple_self
  have f2 := init_tuple_lookup
  have f3 := madeHere_tuple
  have f4 : s.TypeIs (.str z t) "str" := rfl
  have f5 : A.in1.handled = none := hh
  wp_walk using ZBO f4, gathered (t := t) f5 hz
  intro h1 tk acc hk hsz hi
  apply ZAA (m := pure acc.toList.toArray)
  apply ZAB
  have ea : acc.toList.toArray = acc := by simp
  show wpAny _ _ (Builtin.Tuple.tupleExact acc.toList.toArray >>= fun v => ret v) _ _ _
  rw [ea]
  unfold Builtin.Tuple.tupleExact
  refine ZAA (ZAk ?_ (by show acc.size <= sizeLine; rw [hi.1]; exact hz))
  exact ZAB ⟨_, rfl, h h1 tk acc hk hsz hi⟩
theorem JK {Q : VSP} (hh : A.handled = none) (z : Str) (t : Tok) (hz : z.cps.size <= sizeLine)
 (h : ∀ (h' : Heap) (tk : Nat) (acc : Array Value), (∀ b o, s.heap.get? b = some o -> h'.get? b = some o) -> s.heap.objs.size <= h'.objs.size -> ItemsOf (SignAt z) acc z.cps.size -> Q (.ref h'.objs.size) { s with heap := h'.push { cls := .type "tuple", data := .seq acc }, toks := tk }) :
 wpAny (model prog w) A (call (.type "tuple") [.str z t]) Q E s :=
 callType_new F.called_tuple (by decide) (F.typeCall_tuple_1 _) (F.newCall_tuple_1 _) (fun obj => F.args_object_init_2 obj _) F.entry_tuple_new
  (Jd z t hz) ⟨hh, fun h1 tk acc hk hsz hi => ⟨⟨_, ZAK _ rfl, rfl⟩, h h1 tk acc hk hsz hi⟩⟩
end
section
variable {X : Cx}
def Ymy : GC := fun ps st => match ps with
 | [.str z] => if z.cps.size <= cap then okP (.tup (Yna z)) st else none
 | _ => Yng ps st
theorem VM (hc : X.calm = true) : Yl0 X (.type "tuple") (rMC X Ymy) := by
 intro pins s σ H xs us Q I r ⟨as, st, ps, rp, d, h⟩
 have old : YlL X as H (Yng ps st) Q -> wpAny (model X.prog X.w) X.A (call (.type "tuple") us) (EP X pins σ Q) X.xe s := fun h' => Yfe pins s σ H xs us Q I r ⟨as, st, ps, rp, d, h'⟩
 match ps, d, h, old with
 | [.str z], d, h, old =>
  have h' : YlL X as H (if z.cps.size <= cap then okP (.tup (Yna z)) st else none) Q := h
  by_cases q : z.cps.size <= cap
  ·rw [ZAG q] at h'
   show 196
   cases dx
   obtain ⟨u, rfl, ru⟩ := vals1 r
   obtain ⟨t, rfl⟩ : ∃ t, u = .str z t := ru
   refine JK (I.ok.hd hc) z t (ZAR q Yp) fun h1 tk acc hk hsz hi => ?_
   have hf : H h1.objs.size = none := I.hok.fresh hsz
   refine ⟨.ref h1.objs.size, _, I.laid (t' := tk) (o := .tup (Ynx z)) (fun b o e => ZAC _ (hk b o e)) hsz ?_, rfl, h' as _ _ (Ext.laid hf) (rp.laid hf) (.tup (.of Yj) ((YeD z).ext (Ext.laid hf)))⟩
   refine ⟨by rw [Yd9]; exact ZAR q Yp, acc.toList, Yeh hi, ?_⟩
   have := IsTup.new h1 acc
   show 167
  ·rw [ZAF q] at h'; exact h'.elim
 | [], _, h, old => exact old h
 | [.non], _, h, old => exact old h
 | [.bl _], _, h, old => exact old h
 | [.int _], _, h, old => exact old h
 | [.ref _], _, h, old => exact old h
 | [.tup _], _, h, old => exact old h
 | _ :: _ :: _, _, h, old => exact old (by simp only [Ymy] at h; exact h)
end
section
variable {prog : Program} {w : World} {A : Around} {E : VSP} {s : Shared}
set_option maxHeartbeats 3200000 in
theorem Yex {z : Str} {tz : Tok} {ys : List Str} {Q : VSP}
 (hh : A.handled = none) (hys : ys = z.cps.toList.map fun c => (⟨#[c]⟩ : Str)) (hb : ys.length + 1 < scanBound)
 (h : ∀ (h' : Heap) (tk : Nat), TS prog w h' s.heap.objs.size (once ys) -> s.heap.objs.size < h'.objs.size -> (∀ b o, s.heap.get? b = some o -> h'.get? b = some o) -> Q (.ref s.heap.objs.size) { s with heap := h', toks := tk }) :
 wpAny (model prog w) A (call (.type "set") [.str z tz]) Q E s := by
 have hn : z.cps.size = ys.length := by rw [hys]; simp
 obtain ⟨c, tl, hmro⟩ := F.called_set.mro
 have q1 := F.called_set.made
 have q2 := F.called_set.sub
 refine wpAny_call (codeAny_of_tree ?_)
 show wpAny _ _ (callAny (.type "set") _) _ _ _
 refine ZAB ⟨Code.quiet_builtin _ (by decide +kernel), codeAny_builtin F.entry_type_call ?_⟩
 rw [Around.under_plain (weight_type_call_type "set" [.str z tz] []) rfl]
 have q3 := F.called_set.notType
 have q4 := F.called_set.canCreate
 have q5 := F.typeCall_set_1 (.str z tz)
 show 159
 refine codeAny_mono (V8 (.str z tz) (E := E) (Q := fun obj s1 => obj = .ref s.heap.objs.size /\ s1 = { s with heap := s.heap.push (YlK #[] 0 (.fresh 0 0 (!(byText w)))) }) ⟨rfl, rfl⟩) fun r s1 hr => ?_
 cases r with
 | error e => exact hr
 | ok fl =>
  cases fl with
  | ret obj =>
   obtain ⟨rfl, rfl⟩ := hr
   have gS : (s.heap.push (YlK #[] 0 (.fresh 0 0 (!(byText w))))).get? s.heap.objs.size = some (YlK #[] 0 (.fresh 0 0 (!(byText w)))) := ZAK _ rfl
   have hT : Shared.TypeIs { s with heap := s.heap.push (YlK #[] 0 (.fresh 0 0 (!(byText w)))) } (.ref s.heap.objs.size) "set" := ⟨_, gS, rfl⟩
   have q6 := F.called_set.init.lookup
   have q7 := F.called_set.init.bind (.ref s.heap.objs.size)
   show 159
   refine codeAny_mono (codeAny_call_builtin (R := wants (fun r s2 => r = .none /\ ∃ h' tk, s2 = { s with heap := h', toks := tk } /\ TS prog w h' s.heap.objs.size (once ys) /\ (∀ b o, s.heap.get? b = some o -> h'.get? b = some o)) E)
    F.called_set.init.plain F.entry_set_init (check_set_init_1 hT ?_)) fun r2 s2 hr2 => ?_
   ·have q8 := F.sub_str_set
    have q9 := F.sub_str_frozenset
    have q10 : (Value.type "str" == Value.type "dict") = false := by decide
    have q11 : Shared.TypeIs { s with heap := s.heap.push (YlK #[] 0 (.fresh 0 0 (!(byText w)))) } (.str z tz) "str" := rfl
    unfold Builtin.«set.__init__» noKeywords Builtin.Frozenset.updateFrom
    generalize hPI : pyIter = PI
    wp_walk
    subst hPI
    refine wpAny_pyIter_str fun oI St W0 hst => ?_
    refine ZAA (ZB3 ?_)
    have hh3 : A.in1.in1.in1.handled = none := by simp [hh]
    have hSf : s.heap.objs.size ∉ [(s.heap.push (YlK #[] 0 (.fresh 0 0 (!(byText w))))).objs.size] := by
     rw [Heap.size_push]; simp only [List.mem_singleton]
     exact ZAL (ZAz _)
    have hv : ∀ (i : Nat) (v : Value), SignAt z i v -> ∃ x t, ys[i]? = some x /\ v = .str x t := fun i v ⟨c, u, e1, e2⟩ => by
     refine ⟨⟨#[c]⟩, u, ?_, e2⟩
     rw [hys, ZAX, ZBQ, e1]
     rfl
    have W := (W0 A.in1.in1.in1 hh3).toS
    rw [hn] at W
    refine Vm W s.heap.objs.size hSf hv hb (ys.length - 0) 0 _ (by omega) (ZBM _)
     hst ?hS0 ?hR
    case hS0 =>
     exact TS.empty (ZAC _ gS)
    case hR =>
     intro s3 hm T3
     obtain ⟨h3, g3, d3, tk3, os3⟩ := s3
     have eg : g3 = s.gens := hm.gens
     have ed : d3 = s.drawn := hm.drawn
     have eo : os3 = s.os := hm.os
     subst eg; subst ed; subst eo
     show wpAny _ _ _ _ _ _
     show 150
     show wpAny _ _ (ret Value.none) _ _ _
     refine ZAB ⟨rfl, h3, tk3, rfl, T3, fun b o e => ?_⟩
     have hb := ZAE e
     have hb1 : b ≠ s.heap.objs.size := ZAL hb
     have hb2 : b ≠ (s.heap.push (YlK #[] 0 (.fresh 0 0 (!(byText w))))).objs.size := by
      rw [ZAa]; exact ZAL (ZAw hb)
     exact hm.heap b o (by simp only [List.mem_cons, List.mem_singleton, List.not_mem_nil, or_false, not_or]; exact ⟨hb1, hb2⟩) (Heap.get?_push_of_some _ (Heap.get?_push_of_some _ e))
   ·cases r2 with
    | error e => exact hr2
    | ok fl2 =>
     cases fl2 with
     | ret r =>
      obtain ⟨rfl, h', tk, rfl, hS', hk'⟩ := hr2
      show 159
      obtain ⟨es, ep, t, ho, T⟩ := hS'
      exact h _ _ ⟨es, ep, t, ho, T⟩ (ZAE ho) hk'
     | _ => exact hr2.elim
  | _ => exact hr.elim
end
def YmD (me : ME) : MA := fun ρ st => (me ρ st).bind fun p st1 => match p with
 | .ref k => (match listAt st1 k with
  | some xs => (match YmE xs with
   | some ys => if ys.length < 4000 /\ (once ys).length < 64 then .ok ((YmX (once ys)).map P.str) st1 else .bad
   | none => .bad)
  | none => .bad)
 | .str z => if (z.cps.toList.map fun c => (⟨#[c]⟩ : Str)).length < 4000 /\ (once (z.cps.toList.map fun c => (⟨#[c]⟩ : Str))).length < 64 then .ok ((YmX (once (z.cps.toList.map fun c => (⟨#[c]⟩ : Str)))).map P.str) st1 else .bad
 | _ => .bad
section
variable {X : Cx} {e : Expr} {me : ME} {p1 p2 c1 c2 : Pos}
theorem Ycn (hc : X.calm = true) (hg : Gl X "sorted") (hm : X.mg "sorted" = none) (hv : bootBuiltins "sorted" = some (.builtin "sorted")) (hg2 : Gl X "set") (hm2 : X.mg "set" = none) (hv2 : bootBuiltins "set" = some (.type "set")) (he : JE X e me)
 (hs : starEach [e] X.env = (false, eval e X.env) :: starEach [] X.env := by rfl)
 (hs2 : starEach [Expr.Call (.Name "set" p2) [e] [] c2] X.env = (false, eval (.Call (.Name "set" p2) [e] [] c2) X.env) :: starEach [] X.env := by rfl) :
 JL X (.Call (.Name "sorted" p1) [.Call (.Name "set" p2) [e] [] c2] [] c1) (YmD me) := by
 intro pins s σ H Q I ⟨as, ρ, st, en, rp, h⟩
 refine ZBE (ZU I hg hm hv ?_ (by decide) (by decide))
 refine PyProof.Rows.callWith_builtin1 ?_ hs2 rfl
 rw [hs2]
 show wpAny _ _ (spliced ((false, eval (.Call (.Name "set" p2) [e] [] c2) X.env) :: backTo c1 (starEach [] X.env))) _ _ s
 refine Calls.spliced_cons ?_
 refine ZBE (ZU I hg2 hm2 hv2 ?_ (by decide) (by decide))
 refine PyProof.Rows.callWith_type1 ?_ hs rfl
 rw [hs]
 show wpAny _ _ (spliced ((false, eval e X.env) :: backTo c2 (starEach [] X.env))) _ _ s
 refine Calls.spliced_cons ?_
 unfold YmD at h
 refine thn (he pins s σ H (fun v H1 => ∃ ys ks as1 st1, ((∃ a vs, v = .ref a /\ SqL X.K H1 a vs /\ (∀ us, Vals vs us -> StrsAre us ys)) \/ ∃ z, v = .str z /\ ys = z.cps.toList.map fun c => (⟨#[c]⟩ : Str)) /\ ys.length < 4000 /\ (once ys).length < 64 /\ ks = YmX (once ys) /\ Rep X.K as1 st1 H1 /\
  ∀ l, H1 l = none -> Q (.ref l) (upd H1 l (.lst (ks.map V.str)))) I ⟨as, ρ, st, en, rp, ?_⟩) fun u s1 ⟨x, H1, I1, r1, q1⟩ => ?_
 ·refine YlW.bindE (Q := Q) h fun p st1 as1 H1 v x rp1 d h1 => ?_
  cases d with
  | @str z =>
   dsimp only at h1
   by_cases q : (z.cps.toList.map fun c => (⟨#[c]⟩ : Str)).length < 4000 /\ (once (z.cps.toList.map fun c => (⟨#[c]⟩ : Str))).length < 64
   ·rw [ZAG q] at h1
    refine ⟨_, _, as1, st1, .inr ⟨z, rfl, rfl⟩, q.1, q.2, rfl, rp1, fun l hl => ?_⟩
    exact h1 as1 _ l _ (Ext.laid hl) (rp1.laid hl) Yj (rp1.fresh hl) (VJ _)
   ·rw [ZAF q] at h1; exact h1.elim
  | @ref k a e =>
   dsimp only at h1
   cases q : listAt st1 k with
   | none => rw [q] at h1; exact h1.elim
   | some xs =>
    rw [q] at h1
    dsimp only at h1
    cases q2 : YmE xs with
    | none => rw [q2] at h1; exact h1.elim
    | some ys =>
     rw [q2] at h1
     dsimp only at h1
     by_cases z : ys.length < 4000 /\ (once ys).length < 64
     ·rw [ZAG z] at h1
      obtain ⟨vs, g1, g2⟩ := YV rp1 e q
      refine ⟨ys, _, as1, st1, .inl ⟨a, vs, rfl, g1, fun us r => W3 g2 r q2⟩, z.1, z.2, rfl, rp1, fun l hl => ?_⟩
      exact h1 as1 _ l _ (Ext.laid hl) (rp1.laid hl) Yj (rp1.fresh hl) (VJ _)
     ·rw [ZAF z] at h1; exact h1.elim
  | _ => show 137
 ·obtain ⟨ys, ks, as1, st1, hway, hl1, hl2, hks, rp1, hq⟩ := q1
  refine Calls.spliced_nil ?_
  have fin : ∀ (h2 : Heap) (tk : Nat), TS X.prog X.w h2 s1.heap.objs.size (once ys) -> s1.heap.objs.size < h2.objs.size -> (∀ b o, s1.heap.get? b = some o -> h2.get? b = some o) -> wpAny (model X.prog X.w) X.A (spliced []) (fun vs s₂ => wpAny (model X.prog X.w) X.A (call (.builtin "sorted") ((.ref s1.heap.objs.size) :: vs)) (EP X pins σ Q) X.xe s₂) X.xe { s1 with heap := h2, toks := tk } := fun h2 tk TS2 lt2 keep2 => by
   have I2 : Inv X pins σ H1 { s1 with heap := h2, toks := tk } := I1.kept keep2
   refine Calls.spliced_nil ?_
   refine Jf TS2 hl2 (I1.ok.hd hc) fun D s3 out ss n hD keep3 hg3 ho3 hD3 hss hp3 hs3 => ?_
   have ess : ss = ks := by rw [hks]; exact W9 hp3 (VA ss hs3)
   have hDs : s1.heap.objs.size <= D := ZAR (ZBW (ZBu (ZAI _) lt2)) hD
   have hzl : ss.length <= sizeLine := by
    rw [hp3.length_eq, sizeLine_eq]; omega
   have I3 : Inv X pins σ (upd H1 D (.lst (ss.map V.str))) { s1 with heap := s3.heap, gens := s3.gens, drawn := s3.drawn, toks := s3.toks } := by
    have hn : H1 D = none := I1.hok.fresh hDs
    have I3a : Inv X pins σ H1 { s1 with heap := s3.heap, gens := s3.gens, drawn := s3.drawn, toks := s3.toks } := by
     refine I1.step (ch := []) (fun b hb => absurd hb (by simp)) (fun b o _ _ _ e _ => keep3 b o (keep2 b o e)) (fun b o _ _ _ e _ => ⟨o.slots, keep3 b o (keep2 b o e)⟩) (fun b o _ e n => n) (fun b o _ e => ⟨o, keep3 b o (keep2 b o e)⟩)
      (fun b xs e => e) (fun b o u e => e) (fun b ps e => ⟨#[], by rw [e]; simp⟩) (fun m hm => hm.keeps fun b o e => keep3 b o (keep2 b o e)) (I1.hok.kept fun b o e => keep3 b o (keep2 b o e)) ?_
     rw [show s3.gens = s1.gens from hg3]; exact I1.bare
    have fo := I1.fpOk hDs hn
    exact Mi.Inv.track I3a hD3 hn (YaL hss) (by rw [ZAJ]; exact hzl) (ZAR I1.sz hDs) fo.2.1 fo.2.2.2.2.1 fo.2.2.2.2.2
   have es3 : { s1 with heap := s3.heap, gens := s3.gens, drawn := s3.drawn, toks := s3.toks } = s3 := by
    have : s3.os = s1.os := ho3
    cases s3
    simp only at this
    simp [this]
   rw [es3] at I3
   exact ⟨.ref D, _, I3, rfl, by rw [ess]; exact hq D (I1.hok.fresh hDs)⟩
  rcases hway with ⟨a, vs, rfl, hsq, hst⟩ | ⟨z, rfl, hys⟩
  ·cases r1
   obtain ⟨its, rv, pl, _⟩ := I1.list hsq
   exact Yd3 (I1.ok.hd hc) pl.isList (by simpa using hst its rv) (by show _ < 4096; omega) fun h2 tk TS2 lt2 keep2 => fin h2 tk TS2 lt2 keep2
  ·obtain ⟨t, rfl⟩ : ∃ t, u = .str z t := r1
   exact Yex (I1.ok.hd hc) hys (by show _ < 4096; omega) fun h2 tk TS2 lt2 keep2 => fin h2 tk TS2 lt2 keep2
end
section
variable {X : Cx} {o e : Expr} {me mx : ME} {apos cpos : Pos}
end
section
variable {ρ : Rho} {st : Yls}
end
end Mi
namespace Mi
open PySem PySem.Spec L2
open PyProof.Rows hiding St
theorem YdQ {P' : Program} {w : World} {H : Hp} {h : Heap} {a : Addr} {o : HO} (x : YlZ P' w H h a o) : ∃ u, h.get? a = some u := by
 cases o with
 | lst xs => obtain ⟨_, _, _, _, e⟩ := x; exact ⟨_, e⟩
 | tup xs => obtain ⟨_, _, _, ob, e, _⟩ := x; exact ⟨_, e⟩
 | dK kvs => obtain ⟨_, _, _, _, o, _, _, e, _⟩ := x; exact ⟨_, e⟩
 | dT kvs => obtain ⟨_, _, _, _, o, _, _, e, _⟩ := x; exact ⟨_, e⟩
 | set S n => obtain ⟨o, _, _, _, e, _⟩ := x; exact ⟨_, e⟩
 | ins C dx fs => obtain ⟨_, _, _, e, _⟩ := x; exact ⟨_, e⟩
 | own y => exact x
 | xd fs => obtain ⟨_, ⟨_, _, _, e, _⟩, _⟩ := x; exact ⟨_, e⟩
 | rng lo hi => obtain ⟨_, _, _, e⟩ := x; exact ⟨_, e⟩
 | frz ob u => obtain ⟨e, _⟩ := x; exact ⟨_, e⟩
 | tbl ps => exact ⟨_, x⟩
 | met f y => exact ⟨_, x⟩
 | ext φ => exact x.2.1
structure Yp7 (l : List Env) (a : Addr) (Ts : List Addr) (h h' : Heap) : Prop where
 keep : ∀ b o, h.get? b = some o -> b ≠ a -> b ∉ Ts -> b ∉ frs l -> h'.get? b = some o
 slot : ∀ b o, h.get? b = some o -> b ∈ frs l -> ∃ sl, h'.get? b = some { o with slots := sl }
section
variable {M : Model} {A : Around} {E : VSP} {s : Shared} {base : Heap} {env e0 : Env} {l r : List Env} {L a : Addr} {oe : Obj} {vs : Array Value}
end
section
variable {M : Model} {A : Around} {E : VSP} {X : Cx} {pins : LAO} {σ : St} {H : Hp} {s : Shared} {a : Addr} {C : Value} {od : Option Addr} {N : Addr -> Prop}
theorem untracked (I : Inv X pins σ H s) {T : Addr} (z : s.heap.get? T = none) : H T = none := by
 cases q : H T with
 | none => rfl
 | some u =>
  obtain ⟨u', hu⟩ := YdQ (I.hok T u q)
  rw [z] at hu; cases hu
end
end Mi
namespace Mi
open PySem PySem.Spec L2
open PyProof.Rows hiding St
def CX1 (P' : Program) (w : World) : CXT := fun outer H s E e s' => ∃ a C od H', e = .ref a /\ s'.os = s.os /\ AllBare s'.gens /\ Un (frs outer) [] H H' s.heap s'.heap /\ HOk P' w H' s'.heap /\
 Yow (fun b => s.heap.get? b = none) H' a C od s'.heap /\ E C od H'
section
variable {P' : Program} {w : World} {K : Frag} {mg : SOV} {base : Heap} {N : List Str} {qual : Str} {scope : Scope} {f : Addr} {cd : Value} {A : Around} {outer : List Env} {s₀ : Shared} {H₀ : Hp} {E : XK}
end
def YpV (K : Frag) (n : Nat) (mf : MF) : Sp := fun vs H Q E => vs.length = n /\ ∃ as st ps, Rep K as st H /\ Dens K as H vs ps /\ match mf ps st with
 | .ok p st' => ∀ as' H' v, Ext as H as' H' -> Rep K as' st' H' -> Den K as' H' v p -> Q v H'
 | .exc x st' => ∀ as' H' C od, nsIn K mainGlobals x.1 = some (some (.ref C)) -> Yoh K as' H' od x.2 -> Ext as H as' H' -> Rep K as' st' H' -> E (.ref C) od H'
 | .bad => False
abbrev FM1 (P' : Program) (w : World) (K : Frag) (mg : SOV) (base : Heap) (k : Nat) (f : Addr) (fd : FuncData) (ps : List Str) (mf : MF) : Prop := Ym7 P' w K mg base (CX1 P' w) k f fd ps (YpV K ps.length mf)
section
variable {P' : Program} {w : World} {K : Frag} {mg : SOV} {base : Heap}
end
section
variable {X : Cx} {k : Nat} {f : Addr} {fd : FuncData} {ps : List Str} {mf : MF} {x : Str} {p pos : Pos} {e : Expr} {es : List Expr} {mr : MA}
end
structure Fn1 (P' : Program) (w : World) (K : Frag) (mg : SOV) (base : Heap) (x : Str) (k : Nat) (ps : List Str) (mf : MF) : Prop where
 ex : ∃ f fd, FM1 P' w K mg base k f fd ps mf /\ mg x = some (.ref f) /\ PySem.W.keepIn K (.ref f) = true /\ Binds K fd ps []
section
variable {P' : Program} {w : World} {K : Frag} {mg : SOV} {base : Heap} {x : Str} {st : Stmt} {N ps : List Str} {k : Nat} {m : MS}
end
section
variable {K : Frag} {h : Heap} {C : Addr} {bmB : List Value} {newId : String}
end
abbrev Yp4 : List Value := [.type "ValueError", .type "Exception", .type "BaseException", .type "object"]
end Mi
namespace Mi
open PySem PySem.Spec L2
open PyProof.Rows hiding St
section
variable {X : Cx} {pins : LAO} {σ : St} {H H' : Hp} {s : Shared}
theorem _root_.L2.Inv.stepN {h' : Heap} {t' : Nat} {ch : List Addr} (I : Inv X pins σ H s) (hch : ∀ b ∈ ch, Nw X pins b /\ b ≠ X.env.locals /\ (∀ x c, X.env.cells.lookup x = some c -> c ≠ b) /\ b ∉ frs X.stack)
 (keep : ∀ b o, b ∉ frs X.stack -> b ∉ ch -> s.heap.get? b = some o -> H b = none -> h'.get? b = some o) (slot : ∀ b o, b ∈ frs X.stack -> s.heap.get? b = some o -> ∃ sl, h'.get? b = some { o with slots := sl })
 (free : ∀ b, b ∉ ch -> H b = none -> H' b = none) (there : ∀ b o, b ∉ ch -> s.heap.get? b = some o -> ∃ o', h'.get? b = some o') (trk : ∀ b u, H b = some u -> H' b = some u)
 (hL : ∃ o sl, s.heap.get? X.env.locals = some o /\ h'.get? X.env.locals = some { o with slots := sl }) (hfs : ∀ b ∈ X.fs, b ∈ frs X.stack)
 (hok : HOk X.prog X.w H' h') : Inv X pins σ H' { s with heap := h', toks := t' } := by
 have neC : ∀ b o, X.s₀.heap.get? b = some o -> b ∉ X.ex -> b ∉ ch := fun b o e hx hb => by
  rcases (hch b hb).1.1 with z | z
  ·exact hx z
  ·rw [z] at e; cases e
 have anyF : ∀ b o, b ∉ ch -> s.heap.get? b = some o -> H b = none -> ∃ sl, h'.get? b = some { o with slots := sl } := fun b o hc e n => by
  by_cases hb : b ∈ frs X.stack
  ·exact slot b o hb e
  ·exact ⟨o.slots, keep b o hb hc e n⟩
 have cellK : ∀ x c, X.env.cells.lookup x = some c -> ∀ v, s.heap.IsCell c v -> h'.IsCell c v := fun x c e v ⟨o, ho, hd⟩ => by
  obtain ⟨sl, q⟩ := anyF c o (fun z => (hch c z).2.2.1 x c e rfl) ho (I.freeC x c e)
  exact ⟨_, q, hd⟩
 obtain ⟨oL, slL, hoL, hoL'⟩ := hL
 have nsK : ∀ m, s.heap.Ns X.env.locals m -> h'.Ns X.env.locals m := fun m ⟨o, es, ep, ho, r⟩ => by
  rw [hoL] at ho; cases ho
  exact ⟨_, es, ep, hoL', r⟩
 have lnch : X.env.locals ∉ ch := fun z => (hch _ z).2.1 rfl
 refine ⟨I.ok, I.os, I.bare, ⟨fun b o e n hb hx => ?_, fun b o e n hb hx => ?_, fun b o e n hx => free b (neC b o e hx) (I.base.free b o e n hx), fun b o e hx => ?_, fun b xs e => trk _ _ (I.base.tups b xs e), fun b o xs e => trk _ _ (I.base.frzs b o xs e), fun b ps e => ?_⟩,
  ?_, fun x c e => ?_, free _ lnch I.free, fun x c e => free c (fun z => (hch c z).2.2.1 x c e rfl) (I.freeC x c e), fun p hp => ?_, hok, I.len⟩
 ·have h1 := I.base.keep b o e n hb hx
  exact keep b o (fun z => by
   rcases ZAZ.mp (I.stkSub b z) with y | y
   ·exact absurd (ZAM (ZAE e) I.ok.above) (by rw [y]; exact ZBJ _)
   ·exact hb y) (neC b o e hx) h1 (I.base.free b o e n hx)
 ·show 197
  obtain ⟨sl', e2⟩ := slot b _ (hfs b hb) e1
  exact ⟨sl', e2⟩
 ·show 182
  exact there b o' (neC b o e hx) e1
 ·obtain ⟨m1, e1⟩ := I.base.tbls b ps e
  exact ⟨m1, trk _ _ e1⟩
 ·obtain ⟨m, hn, hl⟩ := I.loc
  refine ⟨m, nsK m hn, fun i x v e1 e2 e3 => ?_⟩
  obtain ⟨u, r, l⟩ := hl i x v e1 e2 e3
  refine ⟨u, r, ?_⟩
  rcases l with l | ⟨k, c, e, z⟩
  ·exact .inl l
  ·exact .inr ⟨k, c, e, cellK x c e _ z⟩
 ·obtain ⟨v, z⟩ := I.cell x c e
  exact ⟨v, cellK x c e v z⟩
 ·show 199
  have nch : p.1 ∉ ch := fun z => (hch p.1 z).1.2 p hp rfl
  refine ⟨keep p.1 p.2 (fun z => ?_) nch e n, free p.1 nch n, ne, nf, d⟩
  rcases ZAZ.mp (I.stkSub p.1 z) with y | y
  ·exact ne y
  ·exact nf y
theorem _root_.L2.Inv.gone {i : Nat} {n : Str} {h' : Heap} {v : Option Value} {m : SOV} {t' : Nat} (I : Inv X pins σ H s) (hN : X.N.Nodup) (hi : X.N[i]? = some n) (hk : X.env.kindOf n = some .local) (hn : s.heap.Ns X.env.locals m)
 (hl : ∀ (i : Nat) (x : Str) (v : V), X.N[i]? = some x -> σ[i]? = some (some v) -> Vis X.env.scope x -> ∃ u, RelV v u /\ Look X.env s.heap m x u)
 (hn' : h'.Ns X.env.locals (fun x => if x = n then v else m x)) (hs : Heap.SameBut X.env.locals s.heap h') : Inv X pins (σ.set i none) H { s with heap := h', toks := t' } := by
 have cne := I.cne
 obtain ⟨oL, _, _, hoL, _⟩ := id hn
 have lt : ∀ b o, X.s₀.heap.get? b = some o -> b ≠ X.env.locals := fun b o e => ZAL (ZAM (ZAE e) I.ok.above)
 refine ⟨I.ok, I.os, I.bare, ⟨fun b o e n hb hx => (hs.2 b (lt b o e)).trans (I.base.keep b o e n hb hx), fun b o e n hb hx => ?_, I.base.free, fun b o e hx => ?_, I.base.tups, I.base.frzs, I.base.tbls⟩, ⟨_, hn', fun j y v' e1 e2 e3 => ?_⟩, fun y c e => ?_, I.free, I.freeC, fun p hp => ?_, fun b ob e => ?_, by simpa using I.len⟩
 ·show 197
  exact ⟨sl, (hs.2 b (lt b o e)).trans e1⟩
 ·show 182
  exact ⟨o', (hs.2 b (lt b o e)).trans e1⟩
 ·have hj : i ≠ j := fun z => by
   subst z
   by_cases hlt : i < σ.length
   ·rw [ZAU hlt] at e2; cases e2
   ·rw [ZCJ (by omega)] at e2
    have := (ZAD.mp e2).1
    omega
  rw [ZAP hj] at e2
  obtain ⟨u', r', q⟩ := hl j y v' e1 e2 e3
  refine ⟨u', r', ?_⟩
  rcases q with ⟨k, e⟩ | ⟨k, c, e, z⟩
  ·refine .inl ⟨k, ?_⟩
   have : y ≠ n := fun z => hj (Yaf hN hi (z ▸ e1))
   simp [this, e]
  ·exact .inr ⟨k, c, e, z.sameBut hs (cne y c e)⟩
 ·obtain ⟨w', z⟩ := I.cell y c e
  exact ⟨w', z.sameBut hs (cne y c e)⟩
 ·show 199
  exact ⟨(hs.2 p.1 ne).trans e, n, ne, nf, d⟩
 ·refine (I.hok b ob e).stay (fun c w' hc q => (hs.2 c ?_).trans q) (fun _ q => q) fun _ _ q => q
  rintro rfl
  rcases hc with rfl | hc
  ·rw [I.free] at e; cases e
  ·rw [I.free] at hc; cases hc
end
abbrev _root_.L2.Cx.caught (X : Cx) (pins : LAO) (v : Value) : Cx := { X with pn := X.pn ++ pins, A := X.A.mark (some v), calm := false, xe := fun _ _ => False }
theorem _root_.L2.Cx.Ok.caught {X : Cx} (ok : X.Ok) (pins : LAO) (v : Value) : (X.caught pins v).Ok :=
 ⟨ok.mod, ok.kind, ok.glob, ok.blt, ok.above, ok.inj, ok.has, ok.cab, (fun h => by cases h), ok.frames, ok.stk, ok.exf, ok.bs, ok.bsz, ok.noex, ok.exfs, ok.funs, ok.frf⟩
section
variable {X : Cx} {pins : LAO} {σ : St} {H : Hp} {s : Shared}
theorem _root_.L2.Inv.caught (I : Inv X pins σ H s) (v : Value) : Inv (X.caught pins v) [] σ H s :=
 ⟨I.ok.caught pins v, I.os, I.bare, I.base, I.loc, I.cell, I.free, I.freeC, fun p hp => I.pin p (by simpa using hp), I.hok, I.len⟩
end
def Yod (i : Nat) : RS -> RS
 | .nx ρ st => .nx (ρ.set i none) st
 | .rt p st => .rt p st
 | _ => .bad
def Yn6 : RS -> RS
 | .exc _ _ _ => .bad
 | r => r
section
variable {X : Cx} {pins : LAO}
end
end Mi
namespace Mi
open PySem PySem.Spec L2 PySem.W
open PyProof.Rows hiding St
section
variable {prog : Program} {w : World} {A : Around} {E : VSP} {s : Shared} {K : Frag} {x C : Addr} {ox : Obj} {odo : Option Obj} {name : Str}
end
end Mi
namespace Mi
open PySem PySem.Spec L2
open PyProof.Rows hiding St
section
variable {K : Frag}
end
section
variable {X : Cx} {e : Expr} {me : ME} {pos p p' : Pos}
end
end Mi
namespace Mi
open PySem PySem.Spec L2
open PyProof.Rows hiding St
def Yl5 : P -> Bool
 | .non => true
 | .bl _ => true
 | .int _ => true
 | .str _ => true
 | _ => false
def eqF : P -> P -> Bool
 | .non, .non => true
 | .bl a, .bl b => a == b
 | .bl a, .int b => (if a then 1 else 0) == b
 | .int a, .bl b => a == (if b then 1 else 0)
 | .int a, .int b => a == b
 | .str a, .str b => a == b
 | _, _ => false
def Ynp : G2 := fun p q st => match Yl6 q st with
 | some xs => if Yl5 p = true /\ xs.all Yl5 = true then okP (.bl (xs.any fun y => eqF y p)) st else none
 | none => inP p q st
def YnK : G2 := fun p q st => match Yl6 q st with
 | some xs => if Yl5 p = true /\ xs.all Yl5 = true then okP (.bl (!(xs.any fun y => eqF y p))) st else none
 | none => Yn2 p q st
section
variable {K : Frag} {as : List Addr} {H : Hp}
theorem Jz {v : V} {p : P} (d : Den K as H v p) (h : Yl5 p = true) : YmV v = true := by cases d <;> first | rfl | cases h
theorem Yhr {v w : V} {p q : P} (d : Den K as H v p) (e : Den K as H w q) (h : Yl5 p = true) (h' : Yl5 q = true) : eqV v w = eqF p q := by
 cases d <;> first | (cases h; done) | (cases e <;> first | rfl | (cases h'; done))
theorem V0 : ∀ {vs : List V} {ps : List P}, Dens K as H vs ps -> ps.all Yl5 = true -> vs.all YmV = true
 | _, _, .nil, _ => rfl
 | _, _, .cons d r, h => by
  rw [ZBc, ZAi] at h ⊢
  exact ⟨Jz d h.1, V0 r h.2⟩
theorem Ybr {w : V} {q : P} (e : Den K as H w q) (h' : Yl5 q = true) : ∀ {vs : List V} {ps : List P}, Dens K as H vs ps -> ps.all Yl5 = true -> inV w vs = ps.any fun y => eqF y q
 | _, _, .nil, _ => rfl
 | _, _, .cons d r, h => by
  rw [ZBc, ZAi] at h
  have ih := Ybr e h' r h.2
  unfold inV at ih ⊢
  rw [ZBS, ZBS, Yhr d e h.1 h', ih]
end
section
variable {X : Cx}
theorem Ybj (hu : X.A.units + 1 < cLine) : OpR X (compareOp .In) (rM X Ynp) := opM fun pins s σ H x y v u Q as st p q I rx ry rp d1 d2 h => by
 have h' : YlL X as H (match Yl6 q st with
  | some xs => if Yl5 p = true /\ xs.all Yl5 = true then okP (.bl (xs.any fun y => eqF y p)) st else none
  | none => inP p q st) Q := h
 cases z : Yl6 q st with
 | none =>
  rw [z] at h'
  exact YkJ hu pins s σ H x y v u Q I rx ry ⟨as, st, p, q, rp, d1, d2, h'⟩
 | some xs =>
  rw [z] at h'
  by_cases c : Yl5 p = true /\ xs.all Yl5 = true
  ·simp only [if_pos c] at h'
   obtain ⟨a, vs, e1, e2, e3⟩ := Yc3 rp d2 z
   subst e1
   refine Yew pins s σ H x _ v u Q I rx ry ⟨a, vs, rfl, e2, Jz d1 c.1, V0 e3 c.2, ?_⟩
   have := Ybr d1 c.1 e3 c.2
   simp only [Bool.false_eq_true, if_false, this]
   show 192
  ·simp only [if_neg c] at h'; exact h'.elim
theorem Yef (hu : X.A.units + 1 < cLine) : OpR X (compareOp .NotIn) (rM X YnK) := opM fun pins s σ H x y v u Q as st p q I rx ry rp d1 d2 h => by
 have h' : YlL X as H (match Yl6 q st with
  | some xs => if Yl5 p = true /\ xs.all Yl5 = true then okP (.bl (!(xs.any fun y => eqF y p))) st else none
  | none => Yn2 p q st) Q := h
 cases z : Yl6 q st with
 | none =>
  rw [z] at h'
  exact Yho hu pins s σ H x y v u Q I rx ry ⟨as, st, p, q, rp, d1, d2, h'⟩
 | some xs =>
  rw [z] at h'
  by_cases c : Yl5 p = true /\ xs.all Yl5 = true
  ·simp only [if_pos c] at h'
   obtain ⟨a, vs, e1, e2, e3⟩ := Yc3 rp d2 z
   subst e1
   refine YbH pins s σ H x _ v u Q I rx ry ⟨a, vs, rfl, e2, Jz d1 c.1, V0 e3 c.2, ?_⟩
   have := Ybr d1 c.1 e3 c.2
   simp only [if_true, this]
   show 192
  ·simp only [if_neg c] at h'; exact h'.elim
end
end Mi
namespace Mi
open PySem PySem.Spec L2
open PyProof.Rows hiding St
structure Yp9 (N : Addr -> Prop) (H : Hp) (a : Addr) (C : Value) (od : Option Addr) (h : Heap) : Prop where
 na : N a
 ha : H a = none
 tr : ∃ oe vs T oT ts, h.get? a = some oe /\ oe.cls = C /\ oe.dict = od /\ oe.data = .fields vs /\ vs[1]? = some (.ref T) /\ N T /\ H T = none /\ T ≠ a /\ h.get? T = some oT /\ oT.data = .fields ts /\ 3 < ts.size
section
variable {M : Model} {A : Around} {E : VSP} {X : Cx} {pins : LAO} {σ : St} {H : Hp} {s : Shared} {a : Addr} {C : Value} {od : Option Addr} {N : Addr -> Prop}
end
section
variable {X : Cx} {scope : Scope} {TN FN : List Str} {pins : LAO} {σ : St} {H2 : Hp} {s2 : Shared} {fp : List Addr} {Cc : Addr}
end
section
variable {X : Cx}
end
end Mi
namespace Mi
open PySem PySem.Spec L2
open PyProof.Rows hiding St
section
variable {X : Cx}
end
end Mi
namespace Mi
open PySem PySem.Spec L2
open PyProof.Rows hiding St
def YnS : List P -> Option (List Key)
 | [] => some []
 | p :: ps => match Ymr p, YnS ps with
  | some k, some ks => some (k :: ks)
  | _, _ => none
def Ymw : P -> Option (List Key)
 | .tup xs => YnS xs
 | _ => none
section
variable {K : Frag} {as : List Addr} {H : Hp}
theorem Ye7 : ∀ {vs : List V} {xs : List P} {ks : List Key}, Dens K as H vs xs -> YnS xs = some ks -> vs = ks.map kV
 | _, _, ks, .nil, h => by cases h; rfl
 | _, _, ks, .cons (p := p) (ps := ps) d r, h => by
  have h' : (match Ymr p, YnS ps with | some k, some ks => some (k :: ks) | _, _ => none) = some ks := h
  cases hk : Ymr p with
  | none => rw [hk] at h'; cases h'
  | some k =>
   cases hs : YnS ps with
   | none => rw [hk, hs] at h'; cases h'
   | some ks' =>
    rw [hk, hs] at h'
    cases h'
    rw [Ye7 r hs, WY d hk]
    rfl
theorem Jm {v : V} {p : P} {ks : List Key} (d : Den K as H v p) (h : Ymw p = some ks) : ∃ b, v = .ref b /\ H b = some (.tup (ks.map kV)) := by
 cases d with
 | tup sq ds tk =>
  have e := Ye7 ds h
  subst e
  exact ⟨_, rfl, tk⟩
 | _ => cases h
def YlV (q : P) (st : Yls) : Option (List (List Key × P)) := match q with
 | .ref k => (match st[k]? with
  | some (.dtt kvs) => some kvs
  | _ => none)
 | _ => none
theorem VH {st : Yls} {q : P} {kvs : List (List Key × P)} {v : V} (rp : Rep K as st H) (d : Den K as H v q) (h : YlV q st = some kvs) :
 ∃ k a ws, q = .ref k /\ st[k]? = some (.dtt kvs) /\ v = .ref a /\ as[k]? = some a /\ H a = some (.dT ws) /\ ws.map (·.1) = kvs.map (·.1) /\ Dens K as H (ws.map (·.2)) (kvs.map (·.2)) := by
 cases d with
 | @ref k a e =>
  have h' : (match st[k]? with | some (.dtt kvs) => some kvs | _ => none) = some kvs := h
  cases w : st[k]? with
  | none => rw [w] at h'; cases h'
  | some ob =>
   rw [w] at h'
   cases ob with
   | dtt kvs' =>
    cases h'
    obtain ⟨ws, h1, h2, h3⟩ := rp.ob k _ _ e w
    exact ⟨k, a, ws, rfl, w, rfl, e, h1, h2, h3⟩
   | _ => cases h'
 | _ => cases h
end
def YoE : G2 := fun p q st => match YlV q st with
 | some kvs => (match Ymw p with
  | some ks => okP (.bl (YlO kvs ks).isSome) st
  | none => none)
 | none => Ynp p q st
def YmQ : G2 := fun p q st => match YlV q st with
 | some kvs => (match Ymw p with
  | some ks => okP (.bl (!(YlO kvs ks).isSome)) st
  | none => none)
 | none => YnK p q st
def YnI : G2 := fun p q st => match YlV p st with
 | some kvs => (match Ymw q with
  | some ks => (YlO kvs ks).map fun p => (p, st)
  | none => none)
 | none => ixP p q st
section
variable {X : Cx} {a b o i e : Expr} {ma mb mo mi me : ME} {pos pos' : Pos}
theorem Ykb (hu : X.A.units + 1 < cLine) : OpR X (compareOp .In) (rM X YoE) := opM fun pins s σ H x y v u Q as st p q I rx ry rp d1 d2 h => by
 have h' : YlL X as H (match YlV q st with
  | some kvs => (match Ymw p with
   | some ks => okP (.bl (YlO kvs ks).isSome) st
   | none => none)
  | none => Ynp p q st) Q := h
 cases z : YlV q st with
 | none =>
  rw [z] at h'
  exact Ybj hu pins s σ H x y v u Q I rx ry ⟨as, st, p, q, rp, d1, d2, h'⟩
 | some kvs =>
  rw [z] at h'
  cases w : Ymw p with
  | none => show 233
  | some ks =>
   simp only [w] at h'
   obtain ⟨k, a, ws, rfl, _, rfl, e, g4, g5, g6⟩ := VH rp d2 z
   obtain ⟨b, rfl, eb⟩ := Jm d1 w
   cases ry
   refine d_in hu I (YmK.t (k := ks) g4 eb) rx fun s3 I3 => ⟨.bl _, H, I3, rfl, ?_⟩
   rw [Zj (Y5 (k := ks) g5 g6)]
   show 192
theorem Yea (hu : X.A.units + 1 < cLine) : OpR X (compareOp .NotIn) (rM X YmQ) := opM fun pins s σ H x y v u Q as st p q I rx ry rp d1 d2 h => by
 have h' : YlL X as H (match YlV q st with
  | some kvs => (match Ymw p with
   | some ks => okP (.bl (!(YlO kvs ks).isSome)) st
   | none => none)
  | none => YnK p q st) Q := h
 cases z : YlV q st with
 | none =>
  rw [z] at h'
  exact Yef hu pins s σ H x y v u Q I rx ry ⟨as, st, p, q, rp, d1, d2, h'⟩
 | some kvs =>
  rw [z] at h'
  cases w : Ymw p with
  | none => show 233
  | some ks =>
   simp only [w] at h'
   obtain ⟨k, a, ws, rfl, _, rfl, e, g4, g5, g6⟩ := VH rp d2 z
   obtain ⟨b, rfl, eb⟩ := Jm d1 w
   cases ry
   refine YdE hu I (YmK.t (k := ks) g4 eb) rx fun s3 I3 => ⟨.bl _, H, I3, rfl, ?_⟩
   rw [Zj (Y5 (k := ks) g5 g6)]
   show 192
theorem YjU (hu : X.A.units + 1 < cLine) : IxR X (rM X YnI) := IxR.imp ((YfX (X := X) hu).or (YbB hu)) fun x y H Q ⟨as, st, p, q, rp, d1, d2, h⟩ => by
 have h' : YlL X as H (match YlV p st with
  | some kvs => (match Ymw q with
   | some ks => (YlO kvs ks).map fun p => (p, st)
   | none => none)
  | none => ixP p q st) Q := h
 cases z : YlV p st with
 | none => rw [z] at h'; exact .inl ⟨as, st, p, q, rp, d1, d2, h'⟩
 | some kvs =>
  rw [z] at h'
  cases w : Ymw q with
  | none => show 233
  | some ks =>
   simp only [w] at h'
   obtain ⟨k, a, ws, rfl, _, rfl, e, g4, g5, g6⟩ := VH rp d1 z
   obtain ⟨b, rfl, eb⟩ := Jm d2 w
   cases zz : YlO kvs ks with
   | none => rw [zz] at h'; exact h'.elim
   | some p =>
    rw [zz] at h'
    have od := Y5 (k := ks) g5 g6
    rw [zz] at od
    cases hv : YmO ws ks with
    | none => rw [hv] at od; cases od
    | some v =>
     rw [hv] at od
     cases od with
     | some dd => exact .inr ⟨a, v, rfl, by rw [<- hv]; exact YmK.t g4 eb, h' as H _ Ext.refl rp dd⟩
theorem YgK (hu : X.A.units + 1 < cLine) (ha : JE X a ma) (hb : JE X b mb) (hs : Ynl b) : JE X (.Subscript a b pos) (Ylw YnI ma mb) := PE.imp (Yf6 (YjU hu) ha hb hs) fun _ _ _ h => VT h
def YmF (mo mi me : ME) : MS := fun ρ st => RS.ofE ρ (me ρ st) fun v st1 => RS.ofE ρ (mo ρ st1) fun o st2 => RS.ofE ρ (mi ρ st2) fun i st3 => match o, YlV o st3, Ymw i with
 | .ref k, some kvs, some ks => if kvs.length < cap then .nx ρ (st3.set k (.dtt (Yma kvs ks v))) else .bad
 | _, _, _ => .bad
theorem YbA (hu : X.A.units + 1 < cLine) (ho : JE X o mo) (hi : JE X i mi) (hv : JE X e me) (hs : swapsWith e (some (.Subscript o i pos')) pos.line X.env = pure false := by rfl) : JS X (.Assign [.Subscript o i pos'] e pos) (YmF mo mi me) :=
 PS.imp (Yfc hu ho hi hv hs) fun D σ H ⟨as, ρ, st, en, rp, h⟩ => ⟨as, ρ, st, en, rp, YlN.ofE h fun pv st1 as1 H1 v x1 rp1 dv h1 => ⟨as1, ρ, st1, en.ext x1, rp1, YlN.ofE h1 fun po st2 as2 H2 x x2 rp2 dx h2 =>
  ⟨as2, ρ, st2, (en.ext x1).ext x2, rp2, YlN.ofE h2 fun pi st3 as3 H3 y x3 rp3 dy h3 => by
   have dv := (dv.ext x2).ext x3
   have dx := dx.ext x3
   have en3 := ((en.ext x1).ext x2).ext x3
   cases z : YlV po st3 with
   | none => cases po <;> (simp only [z] at h3; exact h3.elim)
   | some kvs =>
    cases w : Ymw pi with
    | none => cases po <;> (simp only [z, w] at h3; exact h3.elim)
    | some ks =>
     obtain ⟨k, a, ws, rfl, hk, rfl, e1, h4, h5, h6⟩ := VH rp3 dx z
     simp only [z, w] at h3
     by_cases hl : kvs.length < cap
     ·rw [ZAG hl] at h3
      obtain ⟨b, rfl, eb⟩ := Jm dy w
      obtain ⟨g1, g2⟩ := Ya8 (k := ks) dv h5 h6
      have hlen : ws.length = kvs.length := by simpa using congrArg List.length h5
      refine .inr ⟨a, _, rfl, YnV.t h4 eb (by rw [hlen]; exact ZAM hl Yp), ?_⟩
      exact h3 as3 _ _ (Ext.write h4 trivial) (rp3.write e1 h4 trivial (fun z => z) (by rw [hk]; exact fun z => z) ⟨_, Yj, g1, g2.ext (Ext.write h4 trivial)⟩) (en3.ext (Ext.write h4 trivial))
     ·rw [ZAF hl] at h3; exact h3.elim⟩⟩⟩
def Ym3 : ME := fun _ st => .ok (.ref st.length) (st ++ [.dtt []])
theorem YaO : JE X (.Dict [] [] pos) Ym3 := PE.imp Ye6 fun σ H Q ⟨as, ρ, st, en, rp, h⟩ p hp =>
 h (as ++ [p]) _ _ (Ext.new hp) (rp.new hp ⟨[], Yj, rfl, .nil⟩) (.ref (by rw [<- rp.len]; exact VL))
end
end Mi
namespace Mi
open PySem PySem.Spec L2
open PyProof.Rows hiding St
structure Yob (k : Nat) (A : Around) : Prop where
 dp : A.depth + 3 * k + 5 < recursionLimit
 un : A.units + 16 * k + 200 < cLine
theorem Yob.deeper {k : Nat} {A : Around} (r : Yob (k + 1) A) (env : Env) : Yob k (A.deeper env) :=
 ⟨by have := r.dp; show A.depth + 1 + 3 * k + 5 < _; omega, by have := r.un; show A.units + 3 + 16 * k + 200 < _; omega⟩
structure Ypg (P' : Program) (w : World) (K : Frag) (mg : SOV) (base : Heap) (k : Nat) (f : Addr) (fd : FuncData) (ps : List Str) (sp : Sp) : Prop where
 run : ∀ (A : Around) (outer : List Env) (s : Shared) (H : Hp) (args : Args) (us : List Value) (vs : List V) (Q : VK) (E : XK), Yob k A -> Yn1 P' w K mg base A outer s H -> BindsTo s fd args (ps.zip us) -> Vals vs us -> sp vs H Q E ->
  codeAny (model P' w) A (.call (.ref f) args) (CR CX0 outer P' w H s Q E) s
section
variable {P' : Program} {w : World} {K : Frag} {mg : SOV} {base : Heap}
end
structure FnH (P' : Program) (w : World) (K : Frag) (mg : SOV) (base : Heap) (x : Str) (k : Nat) (ps : List Str) (mf : MF) : Prop where
 ex : ∃ f fd, Ypg P' w K mg base k f fd ps (spM K ps.length mf) /\ mg x = some (.ref f) /\ PySem.W.keepIn K (.ref f) = true /\ Binds K fd ps []
section
variable {P' : Program} {w : World} {K : Frag} {mg : SOV} {base : Heap} {x : Str} {st : Stmt} {N ps : List Str} {k : Nat} {m : MS}
end
end Mi
namespace Mi
open PySem PySem.Spec L2
open PyProof.Rows hiding St
section
variable {X : Cx}
end
end Mi
namespace Mi
open PySem
open Sem (wp)
section
variable {prog : Program} {w : World} {A : Around} {E : VSP} {h : Heap} {g : Array GenState} {d : Drawn} {t : Nat} {os : OsState}
variable {nm q : Str} {C N : Addr} {bs bm bmB : List Value} {hdct : Bool} {sn : List Str} {sub : List Value} {ab : Bool} {col : Option Bool} {dd : Option Addr} {k0 k1 k2 k3 k5 : Option Value} {B Bn newId nid initId inN : String} {bmN : List Value}
end
section
variable {prog : Program} {w : World} {A : Around} {E : VSP} {s : Shared} {env : Env}
variable {nm q : Str} {C N : Addr} {bs bm bmB : List Value} {hdct : Bool} {sn : List Str} {sub : List Value} {ab : Bool} {col : Option Bool} {dd : Option Addr} {k0 k1 k2 k3 k5 : Option Value} {B Bn newId nid initId inN : String} {bmN : List Value}
end
end Mi
namespace Mi
open PySem PySem.Spec L2 PySem.W
open PyProof.Rows hiding St
open Builtin Builtin.ObjectAttr
def YoS : List Value -> Bool
 | .ref _ :: r => YoS r
 | [.type a, .type b, .type c, .type d] => a == "ValueError" && b == "Exception" && c == "BaseException" && d == "object"
 | _ => false
def Yo1 (K : Frag) (C : Addr) : Bool := (clsIn K C).any fun cd => YoS cd.mro
section
variable {prog : Program} {w : World} {A : Around} {E : VSP} {s : Shared} {K : Frag} {x C : Addr} {ox : Obj} {name : Str} {v : Value}
end
end Mi
namespace Mi
open PySem PySem.Spec L2 PySem.W
open PyProof.Rows hiding St
open Builtin Builtin.ObjectAttr
section
variable {prog : Program} {w : World} {A : Around} {E : VSP} {s : Shared} {K : Frag} {x C : Addr} {ox : Obj}
end
section
variable {X : Cx} {pins : LAO} {σ : St} {H H' : Hp} {s : Shared}
theorem _root_.L2.Inv.swap {pins' : LAO} {h' : Heap} {t' : Nat} (I : Inv X pins σ H s) (hpn : X.pn = []) (fs : ∀ b ∈ X.fs, b ∈ frs X.stack)
 (hch : ∀ p ∈ pins', (p.1 ∈ X.ex \/ X.s₀.heap.get? p.1 = none) /\ p.1 ≠ X.env.locals /\ (∀ x c, X.env.cells.lookup x = some c -> c ≠ p.1) /\ p.1 ∉ frs X.stack /\ H p.1 = none /\ h'.get? p.1 = some p.2 /\ ∀ v, p.2.data ≠ .cell v)
 (keep : ∀ b o, b ∉ pins'.map (·.1) -> s.heap.get? b = some o -> h'.get? b = some o) : Inv X pins' σ H { s with heap := h', toks := t' } := by
 have I0 : Inv X [] σ H s := I.pins_of fun p hp => absurd hp (by simp)
 obtain ⟨m, ⟨oL, es, ep, hoL, _⟩, _⟩ := id I.loc
 have ne : ∀ b, b ∈ pins'.map (·.1) -> ∃ p ∈ pins', p.1 = b := fun b hb => by
  obtain ⟨p, hp, e⟩ := ZAb.mp hb
  exact ⟨p, hp, e⟩
 have q := L2.Inv.stepN (t' := t') (h' := h') (H' := H) (ch := pins'.map (·.1)) I0 (fun b hb => by
  obtain ⟨p, hp, rfl⟩ := ne b hb
  obtain ⟨a1, a2, a3, a4, _⟩ := hch p hp
  exact ⟨⟨a1, fun r hr => absurd hr (by rw [hpn]; simp)⟩, a2, a3, a4⟩)
  (fun b o _ hc e _ => keep b o hc e) (fun b o hb e => ⟨o.slots, keep b o (fun z => by obtain ⟨p, hp, rfl⟩ := ne b z; exact (hch p hp).2.2.2.1 hb) e⟩) (fun b _ q => q)
  (fun b o hc e => ⟨o, keep b o hc e⟩) (fun b u q => q) ⟨oL, oL.slots, hoL, keep _ _ (fun z => by obtain ⟨p, hp, e⟩ := ne _ z; exact (hch p hp).2.1 e) hoL⟩ fs (fun b u e => by
   refine (I.hok b u e).stay (fun c v hc q => keep c v (fun z => ?_) q) (fun _ q => q) fun _ _ q => q
   obtain ⟨p, hp, rfl⟩ := ne c z
   have hn := (hch p hp).2.2.2.2.1
   rcases hc with hc | hc
   ·rw [hc, e] at hn; cases hn
   ·rw [hc] at hn; cases hn)
 refine q.pins_of fun p hp => ?_
 obtain ⟨a1, a2, a3, a4, a5, a6, a7⟩ := hch p hp
 exact ⟨a6, a5, a2, fun z => a4 (fs _ z), a7⟩
end
end Mi
namespace Mi
open PySem PySem.Spec L2 PySem.W
open PyProof.Rows hiding St
def Short (v : V) : Prop := (∃ i : Int, v = .int i /\ i.natAbs.log2 < 1920) \/ ∃ x : Str, v = .str x /\ x.length <= 2000
structure Own (X : Cx) : Prop where
 pn : X.pn = []
 ex : X.ex = []
 fs : ∀ b ∈ X.fs, b ∈ frs X.stack
section
variable {X : Cx} {pins : LAO} {σ : St} {H : Hp} {s : Shared}
variable {e C : Addr} {fs : List (Str × V)}
end
end Mi
namespace Mi
open PySem PySem.Spec L2 PySem.W
open PyProof.Rows hiding St
def shapeOf (o : Obj) : Option (ClassData × List (Option Value)) := match o with
 | { cls := .type t, data := .cls d, slots := z, .. } => if t = "type" then some (d, z.toList) else none
 | _ => none
def YpD : List (Option Value) -> Bool
 | [_, _, _, _, some (.builtin n), _] => n == "ValueError.__new__"
 | _ => false
def behind (C : Addr) : List Value -> Option (List Value)
 | .ref D :: r => if D = C then some r else none
 | _ => none
def Yo4 (K : Frag) (C fI : Addr) : Bool := match (K.lookup C).bind shapeOf with
 | some (d, z) => YpD z && (!d.hasDel && (nsOkIn K d.ns && ((nsIn K d.ns "__init__" == some (some (.ref fI))) && (match behind C d.mro with | some r => tailIn K Yp4 r | none => false))))
 | none => false
structure Yp8 (K : Frag) (C G : Addr) (ats : List Str) : Prop where
 over : Yo1 K C = true
 sa : findIn K (.ref C) "__setattr__" = some (some (.builtin "object.__setattr__"))
 hd : hasDictIn K C = true
 sp : specialIn K (.ref G) "__getattribute__" = some (some (.builtin "type.__getattribute__"))
 rd : readsIn K G (.type "type") = true
 cl : findCls K (.ref G) (.type "type") "__init__" = some (.val (.builtin "ValueError.__init__"))
 no : ∀ a ∈ ats, findIn K (.ref C) a = some none
section
variable {X : Cx} {σ : St} {e C : Addr} {fs fs' : List (Str × V)}
end
structure Made (P : Program) (w : World) (outer : List Env) (s s' : Shared) (H : Hp) (e C : Addr) (fs : List (Str × V)) : Prop where
 os : s'.os = s.os
 bare : AllBare s'.gens
 un : Un (frs outer) [] H H s.heap s'.heap
 hok : HOk P w H s'.heap
 ex : ∃ oe vs, s'.heap.get? e = some oe /\ oe.cls = .ref C /\ oe.data = .fields vs /\ vs[1]? = some .none /\
  ((oe.dict = none /\ fs = []) \/ ∃ d mA, oe.dict = some d /\ d ≠ e /\ s.heap.get? d = none /\ H d = none /\ s'.heap.Ns1 d mA /\ ∀ f, Ynb (fs.lookup f) (mA f))
section
variable {P : Program} {w : World} {K : Frag} {mg : SOV} {base : Heap}
end
end Mi
namespace Mi
open PySem PySem.Spec L2 PySem.W
open PyProof.Rows hiding St
theorem Dens.getD {K : Frag} {as : List Addr} {H : Hp} : ∀ {vs : List V} {ps : List P}, Dens K as H vs ps -> ∀ i : Nat, Den K as H (vs.getD i .non) (ps.getD i .non)
 | _, _, .nil, i => by simp; exact .non
 | _, _, .cons d r, 0 => by simp; exact d
 | _, _, .cons d r, i + 1 => by
  have := Dens.getD r i
  show 167
structure Yp6 (P' : Program) (w : World) (K : Frag) (mg : SOV) (base : Heap) (c : Str) (k n : Nat) (ats : List (Str × Nat)) : Prop where
 ex : ∃ C fI oI, nsIn K mainGlobals c = some (some (.ref C)) /\ Yo4 K C fI = true /\ K.lookup fI = some oI /\ oI.cls = .type "function" /\
  ∀ (A : Around) (outer : List Env) (s : Shared) (H : Hp) (us : List Value) (vs : List V) (h' : Heap) (e : Addr) (Q : VSP) (E : VSP), Ymm k A -> Yn1 P' w K mg base A outer s H -> Yn1 P' w K mg base A outer { s with heap := h' } H -> vs.length = n -> Vals vs us -> (∀ v ∈ vs, Short v) ->
   Heap.MadeExcOf s.heap h' e (.ref C) us -> s.heap.objs.size <= h'.objs.size -> (∀ s', Made P' w outer s s' H e C (ats.map fun p => (p.1, vs.getD p.2 .non)) -> Q .none s') -> wpAny (model P' w) A (call (.ref fI) (.ref e :: us)) Q E { s with heap := h' }
end Mi
namespace Mi
open PySem PySem.Spec L2 PySem.W
open PyProof.Rows hiding St
section
variable {prog : Program} {w : World} {A : Around} {E : VSP} {s : Shared} {K : Frag} {x C : Addr} {ox : Obj} {odo : Option Obj} {name : Str} {expr : Bool}
end
section
variable {X : Cx} {e : Expr} {me : ME} {pos : Pos}
end
end Mi
namespace Mi
open PySem PySem.Spec L2 PySem.W
open PyProof.Rows hiding St
abbrev HM := Xc -> Rho -> Yls -> RS
section
variable {X : Cx}
end
end Mi
namespace Mi
open PySem PySem.Spec L2
open PyProof.Rows hiding St
section
variable {X : Cx}
end
end Mi
namespace L2
open PySem PySem.Spec PyProof.Rows
section
variable {X : Cx} {pins : LAO} {σ : List (Option V)} {H : Hp} {s : Shared} {a : Addr} {o : Obj} {ws : List (Key × V)}
theorem Inv.freeze (I : Inv X pins σ H s) (e : H a = some (.dK ws)) : ∃ o, Inv X pins σ (upd H a (.frz o (.dK ws))) s := by
 have ob : YlZ X.prog X.w H s.heap a (.dK ws) := I.hok a _ e
 obtain ⟨z, y, vs, r, o, es, ep, ho, c⟩ := id ob
 exact ⟨o, I.write (x := a) (e := a) (o := .frz o (.dK ws)) (h' := s.heap) (t' := s.toks) (by rw [e]; trivial) (.inl rfl) (fun _ _ _ q => q) ⟨o, ho⟩ ⟨ho, ob⟩⟩
theorem Inv.thaw (I : Inv X pins σ H s) (e : H a = some (.frz o (.dK ws))) (n1 : ∀ xs, X.H₀ a ≠ some (.tup xs)) (n2 : ∀ o u, X.H₀ a ≠ some (.frz o u)) (n3 : ∀ ps, X.H₀ a ≠ some (.tbl ps)) : Inv X pins σ (upd H a (.dK ws)) s := by
 have hn : ∀ b, H b = none -> b ≠ a := fun b q z => by subst z; rw [e] at q; cases q
 refine ⟨I.ok, I.os, I.bare, ⟨I.base.keep, I.base.slot, fun b u q n x => ?_, I.base.there, fun b xs q => ?_, fun b u v q => ?_, fun b ps q => ?_⟩, I.loc, I.cell, ?_, fun x c q => ?_, fun p hp => ?_, fun b u q => ?_, I.len⟩
 ·have := I.base.free b u q n x
  rw [Yg (hn b this)]; exact this
 ·by_cases h : b = a
  ·subst h; exact absurd q (n1 xs)
  ·rw [Yg h]; exact I.base.tups b xs q
 ·by_cases h : b = a
  ·subst h; exact absurd q (n2 u v)
  ·rw [Yg h]; exact I.base.frzs b u v q
 ·by_cases h : b = a
  ·subst h; exact absurd q (n3 ps)
  ·rw [Yg h]; exact I.base.tbls b ps q
 ·rw [Yg (hn _ I.free)]; exact I.free
 ·rw [Yg (hn _ (I.freeC x c q))]; exact I.freeC x c q
 ·obtain ⟨a1, a2, a3⟩ := I.pin p hp
  exact ⟨a1, by rw [Yg (hn _ a2)]; exact a2, a3⟩
 ·by_cases h : b = a
  ·subst h
   rw [Yj] at q; cases q
   exact (show YlZ X.prog X.w H s.heap b (.frz o (.dK ws)) from I.hok b _ e).2
  ·rw [Yg h] at q
   refine (I.hok b u q).stay (fun c v hc r => r) (fun c r => ?_) fun c xs r => ?_
   ·rw [Yg (by rintro rfl; rw [e] at r; cases r)]; exact r
   ·rw [Yg (by rintro rfl; rw [e] at r; cases r)]; exact r
end
def Itk (a : Addr) (o : Obj) (ws : List (Key × V)) : It :=
 ⟨fun i H => H a = some (.frz o (.dK ws)) /\ i < ws.length, fun i H x H' => H' = H /\ ∃ p, ws[i]? = some p /\ x = kV p.1, fun i H => H a = some (.frz o (.dK ws)) /\ ws.length <= i⟩
theorem YiE {k : Key} {v : Value} (h : Ynr k v = true) : RelV (kV k) v := by
 rcases Yv h with ⟨i, t, rfl, rfl⟩ | ⟨x, t, rfl, rfl⟩
 ·exact ⟨t, rfl⟩
 ·exact ⟨t, rfl⟩
theorem KV.key {ws : List (Key × V)} {vs : List (Key × Value)} (r : KV ws vs) : ∀ {i : Nat} {k : Key} {x : Value}, vs[i]? = some (k, x) -> ∃ p, ws[i]? = some p /\ p.1 = k := by
 induction r with
 | nil => intro i k x e; simp at e
 | @cons p q ps qs h t ih =>
  intro i k x e
  cases i with
  | zero => simp at e; subst e; exact ⟨p, rfl, h.1⟩
  | succ j =>
   obtain ⟨p', h1, h2⟩ := ih (i := j) (by simpa using e)
   exact ⟨p', by simpa using h1, h2⟩
theorem YgO {X : Cx} {pins : LAO} {σ : List (Option V)} {H : Hp} {s : Shared} {a : Addr} {o : Obj} {ws : List (Key × V)} {es : Array DictEntry} {ep : Nat} (I : Inv X pins σ H s) (e : H a = some (.frz o (.dK ws))) (hd : o.data = .dict es ep) :
 ∃ vs, KV ws vs /\ s.heap.DictAt (YlC X.prog X.w) a vs ep /\ vs.length = ws.length /\ (a == sysModules) = false := by
 obtain ⟨ho, z, y, vs, r, o', es', ep', h1, h2, h3, h4⟩ := (show YlZ X.prog X.w H s.heap a (.frz o (.dK ws)) from I.hok a _ e)
 rw [ho] at h1; cases h1
 rw [hd] at h3; cases h3
 exact ⟨vs, r, ⟨o, es, ho, h2, hd, h4⟩, (Paired.length r).symm, y⟩
theorem Ye1 {P : Program} {w : World} {K : Frag} {tg : Expr} (a it : Addr) (o : Obj) (ws : List (Key × V)) {es : Array DictEntry} {ep : Nat} (hd : o.data = .dict es ep) : Turn P w K tg (Itk a o ws) [it] it (fun i h => h.IsKeyIter it a i ws.length ep) where
 mem := by simp
 obj := fun i h st b hb => by
  show 63
 keep := fun i h h' st k => st.at fun o e => k it (by simp) o e
 item := by
  show 11
  obtain ⟨he, hi⟩ := hg
  obtain ⟨vs, r, da, hl, _⟩ := YgO I he hd
  show 172
  obtain ⟨⟨k, x⟩, hx⟩ : ∃ p, vs[i]? = some p := ⟨vs[i]'(by omega), by simp [hl, hi]⟩
  obtain ⟨p, hp, hpk⟩ := KV.key r hx
  rw [<- hl] at st
  refine wpAny_pyNext_dict_item st da hx fun key h' hkey st' sb => ?_
  have I1 : Inv X pins σ H { s with heap := h' } := I.turned (t' := s.toks) (fun b o hb e => (sb.2 b hb).trans e) f0 f1 f3 f4 f5
  rw [hl] at st'
  obtain ⟨o, e, c, d⟩ := id st'
  exact ⟨key, rfl, YbI (s := { s with heap := h' }) e c d (by decide) ⟨kV k, H, I1, YiE hkey, ⟨rfl, p, hp, by rw [hpk]⟩, st', fun b hb => (hf b hb).1⟩⟩
 done := by
  show 11
  obtain ⟨he, hi⟩ := hg
  obtain ⟨vs, r, da, hl, _⟩ := YgO I he hd
  show 172
  rw [<- hl] at st
  exact wpAny_pyNext_dict_end (I.ok.hd hc) st da (by simp; omega) fun h' eb => ⟨rfl, I.turned (t' := s.toks) (fun b o hb e => eb b o hb e) f0 f1 f3 f4 f5⟩
 self := fun _ _ _ _ _ st h => wpAny_pyIter_keyiter st h
theorem Yh1 {X : Cx} {tg : Expr} {pins : LAO} {σ : St} {H : Hp} {s : Shared} {a : Addr} {o : Obj} {ws : List (Key × V)} {R : It -> Hp -> Prop} {E : VSP} (I : Inv X pins σ H s) (e : H a = some (.frz o (.dK ws))) (q : R (Itk a o ws) H) :
 wpAny (model X.prog X.w) X.A (pyIter (.ref a)) (PIE X pins σ tg R) E s := by
 obtain ⟨ho, z, y, vs, r, o', es, ep, h1, h2, h3, h4⟩ := (show YlZ X.prog X.w H s.heap a (.frz o (.dK ws)) from I.hok a _ e)
 rw [ho] at h1; cases h1
 refine wpAny_pyIter_dict (knd := YlC X.prog X.w) y ⟨o, es, ho, h2, h3, h4⟩ ?_
 refine ⟨s.heap.objs.size, [s.heap.objs.size], _, _, H, rfl, I.kept (t' := s.toks) fun b o e => ZAC _ e, Ye1 a _ o ws h3, ⟨_, ZAK _ rfl, rfl, by rw [show ws.length = vs.length from Paired.length r]; rfl⟩, fun b hb => ?_, q⟩
 show 53
end L2
namespace Mi
open PySem PySem.Spec L2
open PyProof.Rows hiding St
section
variable {K : Frag} {as : List Addr} {H : Hp} {st : Yls} {a : Addr} {o : Obj} {ws : List (Key × V)} {u : HO}
theorem SqT.thaw {b : Addr} {vs : List V} (e : H a = some (.frz o (.dK ws))) (h : SqT K H b vs) : SqT K (upd H a u) b vs := by
 rcases h with (h | ⟨ob, h⟩) | h
 ·exact .inl (.inl (by rw [Yg (by rintro rfl; rw [e] at h; cases h)]; exact h))
 ·exact .inl (.inr ⟨ob, by rw [Yg (by rintro rfl; rw [e] at h; cases h)]; exact h⟩)
 ·exact .inr h
mutual
theorem Den.thaw {v : V} {p : P} (e : H a = some (.frz o (.dK ws))) (h : Den K as H v p) : Den K as (upd H a u) v p :=
 match h with
 | .non => .non
 | .bl => .bl
 | .int => .int
 | .str => .str
 | .ref q => .ref q
 | .tup q r t => .tup (SqT.thaw e q) (Dens.thaw e r) (by rw [Yg (by rintro rfl; rw [e] at t; cases t)]; exact t)
theorem Dens.thaw {vs : List V} {ps : List P} (e : H a = some (.frz o (.dK ws))) (h : Dens K as H vs ps) : Dens K as (upd H a u) vs ps :=
 match h with
 | .nil => .nil
 | .cons x r => .cons (Den.thaw e x) (Dens.thaw e r)
end
theorem Yns.thaw {b : Addr} {ob : O} (e : H a = some (.frz o (.dK ws))) (hb : b ≠ a) (h : Yns K as H b ob) : Yns K as (upd H a u) b ob := by
 cases ob with
 | lst xs => obtain ⟨vs, h1, h2⟩ := h; exact ⟨vs, by rw [Yg hb]; exact h1, h2.thaw e⟩
 | ro xs =>
  obtain ⟨vs, h1, h2⟩ := h
  refine ⟨vs, ?_, h2.thaw e⟩
  rcases h1 with ⟨o, h1⟩ | h1
  ·exact .inl ⟨o, by rw [Yg hb]; exact h1⟩
  ·exact .inr h1
 | dct kvs => obtain ⟨ws, h1, h2, h3⟩ := h; exact ⟨ws, by rw [Yg hb]; exact h1, h2, h3.thaw e⟩
 | exc c fs =>
  obtain ⟨C, od, h1, h2, h3⟩ := h
  refine ⟨C, od, h1, by rw [Yg hb]; exact h2, ?_⟩
  rcases h3 with h3 | ⟨d, ws, h4, h5, h6, h7⟩
  ·exact .inl h3
  ·exact .inr ⟨d, ws, h4, by rw [Yg (by rintro rfl; rw [e] at h5; cases h5)]; exact h5, h6, h7.thaw e⟩
 | dtt kvs => obtain ⟨ws, h1, h2, h3⟩ := h; exact ⟨ws, by rw [Yg hb]; exact h1, h2, h3.thaw e⟩
 | fdc kvs => obtain ⟨o, ws, h1, h2, h3⟩ := h; exact ⟨o, ws, by rw [Yg hb]; exact h1, h2, h3.thaw e⟩
theorem Rep.thaw {k : Nat} {kvs : List (Key × P)} (r : Rep K as st H) (hk : as[k]? = some a) (e : H a = some (.frz o (.dK ws))) (hs : st[k]? = some (.fdc kvs)) : Rep K as (st.set k (.dct kvs)) (upd H a (.dK ws)) where
 len := by rw [ZBs]; exact r.len
 nd := fun i j b hi hj ni nj => by
  have key : ∀ (i : Nat), (¬ Ym0 (st.set k (.dct kvs))[i]?) -> ¬ Ym0 st[i]? := fun i ni z => by
   by_cases h : k = i
   ·subst h; rw [hs] at z; exact z
   ·rw [ZAP h] at ni; exact ni z
  exact r.nd i j b hi hj (key i ni) (key j nj)
 ob := fun i b q hi hq => by
  have hkl : k < st.length := (ZAD.mp hs).1
  by_cases h : k = i
  ·subst h
   rw [hk] at hi; cases hi
   rw [ZAU hkl] at hq
   cases hq
   obtain ⟨o2, ws2, h1, h2, h3⟩ := r.ob k a _ hk hs
   rw [e] at h1; cases h1
   exact ⟨ws, Yj, h2, h3.thaw e⟩
  ·rw [ZAP h] at hq
   have old := r.ob i b q hi hq
   show 180
   ·subst hb
    by_cases hr : Ym0 st[i]?
    ·rw [hq] at hr
     cases q with
     | ro xs =>
      obtain ⟨vs, h1, h2⟩ := old
      refine ⟨vs, ?_, h2.thaw e⟩
      rcases h1 with ⟨ob, h1⟩ | h1
      ·rw [e] at h1; cases h1
      ·exact .inr h1
     | _ => exact hr.elim
    ·exact absurd (r.nd k i b hk hi (by rw [hs]; exact fun z => z) hr) h
   ·exact old.thaw e hb
theorem YlM.thaw {ρ : Rho} {σ : St} (e : H a = some (.frz o (.dK ws))) (h : YlM K as H ρ σ) : YlM K as (upd H a u) ρ σ :=
 ⟨h.len, fun i p q => let ⟨v, h1, h2⟩ := h.val i p q; ⟨v, h1, h2.thaw e⟩⟩
end
def Yof (i : Nat) (m : MS) : MS := fun ρ st => match ρ[i]? with
 | some (some (.ref k)) => (match st[k]? with
  | some (.dct kvs) => (match m ρ (st.set k (.fdc kvs)) with
   | .nx ρ' st' => (match st'[k]? with
    | some (.fdc kvs') => .nx ρ' (st'.set k (.dct kvs'))
    | _ => .bad)
   | _ => .bad)
  | _ => .bad)
 | _ => .bad
section
variable {X : Cx} {tg : Expr}
theorem YjA {sm : Stmt} {m : MS} {i : Nat} (h : JS X sm m) : JS X sm (Yof i m) := by
 intro pins s σ H D I ⟨as, ρ, st, en, rp, q⟩
 unfold Yof at q
 cases z1 : ρ[i]? with
 | none => simp only [z1] at q; exact q.elim
 | some o1 => cases o1 with
  | none => simp only [z1] at q; exact q.elim
  | some p => cases p with
   | ref k =>
    simp only [z1] at q
    cases z2 : st[k]? with
    | none => simp only [z2] at q; exact q.elim
    | some ob => cases ob with
     | dct kvs =>
      simp only [z2] at q
      cases z3 : m ρ (st.set k (.fdc kvs)) with
      | nx ρ' st' =>
       simp only [z3] at q
       cases z4 : st'[k]? with
       | none => simp only [z4] at q; exact q.elim
       | some ob2 => cases ob2 with
        | fdc kvs' =>
         simp only [z4] at q
         obtain ⟨v, _, dv⟩ := en.val i _ z1
         cases dv with
         | @ref _ a hk =>
          obtain ⟨ws, e, ek, ed⟩ := rp.ob k a _ hk z2
          obtain ⟨o, I1⟩ := I.freeze e
          have xw : Ext as H as (upd H a (.frz o (.dK ws))) := Ext.write e trivial
          have rp1 : Rep X.K as (st.set k (.fdc kvs)) (upd H a (.frz o (.dK ws))) := rp.write hk e trivial (fun z => z) (by rw [z2]; exact fun z => z) ⟨o, ws, Yj, ek, ed.ext xw⟩
          refine thn (h pins s σ _ ⟨fun σ' H' => ∃ as', Ext as (upd H a (.frz o (.dK ws))) as' H' /\ Rep X.K as' st' H' /\ YlM X.K as' H' ρ' σ', fun _ _ => False, fun _ _ => False, fun _ _ => False⟩ I1 ⟨as, ρ, _, en.ext xw, rp1, by rw [z3]; exact fun as' H' σ' x r n => ⟨as', x, r, n⟩⟩) fun f s' hf => ?_
          cases f with
          | next =>
           obtain ⟨σ', H', I', as', x, r, n⟩ := hf
           have e' : H' a = some (.frz o (.dK ws)) := x.keep a _ Yj (fun z => z)
           have n1 : ∀ xs, X.H₀ a ≠ some (.tup xs) := fun xs z => by have := I.base.tups a xs z; rw [e] at this; cases this
           have n2 : ∀ o u, X.H₀ a ≠ some (.frz o u) := fun o u z => by have := I.base.frzs a o u z; rw [e] at this; cases this
           have n3 : ∀ ps, X.H₀ a ≠ some (.tbl ps) := fun ps z => by obtain ⟨_, t⟩ := I.base.tbls a ps z; rw [e] at t; cases t
           refine ⟨σ', _, I'.thaw e' n1 n2 n3, q as' _ σ' ⟨fun k b t => x.pre k b t, fun b w t nm => ?_⟩ (r.thaw (x.pre k a hk) e' z4) (n.thaw e')⟩
           have hb : b ≠ a := by rintro rfl; rw [e] at t; cases t; exact nm trivial
           rw [Yg hb]
           exact x.keep b w (by rw [Yg hb]; exact t) nm
          | brk => obtain ⟨_, _, _, z⟩ := hf; exact z.elim
          | cont => obtain ⟨_, _, _, z⟩ := hf; exact z.elim
          | ret u => obtain ⟨_, _, _, _, _, z⟩ := hf; exact z.elim
        | _ => simp only [z4] at q; exact q.elim
      | _ => simp only [z3] at q; exact q.elim
     | _ => simp only [z2] at q; exact q.elim
   | _ => simp only [z1] at q; exact q.elim
def kP : Key -> P
 | .inl i => .int i
 | .inr x => .str x
theorem YjS {K : Frag} {as : List Addr} {H : Hp} (k : Key) : Den K as H (kV k) (kP k) := by
 cases k with
 | inl i => exact .int
 | inr x => exact .str
def YmR (kvs : List (Key × P)) : Src := ⟨kvs.length, fun i _ => some ((kvs[i]?).map fun p => kP p.1)⟩
theorem Yd4 {K : Frag} {as : List Addr} {H : Hp} {a : Addr} {o : Obj} {ws : List (Key × V)} {kvs : List (Key × P)} (e : H a = some (.frz o (.dK ws))) (hk : ws.map (·.1) = kvs.map (·.1)) : YnH K as H (YmR kvs) (Itk a o ws) where
 go := fun i as2 st2 H2 p x rp q => by
  have q' : (kvs[i]?).map (fun p => kP p.1) = some p := Option.some.inj q
  have hl : ws.length = kvs.length := by simpa using congrArg List.length hk
  cases w : kvs[i]? with
  | none => rw [w] at q'; cases q'
  | some kv =>
   rw [w] at q'
   cases q'
   have hi : i < kvs.length := (ZAD.mp w).1
   refine ⟨⟨x.keep a _ e (fun z => z), by omega⟩, fun y H3 ⟨z1, pr, z2, z3⟩ => ?_⟩
   subst z1; subst z3
   have : (ws.map (·.1))[i]? = (kvs.map (·.1))[i]? := by rw [hk]
   rw [ZAX, ZAX, z2, w] at this
   have e2 : pr.1 = kv.1 := by simpa using this
   rw [e2]
   exact ⟨Ext.refl, rp, YjS _⟩
 stop := fun i as2 st2 H2 x rp q => by
  have q' : (kvs[i]?).map (fun p => kP p.1) = none := Option.some.inj q
  have hl : ws.length = kvs.length := by simpa using congrArg List.length hk
  have : kvs.length <= i := by simpa using q'
  exact ⟨x.keep a _ e (fun z => z), by omega⟩
def Ynv (me : ME) : MI := fun ρ st => (me ρ st).bind fun p st1 => match p with
 | .ref k => (match st1[k]? with
  | some (.fdc kvs) => .ok (YmR kvs) st1
  | _ => .bad)
 | _ => .bad
theorem YhE {e : Expr} {me : ME} (he : JE X e me) : JI X tg e (Ynv me) := by
 show 221
 refine thn (he pins s σ H (fun x H1 => ∃ a o ws, x = .ref a /\ H1 a = some (.frz o (.dK ws)) /\ R (Itk a o ws) H1) I
  ⟨as, ρ, st, en, rp, Yl1.bindE h fun p st1 as1 H1 v x rp1 d h1 => ?_⟩) fun v s1 ⟨x, H1, I1, r1, a, o, ws, ex, e1, q1⟩ => by subst ex; cases r1; exact Yh1 I1 e1 q1
 cases d with
 | @ref k a hk =>
  dsimp only at h1
  cases z : st1[k]? with
  | none => simp only [z] at h1; exact h1.elim
  | some ob => cases ob with
   | fdc kvs =>
    simp only [z] at h1
    obtain ⟨o, ws, g1, g2, g3⟩ := rp1.ob k a _ hk z
    exact ⟨a, o, ws, rfl, g1, h1 as1 H1 _ Ext.refl rp1 (Yd4 g1 g2)⟩
   | _ => simp only [z] at h1; exact h1.elim
 | _ => show 137
def YoY : G2 := fun p q st => match p with
 | .ref k => (match st[k]? with
  | some (.fdc kvs) => (match Ymr q with
   | some key => (YlO kvs key).map fun p => (p, st)
   | none => none)
  | _ => none)
 | _ => none
end
section
variable {X : Cx} {a b : Expr} {ma mb : ME} {pos : Pos}
theorem Yjm (hu : X.A.units + 1 < cLine) : IxR X (rM X YoY) := IxR.imp (YbB hu) fun x y H Q ⟨as, st, p, q, rp, d1, d2, h⟩ => by
 cases d1 with
 | @ref k a e =>
  have h' : YlL X as H (match st[k]? with
   | some (.fdc kvs) => (match Ymr q with
    | some key => (YlO kvs key).map fun p => (p, st)
    | none => none)
   | _ => none) Q := h
  cases z : st[k]? with
  | none => show 201
  | some ob => cases ob with
   | fdc kvs =>
    simp only [z] at h'
    obtain ⟨o, ws, h1, h2, h3⟩ := rp.ob k a _ e z
    cases w : Ymr q with
    | none => show 233
    | some key =>
     simp only [w] at h'
     have ev := WY d2 w
     subst ev
     cases zz : YlO kvs key with
     | none => rw [zz] at h'; exact h'.elim
     | some p =>
      rw [zz] at h'
      have od := Y5 (k := key) h2 h3
      rw [zz] at od
      cases hv : YmO ws key with
      | none => rw [hv] at od; cases od
      | some v =>
       rw [hv] at od
       cases od with
       | some dd => exact ⟨a, v, rfl, .inl ⟨ws, key, .inr ⟨o, h1⟩, rfl, hv.symm⟩, h' as H _ Ext.refl rp dd⟩
   | _ => show 201
 | _ => show 124
end
section
variable {X : Cx} {e : Expr} {me : ME} {p1 c1 : Pos}
end
end Mi
namespace Mi
open PySem PySem.Spec L2
open PyProof.Rows hiding St
section
variable {prog : Program} {w : World} {A : Around} {E : VSP} {s : Shared}
theorem Yau {d : Addr} {o : Obj} {es : Array DictEntry} {ep : Nat} {xs : List (List Key × Addr × Value)} {x : Str} {t : Tok} {hs : Int} {Q : Option Nat -> Shared -> Prop} (hu : A.units < cLine)
 (ho : s.heap.get? d = some o) (hd : o.data = .dict es ep) (he : es.toList = xs.map (entryOfKey (tupleKind (YlC prog w)))) (his : ∀ x ∈ xs, (tupleKind (YlC prog w)).is s.heap x.1 x.2.1)
 (h : Q none s) : wpAny (model prog w) A (dictFind d (.str x t) hs) Q E s := by
 have hmem : ∀ e ∈ es, ∃ b ks, e.key = .ref b /\ IsTupleKey (YlC prog w) s.heap ks b := by
  intro e hin
  have : e ∈ xs.map (entryOfKey (tupleKind (YlC prog w))) := he ▸ ZCZ.mpr hin
  obtain ⟨y, hy, rfl⟩ := ZAb.mp this
  exact ⟨y.2.1, y.1, rfl, his y hy⟩
 unfold dictFind
 refine ZAd ?_
 refine ZAA (wpAny_dictEntries ho hd ?_)
 show 127
 by_cases hall : (es.all fun e => isExactStrKey e.key) = true
 ·rw [ZAG hall]
  have hz : es = #[] := by
   rcases Nat.eq_zero_or_pos es.size with z | z
   ·exact Array.eq_empty_of_size_eq_zero z
   ·exfalso
    have hin : es[0] ∈ es := Array.getElem_mem z
    obtain ⟨b, ks, e, _⟩ := hmem _ hin
    have := Array.all_eq_true_iff_forall_mem.mp hall _ hin
    rw [e] at this
    cases this
  subst hz
  unfold foundByValue
  have e0 : Array.findIdx? (fun e : DictEntry => e.key.isStr x) #[] = none := by simp
  rw [e0]
  exact ZAB h
 ·rw [ZAF hall]
  have hst : ∀ v ∈ (placesWithHash es.size (fun i => es[i]?.map (·.hash)) hs).filterMap (fun i => es[i]?.map (·.key)), ∃ b ks, v = .ref b /\ IsTupleKey (YlC prog w) s.heap ks b := by
   intro v hv
   obtain ⟨i, _, hi⟩ := ZB4.mp hv
   cases hei : es[i]? with
   | none => rw [hei] at hi; cases hi
   | some e =>
    rw [hei] at hi
    obtain rfl : e.key = v := by simpa using hi
    exact hmem e (ZCW hei)
  generalize hS : (placesWithHash es.size (fun i => es[i]?.map (·.hash)) hs).filterMap (fun i => es[i]?.map (·.key)) = stored at hst ⊢
  by_cases hz : stored = []
  ·subst hz
   rw [if_pos (by simp [carriedByValue])]
   have hno : ∀ i ∈ placesWithHash es.size (fun i => es[i]?.map (·.hash)) hs, es[i]? = none := fun i hi => by
    have := List.filterMap_eq_nil_iff.mp hS i hi
    show 167
   unfold dictWalkPlain
   refine ZAA (ZCK _ (fun rest r s' => s' = s /\ r = (none, ()) /\ ∀ i ∈ rest, es[i]? = none) _ ?_ ?_ _ _ ⟨rfl, rfl, hno⟩)
   ·rintro i rest r s' ⟨rfl, rfl, hr⟩
    rw [hr i ZAQ]
    exact ZAB ⟨rfl, rfl, fun j hj => hr j (ZAT _ hj)⟩
   ·rintro r s' ⟨rfl, rfl, _⟩
    exact ZAB h
  ·have hnall : ¬ ((Value.str x t :: stored).all carriedByValue) = true := by
    intro z
    cases stored with
    | nil => exact hz rfl
    | cons v r =>
     obtain ⟨b, _, rfl, _⟩ := hst v (ZAQ ..)
     simp [carriedByValue] at z
   rw [ZAF hnall]
   have hne1 : ¬ (stored == [Value.str x t]) = true := by
    intro z
    cases stored with
    | nil => exact hz rfl
    | cons v r =>
     obtain ⟨b, _, rfl, _⟩ := hst v (ZAQ ..)
     have := eq_of_beq z
     cases this
   rw [ZAF hne1]
   show 138
   have quiet : wpAny (model prog w) A (tableMayTell (.str x t) stored) (fun b s' => b = false /\ s' = s) E s := by
    unfold tableMayTell
    split
    ·show 237
    ·show 198
     simp only [Bool.not_true, Bool.false_eq_true, if_false]
     show 138
     refine ZCK _ (fun rest r s' => s' = s /\ r = (none, ()) /\ ∀ v ∈ rest, ∃ b ks, v = .ref b /\ IsTupleKey (YlC prog w) s.heap ks b) _ ?_ ?_ _ _ ⟨rfl, rfl, hst⟩
     ·rintro y rest r s' ⟨rfl, rfl, hr⟩
      obtain ⟨b, ks, rfl, hb⟩ := hr y ZAQ
      refine ZAA (wpAny_eqIsQuiet_tuple hb ?_)
      simp only [Bool.not_true, Bool.false_eq_true, if_false]
      exact ZAB ⟨rfl, rfl, fun v hv => hr v (ZAT _ hv)⟩
     ·rintro r s' ⟨rfl, rfl, _⟩
      show 237
   refine ZA7 quiet (fun b s' hb => ?_) (fun _ _ z => z)
   obtain ⟨rfl, rfl⟩ := hb
   rw [if_neg (by simp)]
   show 138
   refine ZCK _ (fun rest r s2 => s2 = s' /\ r = (none, none)) _ ?_ ?_ _ _ ⟨rfl, rfl⟩
   ·rintro i rest r s2 ⟨rfl, rfl⟩
    cases hei : es[i]? with
    | none => show 237
    | some e =>
     obtain ⟨b, ks, hk, hb⟩ := hmem e (ZCW hei)
     show 127
     by_cases hh : (e.hash == hs) = true
     ·rw [ZAG hh, hk]
      obtain ⟨ob, items, n, g1, g2, g3, _⟩ := hb
      refine ZAA (wpAny_dictEpoch ho hd (ZAA (SeqAt.EqAt.tuple_str x t ⟨ob, g1, g2, n, g3⟩ hu _ _ _ _ (ZAA (wpAny_dictEpoch ho hd ?_)))))
      show wpAny _ _ (if (ep != ep) = true then _ else _) _ E _
      rw [if_neg (by simp)]
      show 220
      refine ZAA (ZBl ?_)
      first | rw [if_neg (by simp)] | skip
      first
       | exact ZAB ⟨rfl, rfl⟩
       | exact ZAA (ZAB (ZAB ⟨rfl, rfl⟩))
     ·rw [ZAF hh]
      show 237
   ·rintro r s2 ⟨rfl, rfl⟩
    exact ZAB h
theorem YhH {d : Addr} {xs : List (List Key × Addr × Value)} {x : Str} {t : Tok} {Q : VSP} (hu : A.units + 1 < cLine) (hd : (d == sysModules) = false) (hm : s.heap.DictOfH (tupleKind (YlC prog w)) d xs)
 (h : Q (.bool false) { s with toks := s.toks + 1 }) : wpAny (model prog w) A (compareOp .In (.str x t) (.ref d)) Q E s := by
 show wpAny _ _ (do return .bool (<- contains (.ref d) (.str x t))) Q E s
 show 138
 unfold contains
 show 200
 refine ZAA (ZCO hm.typeIs slot_dict_contains.lookup ?_)
 show wpAny _ _ (if (some (Value.builtin "dict.__contains__") == some Value.none) = true then _ else _) _ E s
 rw [ZAF (by rw [beq_builtin_none]; exact ZAN)]
 refine ZAA (wpAny_callSpecialUnlessNone?_slot (name := Str.ofString "__contains__") hm.typeIs slot_dict_contains
  (ZAe slot_dict_contains hm.typeIs entry_dict_contains ?_ (args_dict_contains _ _)))
 show wpAny _ _ (dictGet d (.str x t) >>= _) _ _ s
 obtain ⟨o, es, ep, ho, _, hdt, he, his, hn⟩ := hm
 show 138
 unfold dictGet
 show 200
 refine ZAA (wpAny_pyHash_str (ZAA (Yau (s := { s with toks := s.toks + 1 }) (by have : A.in1.units = A.units + 1 := rfl; omega) ho hdt he his ?_)))
 show 150
 show wpAny _ _ (Builtin.Dict.pendingKey? d (.str x t) >>= _) _ _ _
 exact ZAA (wpAny_pendingKey_other hd (ZAB ⟨_, rfl, ZBh (ZAB h)⟩))
end
def YoI : P -> Bool
 | .str _ => true
 | _ => false
def YnM : G2 := fun p q st => if ((YlV q st).isSome && YoI p) = true then okP (.bl false) st else YoE p q st
section
variable {X : Cx}
theorem Ykx (hu : X.A.units + 1 < cLine) : OpR X (compareOp .In) (rM X YnM) := opM fun pins s σ H x y v u Q as st p q I rx ry rp d1 d2 h => by
 have h' : YlL X as H (if ((YlV q st).isSome && YoI p) = true then okP (.bl false) st else YoE p q st) Q := h
 by_cases c : ((YlV q st).isSome && YoI p) = true
 ·rw [ZAG c] at h'
  obtain ⟨c1, c2⟩ := (ZAi _ _).mp c
  cases z : YlV q st with
  | none => rw [z] at c1; cases c1
  | some kvs =>
   obtain ⟨k, a, ws, rfl, _, rfl, e, g4, g5, g6⟩ := VH rp d2 z
   cases d1 with
   | @str zz =>
    cases ry
    obtain ⟨t, rfl⟩ : ∃ t, v = .str zz t := rx
    obtain ⟨z1, hd, xs, rel, dd⟩ := Ygm I.hok g4
    exact YhH hu hd dd ⟨.bl false, H, I.tok _, rfl, h' as H _ Ext.refl rp .bl⟩
   | _ => cases c2
 ·rw [ZAF c] at h'
  exact Ykb hu pins s σ H x y v u Q I rx ry ⟨as, st, p, q, rp, d1, d2, h'⟩
end
end Mi
namespace Mi
open PySem PySem.Spec L2
open PyProof.Rows hiding St
def Ynq (p : P) (st : Yls) : Bool := match p with
 | .ref k => (match st[k]? with
  | some (.fdc _) => true
  | _ => false)
 | _ => false
def Yoy : G2 := fun p q st => if Ynq p st = true then YoY p q st else ixP p q st
section
variable {X : Cx} {a b : Expr} {ma mb : ME} {pos : Pos}
theorem Yjj (hu : X.A.units + 1 < cLine) : IxR X (rM X Yoy) := fun value slice pins s σ H x y v u Q I rx ry ⟨as, st, p, q, rp, d1, d2, h⟩ => by
 have h' : YlL X as H (if Ynq p st = true then YoY p q st else ixP p q st) Q := h
 by_cases c : Ynq p st = true
 ·rw [ZAG c] at h'
  exact Yjm hu value slice pins s σ H x y v u Q I rx ry ⟨as, st, p, q, rp, d1, d2, h'⟩
 ·rw [ZAF c] at h'
  exact YfX hu value slice pins s σ H x y v u Q I rx ry ⟨as, st, p, q, rp, d1, d2, h'⟩
theorem YiV (hu : X.A.units + 1 < cLine) (ha : JE X a ma) (hb : JE X b mb) (hs : Ynl b) : JE X (.Subscript a b pos) (Ylw Yoy ma mb) := PE.imp (Yf6 (Yjj hu) ha hb hs) fun _ _ _ h => VT h
end
end Mi
namespace Mi
open PySem PySem.Spec L2
open PyProof.Rows hiding St
section
variable {prog : Program} {w : World} {A : Around} {E : VSP} {s : Shared}
theorem YcR {d : Addr} (hd : (d == sysModules) = false) :
 MeetsIn prog w (Builtin.«dict.__len__» ⟨[.ref d], []⟩) (fun _ R s => ∃ o es ep, s.heap.get? d = some o /\ o.data = .dict es ep /\ R (.ok (.ret (.int (es.size : Nat) s.toks))) { s with toks := s.toks + 1 }) :=
 .of_wp fun A R s ⟨o, es, ep, ho, hdat, h⟩ => by
  show wpAny _ _ (dictSize d >>= _) _ _ s
  unfold dictSize
  refine ZAA (ZAA (wpAny_dictEntries ho hdat (ZAB ?_)))
  show wpAny _ _ (Builtin.Dict.pendingCount d >>= _) _ _ s
  refine ZAA (wpAny_pendingCount_other hd ?_)
  refine wpAny_ret_mkInt ?_
  rw [Nat.add_zero]; exact h
theorem Yek {d : Addr} {o : Obj} {es : Array DictEntry} {ep n : Nat} {Q : VSP} (hd : (d == sysModules) = false) (ho : s.heap.get? d = some o) (hx : o.ExactDict) (hdt : o.data = .dict es ep) (hn : es.size = n) (hfit : (n : Int) < 2 ^ 63)
 (h : Q (.int n (s.toks + 1)) { s with toks := s.toks + 1 + 1 }) : wpAny (model prog w) A (call (.builtin "len") [.ref d]) Q E s := by
 have hT : s.TypeIs (.ref d) "dict" := ⟨o, ho, hx.1⟩
 refine Calls.call_function_entry kind_len plain_len entry_len (args_len1 _) ?_
 unfold Builtin.«len»
 refine ZAA (m := oneArg "len" _) (ZAB ?_)
 refine ZAA (m := callSpecial? (.ref d) (Str.ofString "__len__")) (wpAny_callSpecial?_slot (name := Str.ofString "__len__") hT F.slot_dict_len
  (call_meetsIn F.slot_dict_len hT F.entry_dict_len (F.args_dict_len_1 _) (YcR hd) ⟨o, es, ep, ho, hdt, ?_⟩))
 rw [hn]
 show wpAny _ _ _ _ _ { s with toks := s.toks + 1 }
 refine ZAA (ZAd (ZAB ?_))
 refine ZAA (ZCT ?_)
 show wpAny _ _ (if ((n : Nat) : Int) < 0 then _ else _) _ _ _
 rw [ZAF (by omega)]
 show wpAny _ _ (if ((n : Nat) : Int) >= 2 ^ 63 then _ else _) _ _ _
 rw [ZAF (by omega)]
 exact ZAA (wpAny_mkInt (ZAB ⟨_, rfl, h⟩))
end
def Ynn : GC := fun ps st => match ps with
 | [p] => (match YlV p st with
  | some kvs => okP (.int kvs.length) st
  | none => YmA ps st)
 | _ => YmA ps st
section
variable {X : Cx}
theorem Yil : Yl0 X (.builtin "len") (rMC X Ynn) := cM fun pins s σ H xs us Q as st ps I rv rp d h => by
 match ps, d, h with
 | [], d, h => exact ZD pins s σ H xs us Q I rv ⟨as, st, [], rp, d, h⟩
 | a :: b :: r, d, h => exact ZD pins s σ H xs us Q I rv ⟨as, st, a :: b :: r, rp, d, h⟩
 | [p], d, h =>
  have h' : YlL X as H (match YlV p st with | some kvs => okP (.int kvs.length) st | none => YmA [p] st) Q := h
  cases z : YlV p st with
  | none => rw [z] at h'; exact ZD pins s σ H xs us Q I rv ⟨as, st, [p], rp, d, h'⟩
  | some kvs =>
   rw [z] at h'
   show 236
   obtain ⟨k, a, ws, rfl, _, rfl, e, g4, g5, g6⟩ := VH rp d1 z
   obtain ⟨u, rfl, ru⟩ := vals1 rv
   cases ru
   have hl : ws.length = kvs.length := by simpa using congrArg List.length g5
   obtain ⟨z1, hd, xs, rel, o, es, ep, ho, hx, hdt, he, _, _⟩ := Ygm I.hok g4
   have hsz : es.size = ws.length := by rw [size_of_entries he, Paired.length rel]
   refine Yek hd ho hx hdt hsz (by rw [sizeLine_eq] at z1; omega) ⟨.int _, H, I.tok _, ⟨_, rfl⟩, ?_⟩
   rw [hl]
   show 208
end
end Mi
namespace Mi
open PySem PySem.Spec L2
open PyProof.Rows hiding St
def Yol : GC := fun ps st => match ps with
 | [.str x] => okP (.str x) st
 | [.int i] => if i.natAbs.log2 < 1920 then okP (.str (Str.ofString (toString i))) st else none
 | _ => none
section
variable {X : Cx}
theorem YiZ : Yl0 X (.type "str") (rMC X Yol) := by
 intro pins s σ H xs us Q I r ⟨as, st, ps, rp, d, h⟩
 match ps, d, h with
 | [.str y], d, h =>
  show 196
  cases dx
  show 228
  exact PySem.P.str_of_str ⟨.str y, H, I, ⟨_, rfl⟩, h as H _ Ext.refl rp .str⟩
 | [.int i], d, h =>
  show 196
  cases dx
  show 228
  have h' : YlL X as H (if i.natAbs.log2 < 1920 then okP (.str (Str.ofString (toString i))) st else none) Q := h
  by_cases hi : i.natAbs.log2 < 1920
  ·rw [ZAG hi] at h'
   exact PySem.P.str_of_int hi ⟨.str _, H, I.tok _, ⟨_, rfl⟩, h' as H _ Ext.refl rp .str⟩
  ·rw [ZAF hi] at h'; exact h'.elim
 | [], _, h => show 124
 | [.non], _, h => show 124
 | [.bl _], _, h => show 124
 | [.tup _], _, h => show 124
 | [.ref _], _, h => show 124
 | _ :: _ :: _, _, h => exact (by simp only [Yol] at h; exact h.elim)
end
theorem YdX {i : Int} {st : Yls} (h : i.natAbs.log2 < 1920) : Yol [.int i] st = some (.str (Str.ofString (toString i)), st) := ZAG h
end Mi
set_option maxHeartbeats 4000000
namespace G
open PySem PySem.Spec L2 Mi
open PyProof.Rows hiding St
def top (i : Nat) : Stmt := PySem.Challenge.pw_gapwords_k53_ties_and_no_answer.main.body.getD i (.Pass ⟨0, 0, 0, 0⟩)
def Vz : MS :=
 (sRet (Yno leP leP (eC (.str "a")) (Ylr 0) (eC (.str "z"))))
def Zs : MF := fnM 1 Vz
def Z6 : MS :=
 (sRet (Yno leP leP (eC (.str "A")) (Ylr 0) (eC (.str "Z"))))
def YR : MF := fnM 1 Z6
def Z7 : MS :=
 (sRet (Ym1 (eC (.str "")) (Yme (YmI (Ylr 0)) 2 [] (Ymb 2 (YlP (Ylv 0) (YlP (Ylv 1) Ymo))) Ymd (Ylw Yl2 (Ylr 0) (Ylr 1)))))
def YT : MF := fnM 1 Z7
def Yai : MS :=
 (sRet (Ym1 (eC (.str "")) (YmD (Ylr 0))))
def Ww : MF := fnM 1 Yai
def WU : MS :=
 (sRet (YlI 1 Ww (Ylt (YmN (Yme (YmI (YlI 1 YT (Ylt (Ylr 0) YlA))) 1 [] (Ylv 0) (Ymq (YlI 1 YR (Ylt (Ylr 0) YlA))) (Ylr 0))) YlA)))
def YJ : MF := fnM 1 WU
def Ybg : MS :=
 (sIf (Ymq (YlI 1 Zs (Ylt (Ylr 3) YlA)))
 (Ym8 (eM YmW Yms (Ylr 2) (Ylt (Ylr 3) YlA)))
 (Ym8 (eM YmW Ym5 (Ylr 2) (Ylt (YmN (Yme (Ymv (Ylt (Ylw Yoy (Ylr 1) (Ylr 3)) YlA)) 1 [3] (Ylv 0) Ymd (Yoj (Ylt (Ylr 1) (Ylt (Ylr 0) YlA))))) YlA))))
def YcD : MS :=
 (YlF (YlS 2 (YmN (lMk YlA)))
 (YlF (YmB (YmI (Ylr 0)) (Ylv 3)
 Ybg)
 (sRet (Ylr 2))))
def Wv : MF := fnM 4 YcD
def Zw : MS :=
 (YlS 2 (Ylw YnI (Ylr 0) (Ylr 2)))
def VI : MS :=
 (YlF (YlS 2 (Ylr 1))
 (YlF (YnZ (Yml (Ylw YnM (Ylr 2) (Ylr 0)))
 Zw)
 (sRet (Ylr 2))))
def YO : MF := fnM 3 VI
def YgX : MS :=
 (YlF (YlS 3 (YlI 2 YO (Ylt (Ylr 0) (Ylt (Ylr 1) YlA))))
 (YlF (YlS 4 (YlI 2 YO (Ylt (Ylr 0) (Ylt (Ylr 2) YlA))))
 (YlF (sIf (Yml (Ylw eqP (Ylr 3) (Ylr 4)))
 (sRet (eC (.bl true)))
 YmL)
 (YlF (sIf (YmC (Ymq (YmS "str" (Ylr 3))))
 (YmF (Ylr 0) (Ylr 3) (Ylr 4))
 (sIf (YmC (Ymq (YmS "str" (Ylr 4))))
 (YmF (Ylr 0) (Ylr 4) (Ylr 3))
 (sRet (eC (.bl false)))))
 (sRet (eC (.bl true)))))))
def V6 : MF := fnM 5 YgX
def Zr : MS :=
 (sIf (YmC (Ymq (YlI 3 V6 (Ylt (Ylr 0) (Ylt (Ylr 3) (Ylt (Ylr 4) YlA))))))
 (sRet (eC (.bl false)))
 YmL)
def Wx : MS :=
 (YlF (sIf (Yml (Ylw neP (eB YmA (Ylt (Ylr 1) YlA)) (eB YmA (Ylt (Ylr 2) YlA))))
 (sRet (eC (.bl false)))
 YmL)
 (YlF (YmB (Yn5 (Ylt (Ylr 1) (Ylt (Ylr 2) YlA))) (Ymb 2 (YlP (Ylv 3) (YlP (Ylv 4) Ymo)))
 Zr)
 (sRet (eC (.bl true)))))
def YB : MF := fnM 5 Wx
def Ybv : MS :=
 (YlF (YlS 3 (YlI 2 YO (Ylt (Ylr 0) (Ylt (Ylr 2) YlA))))
 (YlF (sIf (Ymq (YmS "str" (Ylr 3)))
 (sRet (Ylr 3))
 YmL)
 (YlF (sIf (Yml (Ylw YmQ (Ylr 3) (Ylr 1)))
 (YmF (Ylr 1) (Ylr 3) (eB Ynn (Ylt (Ylr 1) YlA)))
 YmL)
 (sRet (Ylw YnI (Ylr 1) (Ylr 3))))))
def ZB : MF := fnM 4 Ybv
def Jn : MS :=
 (sIf (YmC (Ymq (YlI 3 YB (Ylt (Ylr 3) (Ylt (YlI 2 Wv (Ylt (Ylr 4) (Ylt (Ylr 2) YlA))) (Ylt (YlI 2 Wv (Ylt (Ylr 5) (Ylt (Ylr 2) YlA))) YlA))))))
 (sRet (eC .non))
 YmL)
def Vp : MS :=
 (Ym8 (eM YmW Yms (Ylr 7) (Ylt (Yor (Yme (YmI (YlI 2 Wv (Ylt (Ylr 8) (Ylt (Ylr 2) YlA)))) 1 [3, 6] (Ylv 0) Ymd (YlI 3 ZB (Ylt (Ylr 1) (Ylt (Ylr 2) (Ylt (Ylr 0) YlA)))))) YlA)))
def Ydj : MS :=
 (YlF (YlS 2 (Yn3 (Ylt (YlI 1 YJ (Ylt (Ylr 0) YlA)) (Ylt (Ylr 1) YlA))))
 (YlF (YlS 3 Ym3)
 (YlF (YmB (YmI (Ylr 0)) (Ymb 2 (YlP (Ylv 4) (YlP (Ylv 5) Ymo)))
 Jn)
 (YlF (YlS 6 Ym3)
 (YlF (YlS 7 (YmN (lMk YlA)))
 (YlF (Yof 2 (YmB (Ynv (Ylr 2)) (Ylv 8)
 Vp))
 (sRet (eB Ymy (Ylt (Ylr 7) YlA)))))))))
def Wr : MF := fnM 9 Ydj
def Zx : MS :=
 (YlF (sIf (Yml (Ylw ltP (Ylr 1) (eB YmA (Ylt (Ylr 0) YlA))))
 (sRet (Ylw ixP (Ylr 0) (Ylr 1)))
 YmL)
 (sRet (eC (.int 0))))
def Yk : MF := fnM 2 Zx
def ZG : MS :=
 (YlF (YlS 2 (Ylw Ymx (Ylw YmY (Ylr 2) (eC (.int 16807))) (eC (.int 2147483647))))
 (Ym8 (eM YmW Yms (Ylr 3) (Ylt (Ylr 2) YlA))))
def ZT : MS :=
 (YlF (YlS 2 (Ylw Yl2 (eC (.int 1)) (Ylw Ymx (Ylr 0) (eC (.int 2147483646)))))
 (YlF (YlS 3 (YmN (lMk YlA)))
 (YlF (YmB (Ymv (Ylt (Ylr 1) YlA)) (Ylv 4)
 ZG)
 (sRet (Ylr 3)))))
def YQ : MF := fnM 5 ZT
def ZS : MS :=
 (YlF (YlS 2 (eC (.str "ABCDEFGHIJKLMNOPQRSTUVWXYZ")))
 (YlF (YlS 3 (Ylw ixP (YmN (lMk (Ylt (eC (.int 1)) (Ylt (eC (.int 3)) (Ylt (eC (.int 5)) (Ylt (eC (.int 7)) (Ylt (eC (.int 9)) (Ylt (eC (.int 11)) (Ylt (eC (.int 15)) (Ylt (eC (.int 17)) (Ylt (eC (.int 19)) (Ylt (eC (.int 21)) (Ylt (eC (.int 23)) (Ylt (eC (.int 25)) YlA)))))))))))))) (Ylw Ymx (Ylw Ym4 (Ylr 0) (eC (.int 26))) (eC (.int 12)))))
 (sRet (Ym1 (eC (.str "")) (Yme (Ymv (Ylt (Ylr 1) YlA)) 1 [0, 2, 3] (Ylv 0) Ymd (Ylw ixP (Ylr 2) (Ylw Ymx (Ylw Yl2 (Ylr 1) (Ylw YmY (Ylr 3) (Ylr 0))) (eC (.int 26)))))))))
def YU : MF := fnM 4 ZS
def W1 : MS :=
 (YlF (YlS 1 (eC (.str "abcdefghijklmnopqrstuvwxyz")))
 (sRet (Ylw Yl2 (Ylw ixP (Ylr 1) (Ylw Ymx (Ylr 0) (eC (.int 26)))) (Ylw ixP (Ylr 1) (Ylw Ymx (Ylw Yl2 (Ylw Yl2 (Ylr 0) (eC (.int 1))) (Ylw Ymx (Ylw Ym4 (Ylr 0) (eC (.int 26))) (eC (.int 25)))) (eC (.int 26)))))))
def Zh : MF := fnM 2 W1
def ZZ : MS :=
 (YlF (YlS 6 (Ylw ixP (Ylr 1) (Ylw Ymx (Ylw Ymx (Ylw YmY (Ylr 5) (eC (.int 48271))) (eC (.int 65521))) (eB YmA (Ylt (Ylr 1) YlA)))))
 (sIf (Yn4 (Yml (Ylw gtP (Ylw Ymx (Ylr 5) (eC (.int 3))) (eC (.int 0)))) (Yml (Ylw ltP (YnY (Ylr 2) (Ylr 6) (eC (.int 0))) (eC (.int 2)))))
 (YlF (Yoi (Ylr 2) (Ylr 6) (Ylw Yl2 (YnY (Ylr 2) (Ylr 6) (eC (.int 0))) (eC (.int 1))))
 (YlS 4 (Ylw Yl2 (Ylr 4) (Ylr 6))))
 (YlS 4 (Ylw Yl2 (Ylr 4) (Ylw ixP (Ylr 3) (Ylw Ymx (Ylw Ym4 (Ylr 5) (eC (.int 3))) (eC (.int 2))))))))
def Wt : MS :=
 (YlF (YlS 4 (eC (.str "")))
 (YlF (YmB (YmI (Ylr 0)) (Ylv 5)
 ZZ)
 (sRet (Ylr 4))))
def YL : MF := fnM 7 Wt
def Zc : MS :=
 (YlF (sIf (Yn4 (Ymq (eM isStr Ym6 (Ylr 4) YlA)) (Yml (Ylw eqP (Ylw ixP (Ylr 1) (Ylr 4)) (eC (.int 2)))))
 (YlS 4 (Ylw ixP (Ylr 2) (eC (.int 0))))
 YmL)
 (YlF (sIf (Ymq (eM isStr Ym6 (Ylr 4) YlA))
 (Yoi (Ylr 1) (Ylr 4) (eC (.int 2)))
 YmL)
 (YlS 3 (Ylw Yl2 (Ylr 3) (Ylr 4)))))
def Zo : MS :=
 (YlF (YlS 3 (eC (.str "")))
 (YlF (YmB (YmI (Yoc (Ylr 0))) (Ylv 4)
 Zc)
 (sRet (Ylr 3))))
def Yw : MF := fnM 5 Zo
def Y6 : MS :=
 (Yoi (Ylr 4) (Ylr 5) (Ylw Ymx (Ylw ixP (Ylr 0) (Ylw Yl2 (eC (.int 6)) (Ylr 5))) (eC (.int 2147483647))))
def Y9 : MS :=
 (YlF (YlS 9 (YlI 4 YL (Ylt (eSl (Ylr 4) (Yni (Ylw YmY (eC (.int 10)) (Ylr 8))) (Yni (Ylw Yl2 (Ylw YmY (eC (.int 10)) (Ylr 8)) (Ylw Ymx (Ylw ixP (Ylr 4) (Ylw Yl2 (eC (.int 20)) (Ylr 8))) (eC (.int 6)))))) (Ylt (Ylr 2) (Ylt (Ylr 6) (Ylt (Ylr 3) YlA))))))
 (YlF (sIf (Yml (Ylw eqP (Ylw Ymx (Ylw Ym4 (Ylr 1) (eC (.int 6))) (eC (.int 2))) (eC (.int 0))))
 (YlS 10 (YlI 3 Yw (Ylt (Ylr 9) (Ylt (Ylr 6) (Ylt (Ylr 3) YlA)))))
 (YlS 10 (YlI 4 YL (Ylt (eSl (Ylr 4) (Yni (Ylw Yl2 (Ylw YmY (eC (.int 10)) (Ylr 8)) (eC (.int 5)))) (Yni (Ylw Yl2 (Ylw Yl2 (Ylw YmY (eC (.int 10)) (Ylr 8)) (eC (.int 5))) (Ylw Ymx (Ylw ixP (Ylr 4) (Ylw Yl2 (eC (.int 22)) (Ylr 8))) (eC (.int 6)))))) (Ylt (Ylr 2) (Ylt (Ylr 6) (Ylt (Ylr 3) YlA)))))))
 (Ym8 (eM YmW Yms (Ylr 7) (Ylt (Yoj (Ylt (Ylr 9) (Ylt (Ylr 10) YlA))) YlA)))))
def ZH : MS :=
 (YlF (YlS 1 (YlI 2 Yk (Ylt (Ylr 0) (Ylt (eC (.int 0)) YlA))))
 (YlF (YlS 2 (YlI 2 YU (Ylt (YlI 2 Yk (Ylt (Ylr 0) (Ylt (eC (.int 1)) YlA))) (Ylt (Ylw Yl2 (eC (.int 1)) (Ylw Ymx (Ylr 1) (eC (.int 3)))) YlA))))
 (YlF (YlS 3 (YlI 1 Zh (Ylt (Ylw Ym4 (YlI 2 Yk (Ylt (Ylr 0) (Ylt (eC (.int 1)) YlA))) (eC (.int 312))) YlA)))
 (YlF (YlS 4 (YlI 2 YQ (Ylt (YlI 2 Yk (Ylt (Ylr 0) (Ylt (eC (.int 2)) YlA))) (Ylt (eC (.int 24)) YlA))))
 (YlF (YmB (Ymv (Ylt (eB YoO (Ylt (Ylw YoH (eB YmA (Ylt (Ylr 0) YlA)) (eC (.int 6))) (Ylt (eC (.int 20)) YlA))) YlA)) (Ylv 5)
 Y6)
 (YlF (YlS 6 YnG)
 (YlF (YlS 7 (YmN (lMk YlA)))
 (YlF (YmB (Ymv (Ylt (Ylw Yl2 (eC (.int 1)) (Ylw Ymx (Ylw Ym4 (Ylr 1) (eC (.int 3))) (eC (.int 2)))) YlA)) (Ylv 8)
 Y9)
 (sRet (Yoj (Ylt (eB Ymy (Ylt (Ylr 7) YlA)) (Ylt (Ylr 3) YlA))))))))))))
def YE : MF := fnM 11 ZH
def ZF : MS :=
 (sRet (Ym1 (eC (.str "")) (Yme (YmI (Ylr 0)) 1 [1] (Ylv 0) Ymd (YnY (Ylr 1) (Ylr 0) (Ylr 0)))))
def Yz : MF := fnM 2 ZF
def Zk : MS :=
 (sIf (Yml (Ylw neP (YlI 2 Yz (Ylt (Ylr 2) (Ylt (Ylr 1) YlA))) (YlI 2 Yz (Ylt (Ylr 3) (Ylt (Ylr 1) YlA)))))
 (sRet (eC (.bl false)))
 YmL)
def Z3 : MS :=
 (YlF (YmB (YmI (Ylr 0)) (Ymb 2 (YlP (Ylv 2) (YlP (Ylv 3) Ymo)))
 Zk)
 (sRet (eC (.bl true))))
def Yt : MF := fnM 4 Z3
def Wl : MS :=
 (YlF (Yoi (Ylr 3) (Ylr 5) (eSl (Ylr 0) (Yni (Ylr 4)) (Yni (Ylw Yl2 (Ylr 4) (Ylr 6)))))
 (YlS 4 (Ylw Yl2 (Ylr 4) (Ylr 6))))
def WX : MS :=
 (YlF (YlS 3 YnG)
 (YlF (YlS 4 (eC (.int 0)))
 (YlF (YmB (Yn5 (Ylt (Ylr 1) (Ylt (Ylr 2) YlA))) (Ymb 2 (YlP (Ylv 5) (YlP (Ylv 6) Ymo)))
 Wl)
 (sRet (Ylr 3)))))
def YC : MF := fnM 7 WX
def ZE : MS :=
 (YlS 2 (Ylw Yl2 (YmN (Yme (YmI (Ylr 2)) 1 [0] (Ylv 0) Ymd (Ylw Yl2 (Ylr 0) (Ylw ixP (Ylr 1) (eC (.int 0)))))) (YmN (Yme (YmI (Ylr 2)) 1 [0] (Ylv 0) Ymd (Ylw Yl2 (Ylr 0) (Ylw ixP (Ylr 1) (eC (.int 1))))))))
def Z0 : MS :=
 (YlF (YlS 2 (YmN (lMk (Ylt (eC (.str "")) YlA))))
 (YlF (YmB (Ymv (Ylt (Ylr 1) YlA)) (Ylv 3)
 ZE)
 (sRet (Ylr 2))))
def YS : MF := fnM 4 Z0
def YA : MS :=
 (YlS 2 (Ylw Yl2 (Ylr 2) (Ylw ixP (YmN (lMk (Ylt (Ylr 1) (Ylt (eB Yol (Ylt (Ylr 4) YlA)) YlA)))) (eB YoF (Ylt (YmS "str" (Ylr 4)) YlA)))))
def Zd : MS :=
 (YmB (YmI (Ylr 3)) (Ylv 4)
 YA)
def Zp : MS :=
 (YlF (YlS 2 (eC (.str "")))
 (YlF (YmB (YmI (Ylr 0)) (Ylv 3)
 Zd)
 (sRet (Ylr 2))))
def Yq : MF := fnM 5 Zp
def Ybh : MS :=
 (Ym8 (eM YmW Yms (Ylr 5) (Ylt (eB YoO (Ylt (Ylw Ymx (YlI 2 Yk (Ylt (Ylr 0) (Ylt (Ylw Yl2 (eC (.int 3)) (Ylr 6)) YlA))) (eC (.int 4))) (Ylt (Ylw YoH (eC (.int 6)) (eB Yoq (Ylt (Ylr 5) YlA))) YlA))) YlA)))
def YgW : MS :=
 (YlF (Yo5 (YlI 1 YE (Ylt (Ylr 0) YlA)) (Ymb 2 (YlP (Ylv 1) (YlP (Ylv 2) Ymo))))
 (YlF (YlS 3 (Ym1 (eC (.str "")) (Yme (YmI (Ylr 1)) 2 [] (Ymb 2 (YlP (Ylv 0) (YlP (Ylv 1) Ymo))) Ymd (Ylw Yl2 (Ylr 0) (Ylr 1)))))
 (YlF (YlS 4 (YmN (Yme (YmI (eC (.str "ABCDEFGHIJKLMNOPQRSTUVWXYZ"))) 1 [3] (Ylv 0) (Yml (Ylw Ynp (Ylr 0) (Ylr 1))) (Ylr 0))))
 (YlF (YlS 5 (YmN (lMk YlA)))
 (YlF (YmB (Ymv (Ylt (eB YmA (Ylt (Ylr 4) YlA)) YlA)) (Ylv 6)
 Ybh)
 (YlF (YlS 7 (YlI 2 YS (Ylt (Ylr 2) (Ylt (eB Yoq (Ylt (Ylr 5) YlA)) YlA))))
 (YlF (YnP 8 (Yme (YmI (Ylr 7)) 1 [5, 4, 1] (Ylv 0) (Ymq (YlI 2 Yt (Ylt (Ylr 3) (Ylt (YlI 3 YC (Ylt (Ylr 0) (Ylt (Ylr 2) (Ylt (Ylr 1) YlA)))) YlA)))) (Ylr 0)))
 (YlF (YlS 9 (YlI 2 Wr (Ylt (Ylr 1) (Ylt (eB Ymy (Ylt (Ylr 5) YlA)) YlA))))
 (YlF (sIf (Yml (Ylw isP (Ylr 9) (eC .non)))
 (sRet (Ylw eqP (Ylr 8) (YmN (lMk YlA))))
 YmL)
 (YlF (sIf (YoX (YmC (Ymq (YmS "tuple" (Ylr 9)))) (Yml (Ylw neP (YmN (Yme (YmI (Ylr 9)) 1 [] (Ylv 0) Ymd (eB YmA (Ylt (Ylr 0) YlA)))) (Ylr 5))))
 (sRet (eC (.bl false)))
 YmL)
 (sRet (YoD (Ylw Ynp (YlI 2 Yq (Ylt (Ylr 9) (Ylt (Ylw ixP (Ylr 2) (eC (.int 0))) YlA))) (Ylr 8)) (Ylw Ynp (YlI 2 Yq (Ylt (Ylr 9) (Ylt (Ylw ixP (Ylr 2) (eC (.int 1))) YlA))) (Ylr 8))))))))))))))
def Ycf : MF := fnM 10 YgW
section
variable {P' : Program} {w : World} {K : Frag} {mg : SOV} {base : Heap}
structure Own (K : Frag) (mg : SOV) : Prop where
 z_dict : mg "dict" = none
 z_int : mg "int" = none
 z_isinstance : mg "isinstance" = none
 z_len : mg "len" = none
 z_min : mg "min" = none
 z_range : mg "range" = none
 z_set : mg "set" = none
 z_sorted : mg "sorted" = none
 z_str : mg "str" = none
 z_sum : mg "sum" = none
 z_tuple : mg "tuple" = none
 z_zip : mg "zip" = none
theorem J3 : YlH ["letter"] ["letter"] (Ylu (top 1)) := by show 134
abbrev HB (n : Str) (t : Stmt) (ps : List Str) := ∀ (kV doc pm : Value) (an : Option Addr) (cdv ct : Value) (us : List Value), us.length = ps.length -> bindArgs (fnOf n n (YlD t) (YlB t) (Ylu t) .none kV doc pm an cdv ct) ⟨us, []⟩ = pure (ps.zip us)
theorem YcZ : HB "is_sign" (top 1) ["letter"]
 | _, _, _, _, _, _, [_], _ => rfl
theorem YcH (T : Top K mg) (O : Own K mg) (D : Ylx K "is_sign" (top 1))  : Fn P' w K mg base "is_sign" 1 ["letter"] Zs := by
 refine @YK P' w K mg base "is_sign" (top 1) ["letter"] ["letter"] 0 Vz T D J3 YcZ ?_
 show 0
 have sc := J3
 show 2
 refine Yca ?_ ?_ ?_ ?_ ?_
 exact Ydw
 exact Ydw
 exact YW
 show 135
 exact YW
theorem WP : YlH ["letter"] ["letter"] (Ylu (top 2)) := by show 134
theorem Yar : HB "is_unknown" (top 2) ["letter"]
 | _, _, _, _, _, _, [_], _ => rfl
theorem Yav (T : Top K mg) (O : Own K mg) (D : Ylx K "is_unknown" (top 2))  : Fn P' w K mg base "is_unknown" 1 ["letter"] YR := by
 refine @YK P' w K mg base "is_unknown" (top 2) ["letter"] ["letter"] 0 Z6 T D WP Yar ?_
 show 0
 have sc := WP
 show 2
 refine Yca ?_ ?_ ?_ ?_ ?_
 exact Ydw
 exact Ydw
 exact YW
 show 135
 exact YW
theorem WR : YlH ["system"] ["system"] (Ylu (top 3)) := by show 134
theorem Yao : HB "letters_of" (top 3) ["system"]
 | _, _, _, _, _, _, [_], _ => rfl
theorem Yaz (T : Top K mg) (O : Own K mg) (D : Ylx K "letters_of" (top 3))  : Fn P' w K mg base "letters_of" 1 ["system"] YT := by
 refine @YK P' w K mg base "letters_of" (top 3) ["system"] ["system"] 0 Z7 T D WR Yao ?_
 show 0
 have sc := WR
 show 2
 refine Wz ?_ ?_
 exact YW
 refine Zb (TN := ["left", "right"]) (FN := []) (fr := []) ?_ ?_ ?_ ?_ ?_
 show 129
 exact (Y0 ["left", "right"] [] [] (by rfl))
 show 41
 exact (Ygw (W5 (YH (by decide)) (W5 (YH (by decide)) YdD)))
 show 74
 show 75
 show 50
 show (["left", "right"] : List Str).Nodup; decide +kernel
 show 7
 show 50
 show (["left", "right"] : List Str).Nodup; decide +kernel
 show 7
 exact Z8
 exact Zq
 show 35
 show 141
theorem YaY : YlH ["letters"] ["letters"] (Ylu (top 4)) := by show 134
theorem Yd1 : HB "rising" (top 4) ["letters"]
 | _, _, _, _, _, _, [_], _ => rfl
theorem YeT (T : Top K mg) (O : Own K mg) (D : Ylx K "rising" (top 4))  : Fn P' w K mg base "rising" 1 ["letters"] Ww := by
 have z_set := O.z_set
 have z_sorted := O.z_sorted
 refine @YK P' w K mg base "rising" (top 4) ["letters"] ["letters"] 0 Yai T D YaY Yd1 ?_
 show 0
 have sc := YaY
 show 2
 refine Wz ?_ ?_
 exact YW
 refine Ycn ?_ ?_ ?_ ?_ ?_ ?_ ?_ ?_
 show 129
 show 129
 exact z_sorted
 exact YeE
 show 129
 exact z_set
 exact Yi9
 show 135
theorem V1 : YlH ["system"] ["system"] (Ylu (top 5)) := by show 134
theorem Ycq : HB "names_of" (top 5) ["system"]
 | _, _, _, _, _, _, [_], _ => rfl
theorem Yb5 (T : Top K mg) (O : Own K mg) (D : Ylx K "names_of" (top 5)) (F_is_unknown : Fn P' w K mg base "is_unknown" 1 ["letter"] YR) (F_letters_of : Fn P' w K mg base "letters_of" 1 ["system"] YT) (F_rising : Fn P' w K mg base "rising" 1 ["letters"] Ww) : Fn P' w K mg base "names_of" 2 ["system"] YJ := by
 refine @YK P' w K mg base "names_of" (top 5) ["system"] ["system"] 1 WU T D V1 Ycq ?_
 show 0
 have sc := V1
 show 2
 refine Ys (ps := ["letters"]) (k := 1) ?_ ?_ ?_ ?_
 exact F_rising
 show 3
 show 173
 refine Zb (TN := ["letter"]) (FN := []) (fr := []) ?_ ?_ ?_ ?_ ?_
 show 129
 exact (Y0 ["letter"] [] [] (by rfl))
 show 151
 refine Ys (ps := ["system"]) (k := 1) ?_ ?_ ?_ ?_
 exact F_letters_of
 show 68
 show 5
 show (["letter"] : List Str).Nodup; decide +kernel
 show 7
 refine Ya9 ?_
 show 162
 refine Ys (ps := ["letter"]) (k := 1) ?_ ?_ ?_ ?_
 exact F_is_unknown
 show 68
 show 160
 show 135
 exact Yc
theorem Ydu : YlH ["side", "length_of", "spots", "letter"] ["side", "length_of"] (Ylu (top 7)) := by show 134
theorem Yib : HB "laid" (top 7) ["side", "length_of"]
 | _, _, _, _, _, _, [_, _], _ => rfl
theorem YiF (T : Top K mg) (O : Own K mg) (D : Ylx K "laid" (top 7)) (F_is_sign : Fn P' w K mg base "is_sign" 1 ["letter"] Zs) : Fn P' w K mg base "laid" 2 ["side", "length_of"] Wv := by
 show 187
 refine @YK P' w K mg base "laid" (top 7) ["side", "length_of", "spots", "letter"] ["side", "length_of"] 1 YcD T D Ydu Yib ?_
 show 0
 have sc := Ydu
 show 43
 show 116
 show 41
 show 10
 show 42
 show 162
 refine Ys (ps := ["letter"]) (k := 1) ?_ ?_ ?_ ?_
 exact F_is_sign
 show 62
 exact Yc
 show 160
 show 36
 exact ZN
 show 144
 show 81
 show 114
 refine je_M (T := "list") (id := "list.extend") ?_ ?_ ?_ ?_ ?_ ?_ ?_
 show 117
 exact PySem.F.slot_list_extend
 exact PySem.F.type_list_extend
 exact YeM
 show 144
 show 130
 show 173
 refine Zb (TN := ["place"]) (FN := ["letter"]) (fr := [3]) ?_ ?_ ?_ ?_ ?_
 show 129
 exact (Y0 ["place"] ["letter"] [3] (by rfl))
 show 76
 show 130
 refine YiV ?_ ?_ ?_ ?_
 show 99
 show 164
 exact Yc
 show 241
 show 5
 show (["place", "letter"] : List Str).Nodup; decide +kernel
 show 16
 refine Ydi ?_
 show 17
 show 78
 show 9
 show 66
theorem J7 : YlH ["heads", "spot", "here"] ["heads", "spot"] (Ylu (top 8)) := by show 134
theorem YcU : HB "head_of" (top 8) ["heads", "spot"]
 | _, _, _, _, _, _, [_, _], _ => rfl
theorem Yde (T : Top K mg) (O : Own K mg) (D : Ylx K "head_of" (top 8))  : Fn P' w K mg base "head_of" 1 ["heads", "spot"] YO := by
 refine @YK P' w K mg base "head_of" (top 8) ["heads", "spot", "here"] ["heads", "spot"] 0 VI T D J7 YcU ?_
 show 0
 have sc := J7
 show 1
 show 141
 show 158
 refine YfM ?_ ?_ ?_
 show 246
 show 170
 exact (Ykx hu)
 show 144
 show 135
 with_unfolding_all rfl
 show 27
 refine YgK ?_ ?_ ?_ ?_
 show 89
 show 144
 show 164
 show 66
theorem Yhe : YlH ["heads", "one", "other", "first", "second"] ["heads", "one", "other"] (Ylu (top 9)) := by show 134
theorem Yj0 : HB "tie" (top 9) ["heads", "one", "other"]
 | _, _, _, _, _, _, [_, _, _], _ => rfl
theorem Yko (T : Top K mg) (O : Own K mg) (D : Ylx K "tie" (top 9)) (F_head_of : Fn P' w K mg base "head_of" 1 ["heads", "spot"] YO) : Fn P' w K mg base "tie" 2 ["heads", "one", "other"] V6 := by
 show 210
 have z_str := O.z_str
 refine @YK P' w K mg base "tie" (top 9) ["heads", "one", "other", "first", "second"] ["heads", "one", "other"] 1 YgX T D Yhe Yj0 ?_
 show 0
 have sc := Yhe
 show 1
 refine Ys (ps := ["heads", "spot"]) (k := 1) ?_ ?_ ?_ ?_
 exact F_head_of
 show 15
 show 6
 show 1
 refine Ys (ps := ["heads", "spot"]) (k := 1) ?_ ?_ ?_ ?_
 exact F_head_of
 show 15
 show 13
 show 24
 exact (YdG hu8)
 show 94
 show 56
 show 19
 refine Jr ?_
 show 49
 exact Jl
 show 129
 exact z_isinstance
 exact YX
 show 129
 exact z_str
 exact J8
 show 146
 show 160
 show 156
 refine YbA ?_ ?_ ?_ ?_
 show 89
 show 94
 show 42
 refine Jr ?_
 show 49
 exact Jl
 show 129
 exact z_isinstance
 exact YX
 show 129
 exact z_str
 exact J8
 show 93
 show 156
 refine YbA ?_ ?_ ?_ ?_
 show 89
 show 140
 show 146
 show 28
 show 28
theorem W8 : YlH ["heads", "one", "other", "here", "there"] ["heads", "one", "other"] (Ylu (top 10)) := by show 134
theorem Ybc : HB "tie_sides" (top 10) ["heads", "one", "other"]
 | _, _, _, _, _, _, [_, _, _], _ => rfl
theorem Ybm (T : Top K mg) (O : Own K mg) (D : Ylx K "tie_sides" (top 10)) (F_tie : Fn P' w K mg base "tie" 2 ["heads", "one", "other"] V6) : Fn P' w K mg base "tie_sides" 3 ["heads", "one", "other"] YB := by
 show 188
 have z_zip := O.z_zip
 refine @YK P' w K mg base "tie_sides" (top 10) ["heads", "one", "other", "here", "there"] ["heads", "one", "other"] 2 Wx T D W8 Ybc ?_
 show 0
 have sc := W8
 show 24
 exact (YfB hu8)
 show 30
 show 6
 show 30
 show 13
 show 56
 show 26
 refine Ydv ?_ ?_ ?_ ?_
 show 129
 exact z_zip
 exact Ydb
 show 17
 show 13
 show 98
 refine Jr ?_
 show 162
 refine Ys (ps := ["heads", "one", "other"]) (k := 2) ?_ ?_ ?_ ?_
 exact F_tie
 show 15
 show 115
 show 87
 exact Yc
 show 160
 show 120
 show 28
theorem Yb9 : YlH ["heads", "numbers", "spot", "head"] ["heads", "numbers", "spot"] (Ylu (top 11)) := by show 134
theorem YgD : HB "shown" (top 11) ["heads", "numbers", "spot"]
 | _, _, _, _, _, _, [_, _, _], _ => rfl
theorem Yfp (T : Top K mg) (O : Own K mg) (D : Ylx K "shown" (top 11)) (F_head_of : Fn P' w K mg base "head_of" 1 ["heads", "spot"] YO) : Fn P' w K mg base "shown" 2 ["heads", "numbers", "spot"] ZB := by
 show 210
 show 188
 have z_str := O.z_str
 refine @YK P' w K mg base "shown" (top 11) ["heads", "numbers", "spot", "head"] ["heads", "numbers", "spot"] 1 Ybv T D Yb9 YgD ?_
 show 0
 have sc := Yb9
 show 1
 refine Ys (ps := ["heads", "spot"]) (k := 1) ?_ ?_ ?_ ?_
 exact F_head_of
 show 15
 show 13
 show 19
 show 49
 exact Jl
 show 129
 exact z_isinstance
 exact YX
 show 129
 exact z_str
 exact J8
 show 146
 show 160
 show 65
 exact YY
 show 24
 exact (Yea hu)
 show 146
 show 141
 with_unfolding_all rfl
 show 156
 refine YbA ?_ ?_ ?_ ?_
 show 99
 show 248
 exact Yil
 show 112
 show 6
 exact YY
 show 2
 refine YgK ?_ ?_ ?_ ?_
 show 99
 show 164
theorem YdB : YlH ["system", "lengths", "length_of", "heads", "left", "right", "numbers", "told", "name"] ["system", "lengths"] (Ylu (top 12)) := by show 134
theorem Yhv : HB "tied" (top 12) ["system", "lengths"]
 | _, _, _, _, _, _, [_, _], _ => rfl
theorem Yiy (T : Top K mg) (O : Own K mg) (D : Ylx K "tied" (top 12)) (F_laid : Fn P' w K mg base "laid" 2 ["side", "length_of"] Wv) (F_names_of : Fn P' w K mg base "names_of" 2 ["system"] YJ) (F_shown : Fn P' w K mg base "shown" 2 ["heads", "numbers", "spot"] ZB) (F_tie_sides : Fn P' w K mg base "tie_sides" 3 ["heads", "one", "other"] YB) : Fn P' w K mg base "tied" 4 ["system", "lengths"] Wr := by
 have z_dict := O.z_dict
 have z_tuple := O.z_tuple
 have z_zip := O.z_zip
 refine @YK P' w K mg base "tied" (top 12) ["system", "lengths", "length_of", "heads", "left", "right", "numbers", "told", "name"] ["system", "lengths"] 3 Ydj T D YdB Yhv ?_
 show 0
 have sc := YdB
 show 1
 refine YfD ?_ ?_ ?_ ?_ ?_ ?_ ?_ ?_
 show 129
 show 129
 exact z_dict
 exact Yir
 show 129
 exact z_zip
 exact Ydb
 show 130
 refine Ys (ps := ["system"]) (k := 2) ?_ ?_ ?_ ?_
 exact F_names_of
 show 68
 show 6
 show 1
 exact YaO
 show 67
 show 98
 refine Jr ?_
 show 162
 refine Ys (ps := ["heads", "one", "other"]) (k := 3) ?_ ?_ ?_ ?_
 exact F_tie_sides
 show 62
 show 130
 refine Ys (ps := ["side", "length_of"]) (k := 2) ?_ ?_ ?_ ?_
 exact F_laid
 show 3
 show 140
 show 13
 show 130
 refine Ys (ps := ["side", "length_of"]) (k := 2) ?_ ?_ ?_ ?_
 exact F_laid
 show 3
 show 153
 show 18
 show 9
 show 160
 show 2
 exact Yf2
 exact YY
 show 1
 exact YaO
 show 43
 exact Yc
 show 158
 refine YjA ?_
 show 73
 refine YhE ?_
 show 144
 show 10
 show 36
 exact ZN
 exact (jv 7)
 show 130
 refine YeQ ?_ ?_ ?_ ?_
 show 129
 exact z_tuple
 exact Wf
 refine Zb (TN := ["spot"]) (FN := ["heads", "numbers"]) (fr := [3, 6]) ?_ ?_ ?_ ?_ ?_
 show 129
 exact (Y0 ["spot"] ["heads", "numbers"] [3, 6] (by rfl))
 show 151
 refine Ys (ps := ["side", "length_of"]) (k := 2) ?_ ?_ ?_ ?_
 exact F_laid
 show 3
 show 175
 show 13
 show 5
 show (["spot", "heads", "numbers"] : List Str).Nodup; decide +kernel
 show 16
 refine Ys (ps := ["heads", "numbers", "spot"]) (k := 2) ?_ ?_ ?_ ?_
 exact F_shown
 show 3
 show 141
 show 18
 show 78
 show 9
 show 2
 refine Yce (T := "tuple") ?_ ?_ ?_ ?_ ?_
 exact (VM rfl)
 show 129
 exact z_tuple
 exact Wf
 show 130
 exact (jv 7)
 exact Yc
theorem Wb : YlH ["_law_script", "_law_k"] ["_law_script", "_law_k"] (Ylu (top 14)) := by show 134
theorem Jk : HB "_law_cell_at" (top 14) ["_law_script", "_law_k"]
 | _, _, _, _, _, _, [_, _], _ => rfl
theorem Ji (T : Top K mg) (O : Own K mg) (D : Ylx K "_law_cell_at" (top 14))  : Fn P' w K mg base "_law_cell_at" 1 ["_law_script", "_law_k"] Yk := by
 show 188
 refine @YK P' w K mg base "_law_cell_at" (top 14) ["_law_script", "_law_k"] ["_law_script", "_law_k"] 0 Zx T D Wb Jk ?_
 show 0
 have sc := Wb
 show 24
 exact YiO
 show 141
 show 104
 exact Yc
 show 166
 show 2
 show 14
 show 135
 show 141
 show 164
 exact YY
 show 2
 exact Yf
theorem WM : YlH ["_law_cell", "_law_many", "_law_number", "_law_found", "_law_k"] ["_law_cell", "_law_many"] (Ylu (top 15)) := by show 134
theorem Yas : HB "_law_mixed" (top 15) ["_law_cell", "_law_many"]
 | _, _, _, _, _, _, [_, _], _ => rfl
theorem YaA (T : Top K mg) (O : Own K mg) (D : Ylx K "_law_mixed" (top 15))  : Fn P' w K mg base "_law_mixed" 1 ["_law_cell", "_law_many"] YQ := by
 show 187
 refine @YK P' w K mg base "_law_mixed" (top 15) ["_law_cell", "_law_many", "_law_number", "_law_found", "_law_k"] ["_law_cell", "_law_many"] 0 ZT T D WM Yas ?_
 show 0
 have sc := WM
 show 1
 show 29
 show 4
 show 135
 exact Yf
 show 103
 show 6
 show 34
 show 1
 show 4
 show 40
 show 144
 show 22
 show 36
 exact ZN
 show 146
 show 13
 show 65
theorem WO : YlH ["_law_cell", "_law_many", "_law_letters", "_law_step"] ["_law_cell", "_law_many"] (Ylu (top 16)) := by show 134
theorem Yax : HB "_law_names" (top 16) ["_law_cell", "_law_many"]
 | _, _, _, _, _, _, [_, _], _ => rfl
theorem YaC (T : Top K mg) (O : Own K mg) (D : Ylx K "_law_names" (top 16))  : Fn P' w K mg base "_law_names" 1 ["_law_cell", "_law_many"] YU := by
 show 187
 refine @YK P' w K mg base "_law_names" (top 16) ["_law_cell", "_law_many", "_law_letters", "_law_step"] ["_law_cell", "_law_many"] 0 ZS T D WO Yax ?_
 show 0
 have sc := WO
 show 37
 show 1
 show 14
 show 39
 show 101
 show 101
 show 101
 exact Yc
 show 38
 show 135
 exact Yf
 show 12
 show 2
 refine Wz ?_ ?_
 exact YW
 refine Zb (TN := ["_law_k"]) (FN := ["_law_cell", "_law_letters", "_law_step"]) (fr := [0, 2, 3]) ?_ ?_ ?_ ?_ ?_
 show 129
 exact (Y0 ["_law_k"] ["_law_cell", "_law_letters", "_law_step"] [0, 2, 3] (by rfl))
 show 76
 show 6
 show 241
 show 5
 show (["_law_k", "_law_cell", "_law_letters", "_law_step"] : List Str).Nodup; decide +kernel
 show 16
 show 122
 show 4
 show 8
 show 141
 show 40
 show 146
 show 135
 show 12
theorem V5 : YlH ["_law_cell", "_law_letters"] ["_law_cell"] (Ylu (top 17)) := by show 134
theorem Yck : HB "_law_two" (top 17) ["_law_cell"]
 | _, _, _, _, _, _, [_], _ => rfl
theorem Ycz (T : Top K mg) (O : Own K mg) (D : Ylx K "_law_two" (top 17))  : Fn P' w K mg base "_law_two" 1 ["_law_cell"] Zh := by
 refine @YK P' w K mg base "_law_two" (top 17) ["_law_cell", "_law_letters"] ["_law_cell"] 0 W1 T D V5 Yck ?_
 show 0
 have sc := V5
 show 37
 show 2
 show 8
 show 102
 show 135
 show 12
 show 102
 show 8
 show 35
 exact Yf
 show 38
 show 135
 show 22
 show 12
theorem Vf : YlH ["_law_numbers", "_law_names_here", "_law_counts", "_law_two_here", "_law_side_here", "_law_number", "_law_name"] ["_law_numbers", "_law_names_here", "_law_counts", "_law_two_here"] (Ylu (top 18)) := by show 134
theorem Ybs : HB "_law_side" (top 18) ["_law_numbers", "_law_names_here", "_law_counts", "_law_two_here"]
 | _, _, _, _, _, _, [_, _, _, _], _ => rfl
theorem YbC (T : Top K mg) (O : Own K mg) (D : Ylx K "_law_side" (top 18))  : Fn P' w K mg base "_law_side" 1 ["_law_numbers", "_law_names_here", "_law_counts", "_law_two_here"] YL := by
 show 188
 refine @YK P' w K mg base "_law_side" (top 18) ["_law_numbers", "_law_names_here", "_law_counts", "_law_two_here", "_law_side_here", "_law_number", "_law_name"] ["_law_numbers", "_law_names_here", "_law_counts", "_law_two_here"] 0 Wt T D Vf Ybs ?_
 show 0
 have sc := Vf
 show 37
 show 67
 show 10
 show 1
 show 102
 show 4
 show 40
 show 153
 show 22
 show 30
 show 6
 show 164
 show 42
 refine L2.PW.pt ?_
 refine Yfv ?_ ?_
 show 170
 exact YkT
 show 4
 show 153
 show 22
 show 166
 refine YdI ?_
 show 170
 exact YiO
 refine YcS ?_ ?_ ?_ ?_ ?_
 show 105
 exact Yf
 exact ⟨rfl, rfl, rfl, rfl⟩
 exact Yf
 show 166
 show 158
 refine Ybz ?_ ?_ ?_ ?_
 show 105
 show 8
 refine YcS ?_ ?_ ?_ ?_ ?_
 show 105
 exact Yf
 exact ⟨rfl, rfl, rfl, rfl⟩
 exact Yf
 show 23
 show 92
 show 23
 show 140
 show 14
 show 146
 show 38
 show 153
 exact Yf
 show 12
 show 2
 show 140
theorem ZJ : YlH ["_law_left", "_law_counts", "_law_two_here", "_law_right", "_law_letter"] ["_law_left", "_law_counts", "_law_two_here"] (Ylu (top 19)) := by show 134
theorem VF : HB "_law_mirrored" (top 19) ["_law_left", "_law_counts", "_law_two_here"]
 | _, _, _, _, _, _, [_, _, _], _ => rfl
theorem VG (T : Top K mg) (O : Own K mg) (D : Ylx K "_law_mirrored" (top 19))  : Fn P' w K mg base "_law_mirrored" 1 ["_law_left", "_law_counts", "_law_two_here"] Yw := by
 refine @YK P' w K mg base "_law_mirrored" (top 19) ["_law_left", "_law_counts", "_law_two_here", "_law_right", "_law_letter"] ["_law_left", "_law_counts", "_law_two_here"] 0 Zo T D ZJ VF ?_
 show 0
 have sc := ZJ
 show 37
 show 26
 show 151
 refine Yhw ?_
 show 135
 show 10
 show 19
 refine L2.PW.pt ?_
 refine Yfv ?_ ?_
 show 162
 refine YiQ (T := "str") (id := "str.isupper") ?_ ?_ ?_ ?_ ?_ ?_
 exact YfU
 exact PySem.F.plainAttrs_str
 exact PySem.F.slot_str_isupper
 exact PySem.F.type_str_isupper
 exact JC
 show 93
 refine YdI ?_
 show 170
 exact (YdG hu8)
 show 44
 show 140
 show 57
 show 166
 show 27
 show 107
 exact YY
 show 19
 show 162
 refine YiQ (T := "str") (id := "str.isupper") ?_ ?_ ?_ ?_ ?_ ?_
 exact YfU
 exact PySem.F.plainAttrs_str
 exact PySem.F.slot_str_isupper
 exact PySem.F.type_str_isupper
 exact JC
 show 93
 show 156
 refine Ybz ?_ ?_ ?_ ?_
 show 79
 show 140
 exact Yf
 exact YY
 show 23
 show 94
 show 65
theorem Wg : YlH ["_law_script", "_law_first", "_law_names_here", "_law_two_here", "_law_numbers", "_law_k", "_law_counts", "_law_system_here", "_law_e", "_law_left", "_law_right"] ["_law_script"] (Ylu (top 20)) := by show 134
theorem Yaj : HB "_law_system" (top 20) ["_law_script"]
 | _, _, _, _, _, _, [_], _ => rfl
theorem JR (T : Top K mg) (O : Own K mg) (D : Ylx K "_law_system" (top 20)) (F__law_cell_at : Fn P' w K mg base "_law_cell_at" 1 ["_law_script", "_law_k"] Yk) (F__law_mirrored : Fn P' w K mg base "_law_mirrored" 1 ["_law_left", "_law_counts", "_law_two_here"] Yw) (F__law_mixed : Fn P' w K mg base "_law_mixed" 1 ["_law_cell", "_law_many"] YQ) (F__law_names : Fn P' w K mg base "_law_names" 1 ["_law_cell", "_law_many"] YU) (F__law_side : Fn P' w K mg base "_law_side" 1 ["_law_numbers", "_law_names_here", "_law_counts", "_law_two_here"] YL) (F__law_two : Fn P' w K mg base "_law_two" 1 ["_law_cell"] Zh) : Fn P' w K mg base "_law_system" 2 ["_law_script"] YE := by
 show 188
 have z_min := O.z_min
 show 187
 have z_tuple := O.z_tuple
 refine @YK P' w K mg base "_law_system" (top 20) ["_law_script", "_law_first", "_law_names_here", "_law_two_here", "_law_numbers", "_law_k", "_law_counts", "_law_system_here", "_law_e", "_law_left", "_law_right"] ["_law_script"] 1 ZH T D Wg Yaj ?_
 show 0
 have sc := Wg
 show 1
 show 61
 show 55
 refine Ys (ps := ["_law_cell", "_law_many"]) (k := 1) ?_ ?_ ?_ ?_
 exact F__law_names
 show 3
 show 61
 exact Yc
 show 88
 show 4
 show 141
 exact Yf
 show 55
 refine Ys (ps := ["_law_cell"]) (k := 1) ?_ ?_ ?_ ?_
 exact F__law_two
 show 3
 show 113
 show 61
 show 90
 show 55
 refine Ys (ps := ["_law_cell", "_law_many"]) (k := 1) ?_ ?_ ?_ ?_
 exact F__law_mixed
 show 3
 show 61
 exact Yc
 show 25
 show 80
 show 130
 refine je_B (id := "min") ?_ ?_ ?_ ?_ ?_
 exact (YgU rfl)
 show 129
 exact z_min
 exact Yhj
 show 130
 show 184
 exact YfT
 show 104
 show 90
 show 25
 show 9
 show 34
 show 156
 refine Ybz ?_ ?_ ?_ ?_
 exact hu
 show 140
 show 153
 show 108
 show 135
 show 29
 show 153
 show 57
 show 1
 exact Yb0
 show 103
 show 88
 show 38
 show 141
 show 22
 exact Yc
 show 34
 show 1
 refine Ys (ps := ["_law_numbers", "_law_names_here", "_law_counts", "_law_two_here"]) (k := 1) ?_ ?_ ?_ ?_
 exact F__law_side
 show 3
 refine JP ?_ ?_ ?_
 show 140
 show 243
 show 64
 show 51
 show 64
 show 108
 show 140
 show 29
 show 175
 show 57
 show 18
 show 130
 show 91
 show 24
 exact (YdG hu8)
 show 38
 show 141
 show 22
 exact Yf
 show 166
 show 27
 refine Ys (ps := ["_law_left", "_law_counts", "_law_two_here"]) (k := 1) ?_ ?_ ?_ ?_
 exact F__law_mirrored
 show 100
 show 91
 show 27
 refine Ys (ps := ["_law_numbers", "_law_names_here", "_law_counts", "_law_two_here"]) (k := 1) ?_ ?_ ?_ ?_
 exact F__law_side
 show 3
 refine JP ?_ ?_ ?_
 show 140
 show 51
 show 64
 exact Yf
 show 51
 show 8
 show 64
 exact Yf
 show 108
 show 140
 show 29
 show 175
 show 57
 show 18
 show 130
 show 91
 show 36
 exact ZN
 exact (jv 7)
 show 130
 refine Ydi ?_
 show 130
 show 121
 exact (jv 10)
 show 9
 show 2
 refine Ydi ?_
 show 130
 refine Yce (T := "tuple") ?_ ?_ ?_ ?_ ?_
 exact (VM rfl)
 show 129
 exact z_tuple
 exact Wf
 show 130
 exact (jv 7)
 exact Yc
 show 81
theorem Wk : YlH ["_law_side_here", "_law_words"] ["_law_side_here", "_law_words"] (Ylu (top 21)) := by show 134
theorem Jv : HB "_law_filled" (top 21) ["_law_side_here", "_law_words"]
 | _, _, _, _, _, _, [_, _], _ => rfl
theorem Yag (T : Top K mg) (O : Own K mg) (D : Ylx K "_law_filled" (top 21))  : Fn P' w K mg base "_law_filled" 1 ["_law_side_here", "_law_words"] Yz := by
 refine @YK P' w K mg base "_law_filled" (top 21) ["_law_side_here", "_law_words"] ["_law_side_here", "_law_words"] 0 ZF T D Wk Jv ?_
 show 0
 have sc := Wk
 show 2
 refine Wz ?_ ?_
 exact YW
 refine Zb (TN := ["_law_letter"]) (FN := ["_law_words"]) (fr := [1]) ?_ ?_ ?_ ?_ ?_
 show 129
 exact (Y0 ["_law_letter"] ["_law_words"] [1] (by rfl))
 show 41
 show 5
 show (["_law_letter", "_law_words"] : List Str).Nodup; decide +kernel
 show 16
 refine YcS ?_ ?_ ?_ ?_ ?_
 show 79
 show 135
 show 135
 exact ⟨rfl, rfl, rfl, rfl⟩
theorem WS : YlH ["_law_system_here", "_law_words", "_law_left", "_law_right"] ["_law_system_here", "_law_words"] (Ylu (top 22)) := by show 134
theorem YaD : HB "_law_alike" (top 22) ["_law_system_here", "_law_words"]
 | _, _, _, _, _, _, [_, _], _ => rfl
theorem Yay (T : Top K mg) (O : Own K mg) (D : Ylx K "_law_alike" (top 22)) (F__law_filled : Fn P' w K mg base "_law_filled" 1 ["_law_side_here", "_law_words"] Yz) : Fn P' w K mg base "_law_alike" 2 ["_law_system_here", "_law_words"] Yt := by
 refine @YK P' w K mg base "_law_alike" (top 22) ["_law_system_here", "_law_words", "_law_left", "_law_right"] ["_law_system_here", "_law_words"] 1 Z3 T D WS YaD ?_
 show 0
 have sc := WS
 show 67
 show 98
 show 170
 exact (YfB hu8)
 refine Ys (ps := ["_law_side_here", "_law_words"]) (k := 1) ?_ ?_ ?_ ?_
 exact F__law_filled
 show 3
 show 144
 show 6
 refine Ys (ps := ["_law_side_here", "_law_words"]) (k := 1) ?_ ?_ ?_ ?_
 exact F__law_filled
 show 62
 show 6
 show 56
 show 28
theorem V3 : YlH ["_law_text", "_law_names_here", "_law_lengths", "_law_words", "_law_at", "_law_name", "_law_length"] ["_law_text", "_law_names_here", "_law_lengths"] (Ylu (top 23)) := by show 134
theorem Yb4 : HB "_law_cut" (top 23) ["_law_text", "_law_names_here", "_law_lengths"]
 | _, _, _, _, _, _, [_, _, _], _ => rfl
theorem Ych (T : Top K mg) (O : Own K mg) (D : Ylx K "_law_cut" (top 23))  : Fn P' w K mg base "_law_cut" 1 ["_law_text", "_law_names_here", "_law_lengths"] YC := by
 have z_zip := O.z_zip
 refine @YK P' w K mg base "_law_cut" (top 23) ["_law_text", "_law_names_here", "_law_lengths", "_law_words", "_law_at", "_law_name", "_law_length"] ["_law_text", "_law_names_here", "_law_lengths"] 0 WX T D V3 Yb4 ?_
 show 0
 have sc := V3
 show 1
 exact Yb0
 show 1
 exact Yf
 show 26
 refine Ydv ?_ ?_ ?_ ?_
 show 129
 exact z_zip
 exact Ydb
 show 17
 show 13
 show 82
 show 158
 refine Ybz ?_ ?_ ?_ ?_
 exact hu
 show 146
 show 153
 refine JP ?_ ?_ ?_
 show 135
 show 243
 show 140
 show 51
 show 92
 show 23
 show 92
 show 65
theorem WN : YlH ["_law_two_here", "_law_many", "_law_texts_here", "_law_k"] ["_law_two_here", "_law_many"] (Ylu (top 24)) := by show 134
theorem Yaw : HB "_law_texts" (top 24) ["_law_two_here", "_law_many"]
 | _, _, _, _, _, _, [_, _], _ => rfl
theorem YaB (T : Top K mg) (O : Own K mg) (D : Ylx K "_law_texts" (top 24))  : Fn P' w K mg base "_law_texts" 1 ["_law_two_here", "_law_many"] YS := by
 show 187
 refine @YK P' w K mg base "_law_texts" (top 24) ["_law_two_here", "_law_many", "_law_texts_here", "_law_k"] ["_law_two_here", "_law_many"] 0 Z0 T D WN Yaw ?_
 show 0
 have sc := WN
 show 43
 show 130
 exact YW
 show 80
 show 6
 show 34
 show 23
 show 173
 refine Zb (TN := ["_law_text"]) (FN := ["_law_two_here"]) (fr := [0]) ?_ ?_ ?_ ?_ ?_
 show 129
 exact (Y0 ["_law_text"] ["_law_two_here"] [0] (by rfl))
 show 151
 show 144
 show 5
 show (["_law_text", "_law_two_here"] : List Str).Nodup; decide +kernel
 show 16
 show 35
 show 44
 show 12
 show 173
 refine Zb (TN := ["_law_text"]) (FN := ["_law_two_here"]) (fr := [0]) ?_ ?_ ?_ ?_ ?_
 show 129
 exact (Y0 ["_law_text"] ["_law_two_here"] [0] (by rfl))
 show 151
 show 144
 show 5
 show (["_law_text", "_law_two_here"] : List Str).Nodup; decide +kernel
 show 16
 show 35
 show 44
 show 12
 show 66
theorem ZR : YlH ["_law_found", "_law_sign", "_law_text", "_law_row", "_law_one"] ["_law_found", "_law_sign"] (Ylu (top 25)) := by show 134
theorem VR : HB "_law_one_sign" (top 25) ["_law_found", "_law_sign"]
 | _, _, _, _, _, _, [_, _], _ => rfl
theorem Vw (T : Top K mg) (O : Own K mg) (D : Ylx K "_law_one_sign" (top 25))  : Fn P' w K mg base "_law_one_sign" 1 ["_law_found", "_law_sign"] Yq := by
 have z_int := O.z_int
 show 210
 have z_str := O.z_str
 refine @YK P' w K mg base "_law_one_sign" (top 25) ["_law_found", "_law_sign", "_law_text", "_law_row", "_law_one"] ["_law_found", "_law_sign"] 0 Zp T D ZR VR ?_
 show 0
 have sc := ZR
 show 37
 show 67
 show 10
 show 156
 show 73
 show 151
 show 146
 show 10
 show 23
 show 144
 show 14
 show 39
 show 17
 show 130
 refine Yce (T := "str") ?_ ?_ ?_ ?_ ?_
 exact YiZ
 show 129
 exact z_str
 exact J8
 show 87
 show 9
 refine Yce (T := "int") ?_ ?_ ?_ ?_ ?_
 exact Yki
 show 129
 exact z_int
 exact YkA
 show 130
 show 255
 exact Jl
 show 129
 exact z_isinstance
 exact YX
 show 129
 exact z_str
 exact J8
 show 140
 exact Yc
 show 164
 show 66
theorem Yg3 : YlH ["_law_script", "_law_system_here", "_law_two_here", "_law_letters", "_law_names_here", "_law_lengths", "_law_k", "_law_texts_here", "_law_some", "_law_found"] ["_law_script"] (Ylu (top 26)) := by show 134
theorem Yln : HB "law" (top 26) ["_law_script"]
 | _, _, _, _, _, _, [_], _ => rfl
theorem Yj4 (T : Top K mg) (O : Own K mg) (F__law_alike : Fn P' w K mg base "_law_alike" 2 ["_law_system_here", "_law_words"] Yt) (F__law_cell_at : Fn P' w K mg base "_law_cell_at" 1 ["_law_script", "_law_k"] Yk) (F__law_cut : Fn P' w K mg base "_law_cut" 1 ["_law_text", "_law_names_here", "_law_lengths"] YC) (F__law_one_sign : Fn P' w K mg base "_law_one_sign" 1 ["_law_found", "_law_sign"] Yq) (F__law_system : Fn P' w K mg base "_law_system" 2 ["_law_script"] YE) (F__law_texts : Fn P' w K mg base "_law_texts" 1 ["_law_two_here", "_law_many"] YS) (F_tied : Fn P' w K mg base "tied" 4 ["system", "lengths"] Wr) (f : Addr) (fd : FuncData) (F : Fun K "law" "law" (top 26) f fd) : FM P' w K mg base 5 f fd ["_law_script"] Ycf := by
 show 210
 show 188
 have z_min := O.z_min
 show 187
 have z_sum := O.z_sum
 have z_tuple := O.z_tuple
 refine @Mi.Fun.mirror P' w K mg base "law" "law" (top 26) f fd ["_law_script", "_law_system_here", "_law_two_here", "_law_letters", "_law_names_here", "_law_lengths", "_law_k", "_law_texts_here", "_law_some", "_law_found"] ["_law_script"] 4 YgW F Yg3 ?_
 intro cdv A outer s H E hr
 show 110
 have sc := Yg3
 show 158
 refine Yi4 ?_ ?_
 refine Ys (ps := ["_law_script"]) (k := 2) ?_ ?_ ?_ ?_
 exact F__law_system
 show 68
 show 82
 show 1
 refine Wz ?_ ?_
 exact YW
 refine Zb (TN := ["_law_left", "_law_right"]) (FN := []) (fr := []) ?_ ?_ ?_ ?_ ?_
 show 129
 exact (Y0 ["_law_left", "_law_right"] [] [] (by rfl))
 show 151
 show 141
 exact (Ygw (W5 (YH (by decide)) (W5 (YH (by decide)) YdD)))
 show 74
 show 75
 show 50
 show (["_law_left", "_law_right"] : List Str).Nodup; decide +kernel
 show 7
 show 50
 show (["_law_left", "_law_right"] : List Str).Nodup; decide +kernel
 show 7
 exact Z8
 exact Zq
 show 35
 show 141
 show 1
 show 173
 refine Zb (TN := ["_law_name"]) (FN := ["_law_letters"]) (fr := [3]) ?_ ?_ ?_ ?_ ?_
 show 129
 exact (Y0 ["_law_name"] ["_law_letters"] [3] (by rfl))
 show 151
 exact YW
 show 5
 show (["_law_name", "_law_letters"] : List Str).Nodup; decide +kernel
 show 7
 refine Ya9 ?_
 show 170
 exact (Ybj hu)
 show 135
 show 141
 with_unfolding_all rfl
 show 135
 show 103
 show 130
 show 30
 show 87
 show 9
 show 34
 show 36
 exact ZN
 show 153
 show 130
 refine je_B (id := "min") ?_ ?_ ?_ ?_ ?_
 exact (YgU rfl)
 show 129
 exact z_min
 exact Yhj
 show 130
 show 4
 show 119
 show 88
 show 226
 show 90
 show 130
 show 184
 exact YfT
 exact Yf
 refine je_B (id := "sum") ?_ ?_ ?_ ?_ ?_
 exact (Yhg rfl)
 show 129
 exact z_sum
 exact YgT
 show 106
 show 55
 refine Ys (ps := ["_law_two_here", "_law_many"]) (k := 1) ?_ ?_ ?_ ?_
 exact F__law_texts
 show 3
 show 144
 show 130
 refine je_B (id := "sum") ?_ ?_ ?_ ?_ ?_
 exact (Yhg rfl)
 show 129
 exact z_sum
 exact YgT
 show 106
 show 158
 refine Ydk (TN := ["_law_text"]) (FN := ["_law_lengths", "_law_names_here", "_law_system_here"]) (fr := [5, 4, 1]) ?_ ?_ ?_ ?_ ?_ ?_ ?_ ?_
 show 72
 show 129
 exact (Y0 ["_law_text"] ["_law_lengths", "_law_names_here", "_law_system_here"] [5, 4, 1] (by rfl))
 show 151
 exact (jv 7)
 show 5
 show (["_law_text", "_law_lengths", "_law_names_here", "_law_system_here"] : List Str).Nodup; decide +kernel
 show 7
 refine Ya9 ?_
 show 162
 refine Ys (ps := ["_law_system_here", "_law_words"]) (k := 2) ?_ ?_ ?_ ?_
 exact F__law_alike
 show 62
 show 130
 refine Ys (ps := ["_law_text", "_law_names_here", "_law_lengths"]) (k := 1) ?_ ?_ ?_ ?_
 exact F__law_cut
 show 15
 show 18
 show 17
 show 9
 show 160
 show 135
 show 1
 refine Ys (ps := ["system", "lengths"]) (k := 4) ?_ ?_ ?_ ?_
 exact F_tied
 show 3
 show 141
 show 130
 refine Yce (T := "tuple") ?_ ?_ ?_ ?_ ?_
 exact (VM rfl)
 show 129
 exact z_tuple
 exact Wf
 show 106
 show 24
 exact YkO
 show 223
 exact Yf2
 show 166
 show 2
 refine YcW ?_ ?_ ?_ ?_
 exact (YdG hu8)
 show 175
 show 39
 exact Yc
 show 166
 exact YY
 show 19
 refine L2.PW.pt ?_
 refine YkE ?_ ?_
 refine Jr ?_
 show 49
 exact Yez
 show 129
 exact z_isinstance
 exact YX
 show 129
 exact z_tuple
 exact Wf
 show 223
 show 160
 refine Yjy ?_
 show 170
 exact (YfB hu8)
 show 173
 refine Zb (TN := ["_law_row"]) (FN := []) (fr := []) ?_ ?_ ?_ ?_ ?_
 show 129
 exact (Y0 ["_law_row"] [] [] (by rfl))
 show 151
 show 223
 show 5
 show (["_law_row"] : List Str).Nodup; decide +kernel
 show 16
 show 104
 exact Yc
 show 153
 show 56
 show 2
 refine Yjp ?_ ?_
 refine YcW ?_ ?_ ?_ ?_
 exact (Ybj hu)
 refine Ys (ps := ["_law_found", "_law_sign"]) (k := 1) ?_ ?_ ?_ ?_
 exact F__law_one_sign
 show 100
 show 107
 exact Yc
 show 175
 with_unfolding_all rfl
 refine YjD ?_
 refine YcW ?_ ?_ ?_ ?_
 exact (Ybj hu)
 refine Ys (ps := ["_law_found", "_law_sign"]) (k := 1) ?_ ?_ ?_ ?_
 exact F__law_one_sign
 show 100
 show 107
 exact Yc
 show 175
 with_unfolding_all rfl
end
structure Seen (K : Frag) : Prop where
 d_is_sign : Ylx K "is_sign" (top 1)
 d_is_unknown : Ylx K "is_unknown" (top 2)
 d_letters_of : Ylx K "letters_of" (top 3)
 d_rising : Ylx K "rising" (top 4)
 d_names_of : Ylx K "names_of" (top 5)
 d_laid : Ylx K "laid" (top 7)
 d_head_of : Ylx K "head_of" (top 8)
 d_tie : Ylx K "tie" (top 9)
 d_tie_sides : Ylx K "tie_sides" (top 10)
 d_shown : Ylx K "shown" (top 11)
 d_tied : Ylx K "tied" (top 12)
 d__law_cell_at : Ylx K "_law_cell_at" (top 14)
 d__law_mixed : Ylx K "_law_mixed" (top 15)
 d__law_names : Ylx K "_law_names" (top 16)
 d__law_two : Ylx K "_law_two" (top 17)
 d__law_side : Ylx K "_law_side" (top 18)
 d__law_mirrored : Ylx K "_law_mirrored" (top 19)
 d__law_system : Ylx K "_law_system" (top 20)
 d__law_filled : Ylx K "_law_filled" (top 21)
 d__law_alike : Ylx K "_law_alike" (top 22)
 d__law_cut : Ylx K "_law_cut" (top 23)
 d__law_texts : Ylx K "_law_texts" (top 24)
 d__law_one_sign : Ylx K "_law_one_sign" (top 25)
 d_law : Ylx K "law" (top 26)
 z_dict : nsIn K mainGlobals "dict" = some none
 z_int : nsIn K mainGlobals "int" = some none
 z_isinstance : nsIn K mainGlobals "isinstance" = some none
 z_len : nsIn K mainGlobals "len" = some none
 z_min : nsIn K mainGlobals "min" = some none
 z_range : nsIn K mainGlobals "range" = some none
 z_set : nsIn K mainGlobals "set" = some none
 z_sorted : nsIn K mainGlobals "sorted" = some none
 z_str : nsIn K mainGlobals "str" = some none
 z_sum : nsIn K mainGlobals "sum" = some none
 z_tuple : nsIn K mainGlobals "tuple" = some none
 z_zip : nsIn K mainGlobals "zip" = some none
theorem Yfz {K : Frag} {mg : SOV} (T : Top K mg) (S : Seen K) : Own K mg where
 z_dict := T.none S.z_dict
 z_int := T.none S.z_int
 z_isinstance := T.none S.z_isinstance
 z_len := T.none S.z_len
 z_min := T.none S.z_min
 z_range := T.none S.z_range
 z_set := T.none S.z_set
 z_sorted := T.none S.z_sorted
 z_str := T.none S.z_str
 z_sum := T.none S.z_sum
 z_tuple := T.none S.z_tuple
 z_zip := T.none S.z_zip
theorem Yj6 {P' : Program} {w : World} {K : Frag} {mg : SOV} (T : Top K mg) (S : Seen K) (f : Addr) (fd : FuncData) (F : Fun K "law" "law" (top 26) f fd) (base : Heap) : FM P' w K mg base 5 f fd ["_law_script"] Ycf := by
 have O := Yfz T S
 have F_is_sign : Fn P' w K mg base "is_sign" 1 ["letter"] Zs := YcH T O S.d_is_sign
 have F_is_unknown : Fn P' w K mg base "is_unknown" 1 ["letter"] YR := Yav T O S.d_is_unknown
 have F_letters_of : Fn P' w K mg base "letters_of" 1 ["system"] YT := Yaz T O S.d_letters_of
 have F_rising : Fn P' w K mg base "rising" 1 ["letters"] Ww := YeT T O S.d_rising
 have F_head_of : Fn P' w K mg base "head_of" 1 ["heads", "spot"] YO := Yde T O S.d_head_of
 have F__law_cell_at : Fn P' w K mg base "_law_cell_at" 1 ["_law_script", "_law_k"] Yk := Ji T O S.d__law_cell_at
 have F__law_mixed : Fn P' w K mg base "_law_mixed" 1 ["_law_cell", "_law_many"] YQ := YaA T O S.d__law_mixed
 have F__law_names : Fn P' w K mg base "_law_names" 1 ["_law_cell", "_law_many"] YU := YaC T O S.d__law_names
 have F__law_two : Fn P' w K mg base "_law_two" 1 ["_law_cell"] Zh := Ycz T O S.d__law_two
 have F__law_side : Fn P' w K mg base "_law_side" 1 ["_law_numbers", "_law_names_here", "_law_counts", "_law_two_here"] YL := YbC T O S.d__law_side
 have F__law_mirrored : Fn P' w K mg base "_law_mirrored" 1 ["_law_left", "_law_counts", "_law_two_here"] Yw := VG T O S.d__law_mirrored
 have F__law_filled : Fn P' w K mg base "_law_filled" 1 ["_law_side_here", "_law_words"] Yz := Yag T O S.d__law_filled
 have F__law_cut : Fn P' w K mg base "_law_cut" 1 ["_law_text", "_law_names_here", "_law_lengths"] YC := Ych T O S.d__law_cut
 have F__law_texts : Fn P' w K mg base "_law_texts" 1 ["_law_two_here", "_law_many"] YS := YaB T O S.d__law_texts
 have F__law_one_sign : Fn P' w K mg base "_law_one_sign" 1 ["_law_found", "_law_sign"] Yq := Vw T O S.d__law_one_sign
 have F_names_of : Fn P' w K mg base "names_of" 2 ["system"] YJ := Yb5 T O S.d_names_of F_is_unknown F_letters_of F_rising
 have F_laid : Fn P' w K mg base "laid" 2 ["side", "length_of"] Wv := YiF T O S.d_laid F_is_sign
 have F_tie : Fn P' w K mg base "tie" 2 ["heads", "one", "other"] V6 := Yko T O S.d_tie F_head_of
 have F_shown : Fn P' w K mg base "shown" 2 ["heads", "numbers", "spot"] ZB := Yfp T O S.d_shown F_head_of
 have F__law_system : Fn P' w K mg base "_law_system" 2 ["_law_script"] YE := JR T O S.d__law_system F__law_cell_at F__law_mirrored F__law_mixed F__law_names F__law_side F__law_two
 have F__law_alike : Fn P' w K mg base "_law_alike" 2 ["_law_system_here", "_law_words"] Yt := Yay T O S.d__law_alike F__law_filled
 have F_tie_sides : Fn P' w K mg base "tie_sides" 3 ["heads", "one", "other"] YB := Ybm T O S.d_tie_sides F_tie
 have F_tied : Fn P' w K mg base "tied" 4 ["system", "lengths"] Wr := Yiy T O S.d_tied F_laid F_names_of F_shown F_tie_sides
 exact Yj4 T O F__law_alike F__law_cell_at F__law_cut F__law_one_sign F__law_system F__law_texts F_tied f fd F
theorem walk {q : Program} {loose : List Str} {XP : (Str -> Option Value) -> Heap -> Prop} {YP : World -> Heap -> Prop} {d : DefRec} {K : Params -> Frag} (hdf : d.params.defaults = []) (hy : d.name = "law") (hY : ∀ (w : World) (h : Heap), YP w h -> (K w.params).In h) (S : ∀ w : World, Seen (K w.params)) (L : Law 63 Ycf) :
 PySem.W.WalkO q loose XP YP PySem.Challenge.rw_gapwords_k53_ties_and_no_answer.row.toRowW d [] (fun f vs => PySem.call f vs) :=
 Ygd (l := PySem.Challenge.rw_gapwords_k53_ties_and_no_answer) (k := 5) (x := "_law_script") (y := "law") (st := top 26) rfl (by decide) hdf hy ⟨rfl, by decide, by decide⟩ hY (fun _ _ _ _ _ _ s u => .of_eq rfl) (fun w => (S w).d_law) (fun w mg T f fd F base => Yj6 T (S w) f fd F base) L
end G
namespace Mi
open PySem PySem.Spec L2
open PyProof.Rows hiding St
def joinR (x : Str) (ps : List P) (st : Yls) : R P := match YmE ps with
 | some ys => if YmH x ys <= cap then .ok (.str (Txt.join x ys)) st else .bad
 | none => .bad
def Yoz (r : RS) : R P := match r with
 | .nx _ st' => .ok .non st'
 | .rt p st' => .ok p st'
 | _ => .bad
def Yon (r : R P) : R P := match r with
 | .ok p st2 => .ok p st2
 | _ => .bad
section
variable {ρ : Rho} {st : Yls}
@[simp] theorem Yip : Yoz (.nx ρ st) = .ok .non st := rfl
@[simp] theorem Yio {p : P} : Yoz (.rt p st) = .ok p st := rfl
@[simp] theorem YfC {p : P} : Yon (.ok p st) = .ok p st := rfl
@[simp] theorem x_eC {p : P} : eC p ρ st = .ok p st := rfl
@[simp] theorem YfW {i : Nat} : Ylr i ρ st = match ρ[i]? with | some (some p) => .ok p st | _ => .bad := rfl
@[simp] theorem Yf0 {g : G2} {a b : ME} : Ylw g a b ρ st = (a ρ st).bind fun p st1 => (b ρ st1).bind fun q st2 => ofO (g p q st2) := rfl
@[simp] theorem Yfy {m : ME} : Yml m ρ st = (m ρ st).bind fun p st1 => match p with | .bl c => .ok c st1 | _ => .bad := rfl
@[simp] theorem Ye5 {g g' : G2} {a b c : ME} : Yno g g' a b c ρ st = (a ρ st).bind fun p st1 => (b ρ st1).bind fun q st2 => (ofO (g p q st2)).bind fun z st3 => match z with
 | .bl k => if k = true then (c ρ st3).bind fun r st4 => ofO (g' q r st4) else .ok (.bl false) st3
 | _ => .bad := rfl
@[simp] theorem Yh5 {a b : MT} : Yn4 a b ρ st = (a ρ st).bind fun c st1 => if c = true then b ρ st1 else .ok false st1 := rfl
@[simp] theorem Ykt {a b : MT} : YoX a b ρ st = (a ρ st).bind fun c st1 => if c = true then .ok true st1 else b ρ st1 := rfl
@[simp] theorem Ya6 {a : MT} : YmC a ρ st = (a ρ st).bind fun c st1 => .ok (!c) st1 := rfl
@[simp] theorem Yjz {a b : ME} : YoD a b ρ st = (a ρ st).bind fun p st1 => match p with | .bl c => if c = true then b ρ st1 else .ok (.bl false) st1 | _ => .bad := rfl
@[simp] theorem Ylp {a b : ME} : eOr a b ρ st = (a ρ st).bind fun p st1 => match p with | .bl c => if c = true then .ok (.bl true) st1 else b ρ st1 | _ => .bad := rfl
@[simp] theorem Ylo {a : ME} : Yp0 a ρ st = (a ρ st).bind fun p st1 => match p with | .bl c => .ok (.bl (!c)) st1 | _ => .bad := rfl
@[simp] theorem Ylq {c : MT} {a b : ME} : eIf c a b ρ st = (c ρ st).bind fun k st1 => if k = true then a ρ st1 else b ρ st1 := rfl
@[simp] theorem Ybl {m : ME} : Ymq m ρ st = (m ρ st).bind fun p st1 => match YnB p st1 with | some c => .ok c st1 | none => .bad := rfl
@[simp] theorem YdR {b : Bool} : YnB (.bl b) st = some b := rfl
@[simp] theorem YjW {i : Int} : YnB (.int i) st = some (i != 0) := rfl
@[simp] theorem Yj8 : YnB .non st = some false := rfl
@[simp] theorem Yja : YlA ρ st = .ok [] st := rfl
@[simp] theorem Yit {a : ME} {r : MA} : Ylt a r ρ st = (a ρ st).bind fun p st1 => (r ρ st1).bind fun ps st2 => .ok (p :: ps) st2 := rfl
@[simp] theorem Yjh {r : MA} : Yoj r ρ st = (r ρ st).bind fun ps st1 => if ps.length <= cap then .ok (.tup ps) st1 else .bad := rfl
@[simp] theorem Yk0 {r : MA} : lMk r ρ st = (r ρ st).bind fun ps st1 => if ps.length <= cap then .ok ps st1 else .bad := rfl
@[simp] theorem YjM {r : MA} : YmN r ρ st = (r ρ st).bind fun ps st1 => .ok (.ref st1.length) (st1 ++ [.lst ps]) := rfl
@[simp] theorem YhZ {r : MA} : Yor r ρ st = (r ρ st).bind fun ps st1 => .ok (.tup ps) st1 := rfl
@[simp] theorem YfV : YnG ρ st = .ok (.ref st.length) (st ++ [.dct []]) := rfl
@[simp] theorem x_eB {g : GC} {r : MA} : eB g r ρ st = (r ρ st).bind fun ps st1 => ofO (g ps st1) := rfl
@[simp] theorem Yll {a : ME} : YpF a ρ st = (a ρ st).bind fun p st1 => match p with | .int i => .ok (.int (-i)) st1 | _ => .bad := rfl
@[simp] theorem YhW {n : Nat} {mf : MF} {r : MA} : YlI n mf r ρ st = (r ρ st).bind fun ps st1 => if ps.length = n then Yon (mf ps st1) else .bad := by unfold YlI Yon; rfl
@[simp] theorem Ygc {T : String} {a : ME} : YmS T a ρ st = (a ρ st).bind fun p st1 => match tyP p st1 with | some t => .ok (.bl (YnW t T)) st1 | none => .bad := rfl
@[simp] theorem x_eM {ty : P -> Yls -> Bool} {g : GM} {a : ME} {r : MA} : eM ty g a r ρ st = (a ρ st).bind fun p st1 => if ty p st1 = true then (r ρ st1).bind fun ps st2 => ofO (g p ps st2) else .bad := rfl
@[simp] theorem YkV {a : ME} {l h : MO} : eSl a l h ρ st = (a ρ st).bind fun p st1 => (l ρ st1).bind fun l st2 => (h ρ st2).bind fun u st3 => ofO (slP p l u st3) := rfl
@[simp] theorem Yli : Ypq ρ st = .ok none st := rfl
@[simp] theorem Yh8 {a : ME} : Yni a ρ st = (a ρ st).bind fun p st1 => match p with | .int i => .ok (some i) st1 | _ => .bad := rfl
@[simp] theorem Ylf {a : ME} : Yph a ρ st = (a ρ st).bind fun p st1 => match p with | .tup xs => .ok (.tup xs.reverse) st1 | _ => .bad := rfl
@[simp] theorem Ybf : YmL ρ st = .nx ρ st := rfl
@[simp] theorem VN {a b : MS} : YlF a b ρ st = (a ρ st).seq b := rfl
@[simp] theorem Yji {a : ME} : sRet a ρ st = RS.ofE ρ (a ρ st) fun p st1 => .rt p st1 := rfl
@[simp] theorem Ylg : Ypl ρ st = .rt .non st := rfl
@[simp] theorem Yhz {a : ME} : Ym8 a ρ st = RS.ofE ρ (a ρ st) fun _ st1 => .nx ρ st1 := rfl
@[simp] theorem Yi6 {i : Nat} {a : ME} : YlS i a ρ st = RS.ofE ρ (a ρ st) fun p st1 => .nx (ρ.set i (some p)) st1 := rfl
@[simp] theorem YhX {i : Nat} {a : MA} : YnP i a ρ st = RS.ofE ρ (a ρ st) fun ps st1 => .nx (ρ.set i (some (.ref st1.length))) (st1 ++ [.lst ps]) := rfl
@[simp] theorem Js {c : MT} {a b : MS} : sIf c a b ρ st = RS.ofE ρ (c ρ st) fun k st1 => if k = true then a ρ st1 else b ρ st1 := rfl
@[simp] theorem YkP : Yo3 ρ st = .bk ρ st := rfl
@[simp] theorem Ylj : YpA ρ st = .ct ρ st := rfl
@[simp] theorem Yg2 {i : MI} {g : MG} {m : MS} : YmB i g m ρ st = RS.ofE ρ (i ρ st) fun src st1 => Ymg src g m src.n 0 ρ st1 := rfl
@[simp] theorem YjG {a : ME} {g : MG} : Yo5 a g ρ st = RS.ofE ρ (a ρ st) fun p st1 => match g p ρ st1 with | some ρ' => .nx ρ' st1 | none => .bad := rfl
@[simp] theorem Ykm {o i e : ME} : Yoi o i e ρ st = RS.ofE ρ (e ρ st) fun v st1 => RS.ofE ρ (o ρ st1) fun o st2 => RS.ofE ρ (i ρ st2) fun i st3 => match YnN o i v st3 with | some st4 => .nx ρ st4 | none => .bad := rfl
@[simp] theorem Yf4 {i : Nat} {p : P} : Ylv i p ρ st = some (ρ.set i (some p)) := rfl
@[simp] theorem Yii : Ymo [] ρ st = some ρ := rfl
@[simp] theorem YgQ {g : MG} {r : MGs} {p : P} {ps : List P} : YlP g r (p :: ps) ρ st = (g p ρ st).bind fun ρ1 => r ps ρ1 st := rfl
@[simp] theorem YhK {n : Nat} {r : MGs} {p : P} : Ymb n r p ρ st = match Yl6 p st with | some xs => if xs.length = n then r xs ρ st else none | none => none := rfl
@[simp] theorem Ycs {xs : List P} : Yl6 (.tup xs) st = some xs := rfl
@[simp] theorem Ykq {a : ME} : YmI a ρ st = (a ρ st).bind fun p st1 => match srcOf p st1 with | some s => .ok s st1 | none => .bad := rfl
@[simp] theorem YbV {xs : List P} : srcOf (.tup xs) st = some (Ynd xs) := rfl
@[simp] theorem YiK {z : Str} : srcOf (.str z) st = some (Ynt z) := rfl
def YnF (ps : List P) (st : Yls) : R Src := match ps with
 | [.int j] => if small62 j = true then .ok (YmG 0 j.toNat) st else .bad
 | [.int i, .int j] => if small62 i = true /\ small62 j = true then .ok (YmG i (j - i).toNat) st else .bad
 | _ => .bad
theorem YeP {r : MA} : Ymv r ρ st = (r ρ st).bind fun ps st1 => YnF ps st1 := rfl
@[simp] theorem Ygk {r : MA} : Ymv r ρ st = (r ρ st).bind fun ps st1 => YnF ps st1 := by rw [YeP]
theorem Ygj {i : Int} (h0 : -1000000000 <= i) (h1 : i <= 1000000000) : small62 i = true := by
 unfold small62
 rw [ZAh (by omega), ZAh (by omega)]
 rfl
theorem Yae {j : Int} (h0 : -1000000000 <= j) (h1 : j <= 1000000000) : YnF [.int j] st = .ok (YmG 0 j.toNat) st := by
 unfold YnF
 show 127
 rw [ZAG (Ygj h0 h1)]
@[simp] theorem YhY {i : MI} {n : Nat} {fr : List Nat} {g : MG} {nt : MT} {me : ME} : Yme i n fr g nt me ρ st = (i ρ st).bind fun src st1 => YlX src g nt me (rho0 n fr ρ) src.n 0 st1 [] := rfl
@[simp] theorem Ylh : Ymd ρ st = .ok true st := rfl
@[simp] theorem YgV {o : ME} {r : MA} : Ym1 o r ρ st = (o ρ st).bind fun p st1 => match p with
 | .str x => (r ρ st1).bind fun ps st2 => joinR x ps st2
 | _ => .bad := rfl
@[simp] theorem YiN {n : Nat} {m : MS} {ps : List P} : fnM n m ps st = Yoz (m (ps.map some ++ List.replicate (n - ps.length) none) st) := by unfold fnM Yoz; rfl
@[simp] theorem Yi0 {n : Nat} {fr : List Nat} : rho0 n fr ρ = List.replicate n none ++ fr.map fun k => (ρ[k]?).join := rfl
@[simp] theorem YdM {i j : Int} : Yl2 (.int i) (.int j) st = some (.int (i + j), st) := rfl
@[simp] theorem YeH {i j : Int} : YoH (.int i) (.int j) st = some (.int (i - j), st) := rfl
@[simp] theorem Ygr {i j : Int} : ltP (.int i) (.int j) st = some (.bl (decide (i < j)), st) := rfl
@[simp] theorem YkQ {i j : Int} : leP (.int i) (.int j) st = some (.bl (decide (i <= j)), st) := rfl
@[simp] theorem YgB {i j : Int} : gtP (.int i) (.int j) st = some (.bl (decide (j < i)), st) := rfl
@[simp] theorem Yk5 {i j : Int} : geP (.int i) (.int j) st = some (.bl (decide (j <= i)), st) := rfl
@[simp] theorem YkH {x y : Str} : ltP (.str x) (.str y) st = some (.bl (Ynh x y), st) := rfl
@[simp] theorem YfZ {x y : Str} : leP (.str x) (.str y) st = some (.bl (!Ynh y x), st) := rfl
theorem YkU {i j : Int} (h : 0 < j) : Ymx (.int i) (.int j) st = some (.int (i % j), st) := by simp [Ymx, h, okP]
theorem Yj5 {i j : Int} (h : 0 < j) (h2 : j < 1073741824) : Ym4 (.int i) (.int j) st = some (.int (i / j), st) := by simp [Ym4, h, h2, okP]
theorem Ylb {i j : Int} (h : -(2 ^ 64) < j) (h2 : j < 2 ^ 64) : Yo0 (.int i) (.int j) st = some (.int (i * j), st) := by
 have : small64 j = true := by unfold small64; rw [decide_eq_true h, decide_eq_true h2]; rfl
 simp [Yo0, this, okP]
theorem Yey {x y : Str} (h : x.length + y.length <= 1000000) : Yl2 (.str x) (.str y) st = some (.str (x ++ y), st) := by
 have : x.length + y.length <= cap := h
 simp [Yl2, this, okP]
theorem Yel {x : Str} (h : x.length <= 1000000) : YmA [.str x] st = some (.int x.length, st) := by
 have : x.length <= cap := h
 simp [YmA, this, okP]
@[simp] theorem YdY {xs : List P} : YmA [.tup xs] st = some (.int xs.length, st) := rfl
theorem VE {k : Nat} {xs : List P} (h : st[k]? = some (.lst xs)) : YmA [.ref k] st = some (.int xs.length, st) := by simp [YmA, h, okP]
theorem YbO {k : Nat} {xs : List P} (h : st[k]? = some (.ro xs)) : YmA [.ref k] st = some (.int xs.length, st) := by simp [YmA, h, okP]
end
theorem Jp {src : Src} {g : MG} {m : MS} (N : Nat) (I : Nat -> Rho -> Yls -> Prop) (O : RS -> Prop)
 (step : ∀ i ρ st, i < N -> I i ρ st -> ∃ p ρ1, src.nx i st = some (some p) /\ g p ρ st = some ρ1 /\ match m ρ1 st with
  | .nx ρ' st' => I (i + 1) ρ' st'
  | .ct ρ' st' => I (i + 1) ρ' st'
  | .bk ρ' st' => O (.nx ρ' st')
  | r => O r)
 (stop : ∀ ρ st, I N ρ st -> src.nx N st = some none /\ O (.nx ρ st)) :
 ∀ (n i : Nat) ρ st, n + i = N -> I i ρ st -> O (Ymg src g m n i ρ st) := by
 intro n
 induction n with
 | zero =>
  intro i ρ st e h
  have e' : i = N := by omega
  subst e'
  obtain ⟨h1, h2⟩ := stop ρ st h
  simp only [Ymg, h1]
  exact h2
 | succ n ih =>
  intro i ρ st e h
  obtain ⟨p, ρ1, h1, h2, h3⟩ := step i ρ st (by omega) h
  simp only [Ymg, h1, h2]
  revert h3
  cases q : m ρ1 st with
  | nx ρ' st' => intro h3; exact ih (i + 1) ρ' st' (by omega) h3
  | ct ρ' st' => intro h3; exact ih (i + 1) ρ' st' (by omega) h3
  | bk ρ' st' => intro h3; exact h3
  | rt p st' => intro h3; exact h3
  | exc k ρ' st' => intro h3; exact h3
  | bad => intro h3; exact h3
theorem Yg1 {src : Src} {g : MG} {m : MS} {N : Nat} (I : Nat -> Rho -> Yls -> Prop) {ρ : Rho} {st : Yls} (h0 : I 0 ρ st)
 (step : ∀ i ρ st, i < N -> I i ρ st -> ∃ p ρ1, src.nx i st = some (some p) /\ g p ρ st = some ρ1 /\ ∃ ρ' st', m ρ1 st = .nx ρ' st' /\ I (i + 1) ρ' st')
 (stop : ∀ ρ st, I N ρ st -> src.nx N st = some none) : ∃ ρ' st', Ymg src g m N 0 ρ st = .nx ρ' st' /\ I N ρ' st' := by
 have := Jp (src := src) (g := g) (m := m) N I (fun r => ∃ ρ' st', r = .nx ρ' st' /\ I N ρ' st') (fun i ρ st hi h => by
  obtain ⟨p, ρ1, h1, h2, ρ', st', h3, h4⟩ := step i ρ st hi h
  refine ⟨p, ρ1, h1, h2, ?_⟩
  rw [h3]
  exact h4) (fun ρ st h => ⟨stop ρ st h, ρ, st, rfl, h⟩) N 0 ρ st (by omega) h0
 exact this
theorem WC {src : Src} {g : MG} {nt : MT} {me : ME} {ρ0 : Rho} {N : Nat} (I : Nat -> Yls -> List P -> Prop) {st : Yls} (h0 : I 0 st [])
 (step : ∀ i st acc, i < N -> I i st acc -> ∃ p ρ1, src.nx i st = some (some p) /\ g p ρ0 st = some ρ1 /\
  ((∃ st1, nt ρ1 st = .ok false st1 /\ I (i + 1) st1 acc) \/ ∃ st1 q st2, nt ρ1 st = .ok true st1 /\ me ρ1 st1 = .ok q st2 /\ acc.length < cap /\ I (i + 1) st2 (acc ++ [q])))
 (stop : ∀ st acc, I N st acc -> src.nx N st = some none) : ∃ acc st', YlX src g nt me ρ0 N 0 st [] = .ok acc st' /\ I N st' acc := by
 have key : ∀ (n i : Nat) st acc, n + i = N -> I i st acc -> ∃ acc' st', YlX src g nt me ρ0 n i st acc = .ok acc' st' /\ I N st' acc' := by
  intro n
  induction n with
  | zero =>
   intro i st acc e h
   have e' : i = N := by omega
   subst e'
   exact ⟨acc, st, by simp only [YlX, stop st acc h], h⟩
  | succ n ih =>
   intro i st acc e h
   obtain ⟨p, ρ1, h1, h2, h3⟩ := step i st acc (by omega) h
   rcases h3 with ⟨st1, h3, h4⟩ | ⟨st1, q, st2, h3, h4, h5, h6⟩
   ·obtain ⟨acc', st', e1, e2⟩ := ih (i + 1) st1 acc (by omega) h4
    exact ⟨acc', st', by simp only [YlX, h1, h2, h3, e1], e2⟩
   ·obtain ⟨acc', st', e1, e2⟩ := ih (i + 1) st2 (acc ++ [q]) (by omega) h6
    exact ⟨acc', st', by simp only [YlX, h1, h2, h3, h4, if_pos h5, e1], e2⟩
 exact key N 0 st [] (by omega) h0
@[simp] theorem Ydy {xs : List P} {i : Nat} {st : Yls} : (Ynd xs).nx i st = some xs[i]? := rfl
@[simp] theorem Yks {xs : List P} : (Ynd xs).n = xs.length := rfl
@[simp] theorem YkB {z : Str} : (Ynt z).n = z.cps.size := rfl
theorem YhR {z : Str} {i : Nat} {st : Yls} (h : i <= z.cps.size) : (Ynt z).nx i st = some ((z.cps[i]?).map YnT) := by
 unfold Ynt
 show 127
 by_cases hi : i < z.cps.size
 ·rw [ZAG hi]
 ·have : i = z.cps.size := by omega
  subst this
  simp
@[simp] theorem Yjk {lo : Int} {n : Nat} : (YmG lo n).n = n := rfl
@[simp] theorem Jo {lo : Int} {n i : Nat} {st : Yls} : (YmG lo n).nx i st = some (if i < n then some (.int (lo + i)) else none) := rfl
@[simp] theorem YjE {k n : Nat} : (YmU k n).n = n := rfl
theorem YhO {k n i : Nat} {st : Yls} {ys : List P} (h : listAt st k = some ys) : (YmU k n).nx i st = some ys[i]? := by
 unfold YmU
 unfold listAt at h
 show 127
 split at h <;> first | (cases h; rename_i e; simp only [e]) | cases h
def sT (l : List Nat) : Str := ⟨l.toArray⟩
def tx (l : List Nat) : P := .str (sT l)
@[simp] theorem VP {l : List Nat} : (sT l).length = l.length := by simp [sT, Str.length]
@[simp] theorem YcY {l : List Nat} : (sT l).cps.toList = l := rfl
@[simp] theorem YhT {l : List Nat} : (sT l).cps.size = l.length := by simp [sT]
@[simp] theorem Yjq {l : List Nat} {i : Nat} : (sT l).cps[i]? = l[i]? := by simp [sT]
theorem YcQ {a b : List Nat} : sT a ++ sT b = sT (a ++ b) := by
 show (⟨a.toArray ++ b.toArray⟩ : Str) = _
 simp [sT]
theorem sT_inj {a b : List Nat} : sT a = sT b ↔ a = b := by
 constructor
 ·intro h
  have := ZBK (fun s : Str => s.cps.toList) h
  exact this
 ·rintro rfl; rfl
@[simp] theorem Yge {a b : List Nat} {st : Yls} (h : a.length + b.length <= 1000000) : Yl2 (tx a) (tx b) st = some (tx (a ++ b), st) := by
 unfold tx
 rw [Yey (by simpa using h), YcQ]
theorem Ygf {a : List Nat} {st : Yls} (h : a.length <= 1000000) : YmA [tx a] st = some (.int a.length, st) := by
 unfold tx
 rw [Yel (by simpa using h)]
 simp
theorem Ygy {n : Nat} {i : Int} (h0 : 0 <= i) (h1 : i < n) : ixN n i = some i.toNat := by unfold ixN; rw [if_pos h0, if_pos h1]
theorem YbD {α : Type} {xs : List α} {i : Int} (h0 : 0 <= i) (h1 : i < xs.length) : atI xs i = xs[i.toNat]? := by unfold atI; rw [Ygy h0 h1]; rfl
theorem Vs {l : List Nat} {i : Int} {st : Yls} (h0 : 0 <= i) (h1 : i < l.length) (hc : l.length <= 1000000) : ∃ c, l[i.toNat]? = some c /\ ixP (tx l) (.int i) st = some (tx [c], st) := by
 have hi : i.toNat < l.length := by omega
 refine ⟨l[i.toNat], by simp [hi], ?_⟩
 have e : (sT l).length <= cap := by rw [VP]; exact hc
 show (if (sT l).length <= cap then (atI (sT l).cps.toList i).map fun c => (P.str ⟨#[c]⟩, st) else none) = _
 rw [ZAG e, YcY, YbD h0 h1, ZAO hi]
 rfl
theorem YkF {xs : List P} {i : Int} {st : Yls} {p : P} (h0 : 0 <= i) (h : xs[i.toNat]? = some p) : ixP (.tup xs) (.int i) st = some (p, st) := by
 have hi : i.toNat < xs.length := (ZAD.mp h).1
 show (atI xs i).map (fun p => (p, st)) = _
 rw [YbD h0 (by omega), h]
 rfl
theorem W6 {k : Nat} {xs : List P} {i : Int} {st : Yls} {p : P} (hk : st[k]? = some (.lst xs)) (h0 : 0 <= i) (h : xs[i.toNat]? = some p) : ixP (.ref k) (.int i) st = some (p, st) := by
 have hi : i.toNat < xs.length := (ZAD.mp h).1
 unfold ixP
 simp only [hk]
 show (atI xs i).map (fun p => (p, st)) = _
 rw [YbD h0 (by omega), h]
 rfl
theorem YdC {k : Nat} {xs : List P} {i : Int} {st : Yls} {p : P} (hk : st[k]? = some (.ro xs)) (h0 : 0 <= i) (h : xs[i.toNat]? = some p) : ixP (.ref k) (.int i) st = some (p, st) := by
 have hi : i.toNat < xs.length := (ZAD.mp h).1
 unfold ixP
 simp only [hk]
 show (atI xs i).map (fun p => (p, st)) = _
 rw [YbD h0 (by omega), h]
 rfl
@[simp] theorem Yf3 {i j : Int} {st : Yls} : eqP (.int i) (.int j) st = some (.bl (i == j), st) := rfl
@[simp] theorem Yk1 {x y : Str} {st : Yls} : eqP (.str x) (.str y) st = some (.bl (x == y), st) := rfl
@[simp] theorem Yk3 {st : Yls} : eqP .non .non st = some (.bl true, st) := rfl
@[simp] theorem Yga {i j : Int} {st : Yls} : neP (.int i) (.int j) st = some (.bl (!(i == j)), st) := rfl
@[simp] theorem YbJ {x y : Str} {st : Yls} : neP (.str x) (.str y) st = some (.bl (!(x == y)), st) := rfl
theorem Ykk {a b : List Nat} : (sT a == sT b) = decide (a = b) := by
 rw [Bool.eq_iff_iff]
 simp [sT_inj]
def YlE (c : Nat) : Bool := decide (97 <= c) && decide (c <= 122)
def isUp (c : Nat) : Bool := decide (65 <= c) && decide (c <= 90)
def Yoa (c : Nat) : Bool := YlE c || isUp c
theorem ZO {c : Nat} : YlE c = true ↔ 97 <= c /\ c <= 122 := by unfold YlE; simp
theorem Wu {c : Nat} : isUp c = true ↔ 65 <= c /\ c <= 90 := by unfold isUp; simp
theorem Yeu : ∀ c, c < 128 -> Unicode.isUpper c = isUp c := by decide +kernel
theorem YeS : ∀ c, c < 128 -> Unicode.isLower c = YlE c := by decide +kernel
theorem Yep : ∀ c, c < 128 -> Unicode.isTitle c = false := by decide +kernel
theorem Yb1 {c : Nat} (h : c < 128) : Txt.isupper (sT [c]) = isUp c := by
 unfold Txt.isupper
 have : (sT [c]).cps = #[c] := rfl
 show 143
 simp only [List.any_toArray, List.any_cons, List.any_nil, Bool.or_false, Yeu c h, YeS c h, Yep c h]
 cases q : isUp c with
 | false => rfl
 | true =>
  have : YlE c = false := by
   rw [Wu] at q
   rw [ZCB, Ne, ZO]
   omega
  rw [this]; rfl
theorem WA {c : Nat} {st : Yls} (h : c < 128) : Ym6 (tx [c]) [] st = some (.bl (isUp c), st) := by
 show okP (.bl (Txt.isupper (sT [c]))) st = _
 rw [Yb1 h]
 rfl
@[simp] theorem Yhs {l : List Nat} {st : Yls} : isStr (tx l) st = true := rfl
theorem Zy {c : Nat} (h : YlE c = true) : isUp c = false := by
 rw [ZO] at h
 rw [ZCB, Ne, Wu]
 omega
theorem VO {a b : Nat} : Ynh (sT [a]) (sT [b]) = decide (a < b) := by
 unfold Ynh
 show decide ([a] < [b]) = decide (a < b)
 rw [Bool.eq_iff_iff, ZB5, ZB5, List.cons_lt_cons_iff]
 constructor
 ·rintro (h | ⟨_, h⟩)
  ·exact h
  ·exact absurd h (List.not_lt_nil _)
 ·exact .inl
theorem V4 (ls : List (List Nat)) : Txt.join (sT []) (ls.map sT) = sT ls.flatten := by
 unfold Txt.join
 rw [StrLaws.glued_eq_join]
 induction ls with
 | nil => rfl
 | cons a r ih =>
  cases r with
  | nil => simp [Str.join]
  | cons b r =>
   show sT a ++ sT [] ++ Str.join (sT []) ((b :: r).map sT) = _
   rw [ih, YcQ, YcQ]
   simp
theorem VW : ∀ (ls : List (List Nat)), YmE (ls.map tx) = some (ls.map sT)
 | [] => rfl
 | a :: r => by
  show (YmE (r.map tx)).map (sT a :: ·) = _
  rw [VW r]
  rfl
theorem Jb (ls : List (List Nat)) : YmH (sT []) (ls.map sT) = ls.flatten.length := by
 unfold YmH
 simp only [VP, List.length_nil, Nat.mul_zero, Nat.add_zero, List.map_map, List.length_flatten]
 rfl
def Yly (st st' : Yls) : Prop := ∃ e, st' = st ++ e
theorem Yly.refl {st : Yls} : Yly st st := ⟨[], by simp⟩
theorem Yly.trans {a b c : Yls} (h : Yly a b) (h2 : Yly b c) : Yly a c := by
 obtain ⟨e, rfl⟩ := h
 obtain ⟨f, rfl⟩ := h2
 exact ⟨e ++ f, by simp⟩
theorem Yly.one {st : Yls} {o : O} : Yly st (st ++ [o]) := ⟨_, rfl⟩
theorem Yly.get {a b : Yls} (h : Yly a b) {k : Nat} {o : O} (e : a[k]? = some o) : b[k]? = some o := by
 obtain ⟨f, rfl⟩ := h
 rw [ZA0 (ZAD.mp e).1]
 exact e
theorem Yly.len {a b : Yls} (h : Yly a b) : a.length <= b.length := by
 obtain ⟨f, rfl⟩ := h
 simp
theorem Yly.set {a b : Yls} (h : Yly a b) {k : Nat} {o : O} (hk : a.length <= k) : Yly a (b.set k o) := by
 obtain ⟨f, rfl⟩ := h
 exact ⟨f.set (k - a.length) o, by rw [ZCX _ _ hk]⟩
theorem Yly.listAt {a b : Yls} (h : Yly a b) {k : Nat} {xs : List P} (e : listAt a k = some xs) : listAt b k = some xs := by
 unfold Mi.listAt at *
 cases q : a[k]? with
 | none => show 193
 | some o => rw [q] at e; rw [h.get q]; exact e
theorem Yo {st : Yls} {o : O} : (st ++ [o])[st.length]? = some o := by simp
def tkey (l : List Nat) : Key := .inr (sT l)
theorem Ydx {l : List Nat} : Ymr (tx l) = some (tkey l) := rfl
theorem JF {α β : Type} {f : α -> β} {R : α -> Prop} : ∀ {l : List β}, (∀ q ∈ l, ∃ c, q = f c /\ R c) -> ∃ ls : List α, l = ls.map f /\ ∀ c ∈ ls, R c
 | [], _ => ⟨[], rfl, by intro c hc; cases hc⟩
 | q :: r, h => by
  obtain ⟨c, e, hc⟩ := h q (ZAQ ..)
  obtain ⟨ls, e2, h2⟩ := JF (l := r) fun x hx => h x (ZAT _ hx)
  refine ⟨c :: ls, by rw [e, e2]; rfl, fun d hd => ?_⟩
  rcases ZAZ.mp hd with rfl | hd
  ·exact hc
  ·exact h2 d hd
theorem Vi (ls : List Nat) : (ls.map fun c => [c]).flatten = ls := by induction ls <;> simp_all
theorem Yab (ls : List Nat) : YmE (ls.map fun c => tx [c]) = some ((ls.map fun c => [c]).map sT) := by
 have := VW (ls.map fun c => [c])
 rw [ZAq] at this
 exact this
theorem ZM : ("" : Str) = sT [] := by decide +kernel
theorem Wy {ls : List (List Nat)} {st : Yls} (h : ls.flatten.length <= 1000000) : joinR (sT []) (ls.map tx) st = .ok (tx ls.flatten) st := by
 unfold joinR
 rw [VW]
 show 127
 rw [Jb, ZAG (show _ <= cap from h), V4]
 rfl
theorem JD {ls : List Nat} {st : Yls} (h : ls.length <= 1000000) : joinR (sT []) (ls.map fun c => tx [c]) st = .ok (tx ls) st := by
 unfold joinR
 rw [Yab]
 show 127
 rw [Jb, Vi, ZAG (show _ <= cap from h), V4, Vi]
 rfl
theorem Yjd {n : Nat} : (n <= cap) = (n <= 1000000) := rfl
theorem Ybd {kvs : List (Key × P)} {k k' : Key} {v : P} : ((kvs.map fun kv => if kv.1 = k then (kv.1, v) else kv).find? fun kv => decide (kv.1 = k')).map (·.2) = if k = k' then (if (kvs.any fun kv => decide (kv.1 = k)) = true then some v else none) else (kvs.find? fun kv => decide (kv.1 = k')).map (·.2) := by
 induction kvs with
 | nil => simp
 | cons a r ih =>
  rw [ZAY, ZBe, ZBe, ZBS]
  by_cases h1 : a.1 = k
  ·by_cases h2 : k = k'
   ·subst h2; simp [h1]
   ·have h3 : ¬ a.1 = k' := by rw [h1]; exact h2
    simp only [h1, if_true, h2, decide_false, if_false] at ih ⊢
    rw [ih]
  ·by_cases h2 : a.1 = k'
   ·have h3 : ¬ k = k' := fun e => h1 (h2.trans e.symm)
    rw [ZAF h1, ZAh h2, ZAF h3]
   ·simp only [h1, if_false, h2, decide_false, Bool.false_or]
    exact ih
theorem Jt {kvs : List (Key × P)} {k k' : Key} {v : P} : YlO (Yma kvs k v) k' = if k = k' then some v else YlO kvs k' := by
 unfold Yma YlO
 by_cases h : (kvs.any fun kv => decide (kv.1 = k)) = true
 ·rw [ZAG h, Ybd, ZAG h]
 ·rw [ZAF h, ZCC]
  by_cases h2 : k = k'
  ·subst h2
   have : kvs.find? (fun kv => decide (kv.1 = k)) = none := by
    rw [ZA3]
    intro x hx hd
    exact h (List.any_eq_true.mpr ⟨x, hx, hd⟩)
   rw [this, ZAG rfl]
   simp
  ·rw [ZAF h2]
   simp [h2]
theorem valP_none {kvs : List (Key × P)} {k : Key} : YlO kvs k = none ↔ (kvs.any fun kv => decide (kv.1 = k)) = false := by
 unfold YlO
 rw [ZBN, ZA3, ZBi]
theorem YhA {kvs : List (Key × P)} {k : Key} {v : P} : (Yma kvs k v).length = if YlO kvs k = none then kvs.length + 1 else kvs.length := by
 unfold Yma
 by_cases h : (kvs.any fun kv => decide (kv.1 = k)) = true
 ·rw [ZAG h, ZAF (fun e => by rw [valP_none.mp e] at h; cases h), ZAJ]
 ·rw [ZAF h, ZAG (valP_none.mpr (ZCB.mpr h)), ZAH]; rfl
theorem YiL {st : Yls} {ρ : Rho} {d k x : ME} {n : Nat} {kvs : List (Key × P)} {l : List Nat} {z : P} (h1 : d ρ st = .ok (.ref n) st) (h2 : k ρ st = .ok (tx l) st) (h3 : x ρ st = .ok z st) (h : st[n]? = some (.dct kvs)) : YnY d k x ρ st = .ok ((YlO kvs (tkey l)).getD z) st := by
 unfold YnY
 simp only [h1, h2, h3, R.bind_ok, h, Ydx]
theorem VZ {st : Yls} {n : Nat} {kvs : List (Key × P)} {l : List Nat} {v : P} (h : st[n]? = some (.dct kvs)) (hl : kvs.length < 1000000) : YnN (.ref n) (tx l) v st = some (st.set n (.dct (Yma kvs (tkey l) v))) := by
 unfold YnN
 have : kvs.length < cap := hl
 simp only [h, Ydx, if_pos this]
theorem YeY {st : Yls} {n : Nat} {xs : List P} {i : Int} {v : P} (h : st[n]? = some (.lst xs)) (h0 : 0 <= i) (h1 : i < xs.length) : YnN (.ref n) (.int i) v st = some (st.set n (.lst (xs.set i.toNat v))) := by
 unfold YnN
 simp only [h, Ygy h0 h1]
 rfl
theorem Wo {st : Yls} {n : Nat} {xs : List P} {v : P} (h : st[n]? = some (.lst xs)) (hl : xs.length < 1000000) : Yms (.ref n) [v] st = some (.non, st.set n (.lst (xs ++ [v]))) := by
 unfold Yms YlQ
 have : xs.length < cap := hl
 simp only [h, if_pos this]
theorem WJ {st : Yls} {n : Nat} {xs : List P} (h : st[n]? = some (.lst xs)) : YmW (.ref n) st = true := by
 unfold YmW
 simp only [h]
theorem Zv {st : Yls} {n : Nat} {xs : List P} (h : listAt st n = some xs) : srcOf (.ref n) st = some (YmU n xs.length) := by
 unfold listAt at h
 unfold srcOf
 show 127
 split at h <;> first | (cases h; rename_i e; simp only [e]) | cases h
theorem Ybu {k l n i : Nat} {xs ys : List P} {st : Yls} (h1 : listAt st k = some xs) (h2 : listAt st l = some ys) : (Ynu k l n).nx i st = some (Ymi xs ys i) := by
 unfold Ynu
 simp only [h1, h2]
theorem YiX {k l n : Nat} : (Ynu k l n).n = n := rfl
theorem Yh {st : Yls} {k : Nat} {xs : List P} (h : st[k]? = some (.lst xs)) : listAt st k = some xs := by unfold listAt; rw [h]
theorem YeR {st : Yls} {k : Nat} {xs : List P} (h : listAt st k = some xs) : Yl6 (.ref k) st = some xs := by
 unfold listAt at h
 unfold Yl6
 show 127
 split at h <;> first | (cases h; rename_i e; simp only [e]) | cases h
section
variable {ρ : Rho} {st : Yls}
theorem Yjx {i j : Int} (h : -(2 ^ 64) < j) (h2 : j < 2 ^ 64) : YmY (.int i) (.int j) st = some (.int (i * j), st) := Ylb h h2
theorem Yle {i j : Int} : YoO [.int i, .int j] st = some (.int (if j < i then j else i), st) := rfl
end
open Builtin.Str (occurrences partsBetween strSub strKind subAt)
section
variable {ρ : Rho} {st : Yls}
theorem Wc {k : Nat} {xs : List P} (h : listAt st k = some xs) : Yng [.ref k] st = some (.tup xs, st) := by
 unfold Yng
 show 127
 rw [YeR h]
 rfl
end
section
variable {ρ : Rho} {st : Yls}
end
section
variable {st : Yls}
theorem Yk4 {l : List Nat} : tyP (tx l) st = some "str" := rfl
theorem YjN {i : Int} : tyP (.int i) st = some "int" := rfl
theorem YjH {xs : List P} : tyP (.tup xs) st = some "tuple" := rfl
theorem YjO : YnW "str" "str" = true := rfl
theorem YjL : YnW "tuple" "tuple" = true := rfl
theorem Yjc : YnW "int" "str" = false := rfl
theorem YdH {a b : List Nat} : neP (tx a) (tx b) st = some (.bl (!decide (a = b)), st) := by
 unfold tx; rw [YbJ, Ykk]
def Yl4 : Nat -> P -> Bool
 | _, .non => true
 | _, .int _ => true
 | _, .str _ => true
 | n + 1, .tup xs => xs.all (Yl4 n)
 | _, _ => false
def dat : Nat -> P -> PyData
 | _, .non => .none
 | _, .bl b => .bool b
 | _, .int i => .int i
 | _, .str x => .str x
 | n + 1, .tup xs => .tuple (xs.map (dat n))
 | _, _ => .none
theorem JY {n : Nat} (ih : ∀ p, Yl4 n p = true -> snap n st p = some (dat n p)) : ∀ xs : List P, xs.all (Yl4 n) = true -> xs.mapM (snap n st) = some (xs.map (dat n))
 | [], _ => rfl
 | x :: xs, h => by
  rw [ZBc, ZAi] at h
  rw [List.mapM_cons, ih x h.1, JY ih xs h.2]
  rfl
theorem Vt : ∀ {n : Nat} {p : P}, Yl4 n p = true -> snap n st p = some (dat n p)
 | 0, .non, _ => rfl
 | 0, .int _, _ => rfl
 | 0, .str _, _ => rfl
 | _ + 1, .non, _ => rfl
 | _ + 1, .int _, _ => rfl
 | _ + 1, .str _, _ => rfl
 | n + 1, .tup xs, h => by
  have h' : xs.all (Yl4 n) = true := h
  show (xs.mapM (snap n st)).map PyData.tuple = some (.tuple (xs.map (dat n)))
  rw [JY (fun p hp => Vt (n := n) hp) xs h']
  rfl
theorem ZV {n : Nat} (ih : ∀ p q, Yl4 n p = true -> Yl4 n q = true -> (PyData.eqv (dat n p) (dat n q) = true ↔ p = q)) :
 ∀ xs ys : List P, xs.all (Yl4 n) = true -> ys.all (Yl4 n) = true -> (PyData.eqvAll (xs.map (dat n)) (ys.map (dat n)) = true ↔ xs = ys)
 | [], [], _, _ => by simp [PyData.eqvAll]
 | [], _ :: _, _, _ => by simp [PyData.eqvAll]
 | _ :: _, [], _, _ => by simp [PyData.eqvAll]
 | x :: xs, y :: ys, h1, h2 => by
  rw [ZBc, ZAi] at h1 h2
  rw [ZAY, ZAY, PyData.eqvAll, ZAi, ih x y h1.1 h2.1, ZV ih xs ys h1.2 h2.2, List.cons.injEq]
theorem Ybw : ∀ {n : Nat} {p q : P}, Yl4 n p = true -> Yl4 n q = true -> (PyData.eqv (dat n p) (dat n q) = true ↔ p = q) := by
 intro n
 induction n with
 | zero =>
  intro p q h1 h2
  cases p <;> first | (cases h1; done) | skip
  all_goals (cases q <;> first | (cases h2; done) | simp [dat, PyData.eqv])
 | succ n ih =>
  intro p q h1 h2
  cases p <;> first | (cases h1; done) | skip
  all_goals (cases q <;> first | (cases h2; done) | skip)
  all_goals first
   | (rename_i xs ys
      have h1' : xs.all (Yl4 n) = true := h1
      have h2' : ys.all (Yl4 n) = true := h2
      show PyData.eqv (.tuple (xs.map (dat n))) (.tuple (ys.map (dat n))) = true ↔ _
      rw [PyData.eqv, ZV (fun p q => ih) xs ys h1' h2', P.tup.injEq])
   | simp [dat, PyData.eqv]
theorem YdS {p q : P} (hp : Yl4 8 p = true) (hq : Yl4 8 q = true) : ∃ b, eqP p q st = some (.bl b, st) /\ (b = true ↔ p = q) := by
 refine ⟨PyData.eqv (dat 8 p) (dat 8 q), ?_, Ybw hp hq⟩
 unfold eqP eqB deep
 rw [Vt hp, Vt hq]
 rfl
end
section
variable {st : Yls}
end
section
variable {α : Type} {src : Src} {g : MG} {nt : MT} {me : ME} {m : MS} {ρ0 ρ : Rho} {st : Yls} {N : Nat}
theorem JX (xs : List α) (enc : α -> P) (t : α -> Bool) (f : α -> P) (hn : N = xs.length) (hx : ∀ i, i <= xs.length -> src.nx i st = some (xs[i]?.map enc)) (hc : xs.length <= 1000000)
 (h : ∀ a ∈ xs, ∃ ρ1, g (enc a) ρ0 st = some ρ1 /\ nt ρ1 st = .ok (t a) st /\ (t a = true -> me ρ1 st = .ok (f a) st)) : YlX src g nt me ρ0 N 0 st [] = .ok ((xs.filter t).map f) st := by
 obtain ⟨acc, st', e, h1, h2, _⟩ := WC (src := src) (g := g) (nt := nt) (me := me) (ρ0 := ρ0) (N := xs.length) (fun i s acc => s = st /\ acc = ((xs.take i).filter t).map f /\ acc.length <= i) (st := st) ⟨rfl, by simp, by simp⟩ (fun i s acc hi ⟨e1, e2, e3⟩ => by
  subst e1
  obtain ⟨ρ1, g1, g2, g3⟩ := h xs[i] (ZAu hi)
  refine ⟨enc xs[i], ρ1, by rw [hx i (by omega), ZAO hi]; rfl, g1, ?_⟩
  have et : xs.take (i + 1) = xs.take i ++ [xs[i]] := by rw [ZAv, ZAO hi]; rfl
  cases q : t xs[i] with
  | false => exact .inl ⟨s, by rw [g2, q], rfl, by rw [et, List.filter_append, e2, List.filter_cons_of_neg (by rw [q]; exact ZAN), List.filter_nil, ZBd], by omega⟩
  | true => exact .inr ⟨s, f xs[i], s, by rw [g2, q], g3 q, by show _ < 1000000; omega, rfl, by rw [et, List.filter_append, e2, List.filter_cons_of_pos q, List.filter_nil, ZAS, ZAY, ZCI], by rw [ZAH, ZAV]; omega⟩)
  (fun s acc ⟨e1, _⟩ => by subst e1; rw [hx _ (ZAI _), ZAr (ZAI _)]; rfl)
 rw [hn, e, h1, h2, ZAs]
theorem ZP (xs : List α) (enc : α -> P) (f : α -> P) (hn : N = xs.length) (hx : ∀ i, i <= xs.length -> src.nx i st = some (xs[i]?.map enc)) (hc : xs.length <= 1000000)
 (h : ∀ a ∈ xs, ∃ ρ1, g (enc a) ρ0 st = some ρ1 /\ me ρ1 st = .ok (f a) st) : YlX src g Ymd me ρ0 N 0 st [] = .ok (xs.map f) st := by
 rw [JX (nt := Ymd) xs enc (fun _ => true) f hn hx hc fun a ha => let ⟨ρ1, h1, h2⟩ := h a ha; ⟨ρ1, h1, rfl, fun _ => h2⟩]
 rw [List.filter_eq_self.mpr fun _ _ => rfl]
theorem YZ (xs : List α) (enc : α -> P) (I : Nat -> Rho -> Yls -> Prop) (hn : N = xs.length) (hx : ∀ i ρ s, i <= xs.length -> I i ρ s -> src.nx i s = some (xs[i]?.map enc)) (h0 : I 0 ρ st)
 (step : ∀ i (hi : i < xs.length) ρ s, I i ρ s -> ∃ ρ1, g (enc xs[i]) ρ s = some ρ1 /\ ∃ ρ' s', m ρ1 s = .nx ρ' s' /\ I (i + 1) ρ' s') : ∃ ρ' s', Ymg src g m N 0 ρ st = .nx ρ' s' /\ I xs.length ρ' s' := by
 rw [hn]
 refine Yg1 I h0 (fun i ρ s hi h => ?_) (fun ρ s h => by rw [hx _ ρ s (ZAI _) h, ZAr (ZAI _)]; rfl)
 obtain ⟨ρ1, g1, r⟩ := step i hi ρ s h
 exact ⟨enc xs[i], ρ1, by rw [hx i ρ s (by omega) h, ZAO hi]; rfl, g1, r⟩
end
section
variable {α : Type} {st : Yls} {i : Nat}
theorem nxS {l : List Nat} (hi : i <= l.length) : (Ynt (sT l)).nx i st = some (l[i]?.map fun c => tx [c]) := by
 rw [YhR (by simpa using hi), Yjq]
 rfl
theorem nxL {xs : List α} {enc : α -> P} : (Ynd (xs.map enc)).nx i st = some (xs[i]?.map enc) := by
 rw [Ydy, ZAX]
theorem nxR {lo : Int} {n : Nat} : (YmG lo n).nx i st = some ((List.range n)[i]?.map fun (k : Nat) => P.int (lo + k)) := by
 rw [Jo]
 by_cases h : i < n
 ·rw [ZAG h, List.getElem?_range h]; rfl
 ·rw [if_neg h, List.getElem?_eq_none (by simpa using h)]; rfl
theorem nxK {k n : Nat} {xs : List α} {enc : α -> P} (h : listAt st k = some (xs.map enc)) : (YmU k n).nx i st = some (xs[i]?.map enc) := by
 rw [YhO h, ZAX]
theorem YcX {l : List Nat} : srcOf (tx l) st = some (Ynt (sT l)) := rfl
end
theorem Ydh {α : Type} {xs : List α} {t : α -> Bool} {i : Nat} (hi : i < xs.length) (h : ∀ b ∈ xs.take i, t b = false) (q : t xs[i] = true) : xs.find? t = some xs[i] := by
 have hd := ZCH hi
 generalize xs[i] = a at *
 have e : xs.find? t = (xs.take i ++ xs.drop i).find? t := by rw [ZBG]
 rw [e, ZCC, ZA3.mpr (fun b hb => by rw [h b hb]; exact ZAN), Option.none_or, hd, List.find?_cons_of_pos q]
section
variable {α : Type} {src : Src} {g : MG} {m : MS} {ρ : Rho} {st : Yls} {N : Nat}
theorem YeZ (xs : List α) (enc : α -> P) (t : α -> Bool) (v : α -> P) (I : Rho -> Yls -> Prop) (J : Yls -> Prop) (hn : N = xs.length) (hx : ∀ i ρ s, i <= xs.length -> I ρ s -> src.nx i s = some (xs[i]?.map enc)) (h0 : I ρ st)
 (step : ∀ j (hj : j < xs.length) ρ s, (∀ b ∈ xs.take j, t b = false) -> I ρ s -> ∃ ρ1, g (enc xs[j]) ρ s = some ρ1 /\ (t xs[j] = true -> ∃ s', m ρ1 s = .rt (v xs[j]) s' /\ J s') /\ (t xs[j] = false -> ∃ ρ' s', m ρ1 s = .nx ρ' s' /\ I ρ' s')) :
 (∃ a s', xs.find? t = some a /\ Ymg src g m N 0 ρ st = .rt (v a) s' /\ J s') \/ (xs.find? t = none /\ ∃ ρ' s', Ymg src g m N 0 ρ st = .nx ρ' s' /\ I ρ' s') := by
 rw [hn]
 refine Jp (src := src) (g := g) (m := m) xs.length (fun i ρ s => I ρ s /\ ∀ b ∈ xs.take i, t b = false)
  (fun r => (∃ a s', xs.find? t = some a /\ r = .rt (v a) s' /\ J s') \/ (xs.find? t = none /\ ∃ ρ' s', r = .nx ρ' s' /\ I ρ' s')) (fun i ρ s hi ⟨h1, h2⟩ => ?_) (fun ρ s ⟨h1, h2⟩ => ?_) xs.length 0 ρ st (by omega) ⟨h0, by simp⟩
 ·obtain ⟨ρ1, g1, g2, g3⟩ := step i hi ρ s h2 h1
  refine ⟨enc xs[i], ρ1, by rw [hx i ρ s (by omega) h1, ZAO hi]; rfl, g1, ?_⟩
  cases q : t xs[i] with
  | true =>
   obtain ⟨s', e1, e2⟩ := g2 q
   rw [e1]
   exact .inl ⟨xs[i], s', Ydh hi h2 q, rfl, e2⟩
  | false =>
   obtain ⟨ρ', s', e1, e2⟩ := g3 q
   rw [e1]
   refine ⟨e2, fun b hb => ?_⟩
   rw [ZAv, ZAO hi, ZAf] at hb
   rcases hb with hb | hb
   ·exact h2 b hb
   ·rw [show b = xs[i] by simpa using hb]; exact q
 ·rw [ZAs] at h2
  exact ⟨by rw [hx _ ρ s (ZAI _) h1, ZAr (ZAI _)]; rfl, .inr ⟨ZA3.mpr fun b hb => by rw [h2 b hb]; exact ZAN, ρ, s, rfl, h1⟩⟩
end
section
variable {α : Type} {st : Yls}
theorem Yg7 : isP .non .non st = some (.bl true, st) := rfl
theorem YgE {k : Nat} {xs : List P} {lo hi : Option Int} (h : st[k]? = some (.lst xs)) (hl : xs.length <= 1000000) : slP (.ref k) lo hi st = some (.ref st.length, st ++ [.lst (Ym2 xs lo hi)]) := by
 unfold slP
 simp only [h]
 unfold YmT
 rw [ZAG]
 show _ <= 1000000
 unfold Ym2
 rw [ZAm, ZBL]
 omega
theorem YdW {k l : Nat} {xs ys : List P} (h1 : st[k]? = some (.lst xs)) (h2 : st[l]? = some (.lst ys)) (hl : xs.length + ys.length <= 1000000) : Yl2 (.ref k) (.ref l) st = some (.ref st.length, st ++ [.lst (xs ++ ys)]) := by
 have e1 : YlQ st k = some xs := by unfold YlQ; rw [h1]
 have e2 : YlQ st l = some ys := by unfold YlQ; rw [h2]
 show (match YlQ st k, YlQ st l with | some xs, some ys => YmT (xs ++ ys) st | _, _ => none) = _
 rw [e1, e2]
 show YmT (xs ++ ys) st = _
 unfold YmT
 rw [ZAG]
 show _ <= 1000000
 rw [ZAH]
 exact hl
end
theorem YjQ (a : Nat) (u : Option Int) (n : Nat) : Builtin.Str.strSliceIndices (some (a : Int)) u 1 n = Builtin.Str.strSliceIndices (some ((min a n : Nat) : Int)) u 1 n := by
 have e : max (0 : Int) (min (if (a : Int) < 0 then (a : Int) + n else a) n) = max 0 (min (if ((min a n : Nat) : Int) < 0 then ((min a n : Nat) : Int) + n else ((min a n : Nat) : Int)) n) := by
  rw [ZAF (by omega), ZAF (by omega)]; omega
 unfold Builtin.Str.strSliceIndices
 simp only [show (1 : Int) > 0 by decide, if_true]
 rw [e]
theorem YjP (l : Option Int) (b : Nat) (n : Nat) : Builtin.Str.strSliceIndices l (some (b : Int)) 1 n = Builtin.Str.strSliceIndices l (some ((min b n : Nat) : Int)) 1 n := by
 have e : max (0 : Int) (min (if (b : Int) < 0 then (b : Int) + n else b) n) = max 0 (min (if ((min b n : Nat) : Int) < 0 then ((min b n : Nat) : Int) + n else ((min b n : Nat) : Int)) n) := by
  rw [ZAF (by omega), ZAF (by omega)]; omega
 unfold Builtin.Str.strSliceIndices
 simp only [show (1 : Int) > 0 by decide, if_true]
 rw [e]
theorem Wj (x : Str) (l u : Option Int) : Txt.slice x l u = StrLaws.sliceText x l u := by
 first | rfl | (unfold Txt.slice StrLaws.sliceText; rfl)
theorem YgC (x : Str) (a : Nat) (u : Option Int) : Txt.slice x (some (a : Int)) u = Txt.slice x (some ((min a x.length : Nat) : Int)) u := by
 rw [Wj, Wj]
 unfold StrLaws.sliceText
 rw [YjQ]
theorem YgP (x : Str) (l : Option Int) (b : Nat) : Txt.slice x l (some (b : Int)) = Txt.slice x l (some ((min b x.length : Nat) : Int)) := by
 rw [Wj, Wj]
 unfold StrLaws.sliceText
 rw [YjP]
theorem YdU (l : List Nat) (a b : Nat) (hab : a <= b) : Txt.slice (sT l) (some (a : Int)) (some (b : Int)) = sT ((l.drop a).take (b - a)) := by
 rw [YgC, YgP, Wj, StrLaws.sliceText_plain (by rw [YcY, VP]; omega), YcY, VP]
 have e : (l.drop ((min a l.length : Nat) : Int).toNat).take (((min b l.length : Nat) : Int) - ((min a l.length : Nat) : Int)).toNat = (l.drop a).take (b - a) := by
  rw [ZA8]
  by_cases h : a <= l.length
  ·rw [Nat.min_eq_left h]
   by_cases h2 : b <= l.length
   ·rw [Nat.min_eq_left h2]; congr 1; omega
   ·rw [ZCL (by omega), ZBf (by rw [ZBL]; omega), ZBf (by rw [ZBL]; omega)]
  ·rw [ZCL (show l.length <= b by omega), ZCL (show l.length <= a by omega), ZCU (ZAI _), ZCU (show l.length <= a by omega), List.take_nil, List.take_nil]
 rw [e]
 rfl
section
variable {st : Yls}
theorem Ygs {l : List Nat} {a b : Nat} (hab : a <= b) (h : l.length <= 1000000) : slP (tx l) (some (a : Int)) (some (b : Int)) st = some (tx ((l.drop a).take (b - a)), st) := by
 show (if (sT l).length <= cap then okP (.str (Txt.slice (sT l) (some (a : Int)) (some (b : Int)))) st else none) = _
 rw [ZAG (by rw [VP]; exact h), YdU _ _ _ hab]
 rfl
end
theorem Ykf {c : Nat} {l : List Nat} {st : Yls} : inP (tx [c]) (tx l) st = some (.bl (decide (c ∈ l)), st) := by
 have := StrLaws.found_one (sT l) c
 show okP (.bl (!(Builtin.Str.occurrences (sT l) (sT [c]) 0 (sT l).length 1).isEmpty)) st = _
 have e : (!(Builtin.Str.occurrences (sT l) (sT [c]) 0 (sT l).length 1).isEmpty) = decide (c ∈ l) := this
 rw [e]
 rfl
end Mi
namespace Mi
open PySem PySem.Spec L2
open PyProof.Rows hiding St
def Yos : RS -> R P
 | .nx _ st => .ok .non st
 | .rt p st => .ok p st
 | .exc x _ st => .exc x st
 | _ => .bad
def YoM (c : Str) (mh : MS) : RS -> RS
 | .exc x ρ st => if x.1 = c then Yn6 (mh ρ st) else .bad
 | r => r
def Ynz (c : Str) (i : Nat) (mh : MS) : RS -> RS
 | .exc x ρ st => if x.1 = c then Yod i (mh (ρ.set i (some (.ref st.length))) (st ++ [.exc c x.2])) else .bad
 | r => r
section
variable {n i : Nat} {m mb mh : MS} {mf : MF} {mr ma : MA} {me : ME} {ps : List P} {ρ : Rho} {st : Yls} {c : Str} {p : P} {fs : List (Str × P)} {x : Xc} {b : Bool}
theorem Yfk : Yos (.nx ρ st) = .ok .non st := rfl
theorem Ygq : Yos (.rt p st) = .ok p st := rfl
theorem YeX : Yos (.exc x ρ st) = .exc x st := rfl
theorem YiH : YoM c mh (.nx ρ st) = .nx ρ st := rfl
theorem YhJ : YoM c mh (.rt p st) = .rt p st := rfl
theorem Ygu : YoM c mh (.exc (c, fs) ρ st) = Yn6 (mh ρ st) := by unfold YoM; simp
theorem YdO : Ynz c i mh (.nx ρ st) = .nx ρ st := rfl
theorem Yes : Ynz c i mh (.rt p st) = .rt p st := rfl
theorem YcV : Ynz c i mh (.exc (c, fs) ρ st) = Yod i (mh (ρ.set i (some (.ref st.length))) (st ++ [.exc c fs])) := by unfold Ynz; simp
theorem YfR : Yn6 (.nx ρ st) = .nx ρ st := rfl
theorem Yfn : Yn6 (.rt p st) = .rt p st := rfl
theorem Yhl : Yod i (.nx ρ st) = .nx (ρ.set i none) st := rfl
theorem YgH : Yod i (.rt p st) = .rt p st := rfl
end
theorem Yfj {a l : List Nat} {st : Yls} : Ynp (tx a) (tx l) st = inP (tx a) (tx l) st := rfl
theorem Ylc {p q : P} {xs : List P} {st : Yls} (h : Yl6 q st = some xs) (hp : Yl5 p = true) (hx : xs.all Yl5 = true) : Ynp p q st = some (.bl (xs.any fun y => eqF y p), st) := by
 unfold Ynp
 rw [h]
 show 127
 rw [ZAG ⟨hp, hx⟩]
 rfl
end Mi
namespace Mi
open PySem PySem.Spec L2
open PyProof.Rows hiding St
theorem Vj {st : Yls} {a : Nat} {xs : List P} (h1 : listAt st a = some xs) (hp : xs.all (Yl4 7) = true) : snap 8 st (.ref a) = some (.list (xs.map (dat 7))) := by
 show (match listAt st a with | some xs => (xs.mapM (snap 7 st)).map PyData.list | none => none) = _
 rw [h1]
 show 127
 rw [JY (fun p hp => Vt hp) xs hp]
 rfl
theorem YkN {st : Yls} {a c : Nat} {xs ys : List P} (h1 : listAt st a = some xs) (h2 : listAt st c = some ys) (hp : xs.all (Yl4 7) = true) (hq : ys.all (Yl4 7) = true) : ∃ b, eqP (.ref a) (.ref c) st = some (.bl b, st) /\ (b = true ↔ xs = ys) := by
 refine ⟨PyData.eqv (.list (xs.map (dat 7))) (.list (ys.map (dat 7))), ?_, ?_⟩
 ·unfold eqP eqB deep
  rw [Vj h1 hp, Vj h2 hq]
  rfl
 ·rw [PyData.eqv]
  exact ZV (fun p q => Ybw) xs ys hp hq
theorem Yk2 {st : Yls} {a c : Nat} {xs ys : List P} (h1 : listAt st a = some xs) (h2 : listAt st c = some ys) (hp : xs.all (Yl4 7) = true) (hq : ys.all (Yl4 7) = true) : ∃ b, neP (.ref a) (.ref c) st = some (.bl (!b), st) /\ (b = true ↔ xs = ys) := by
 refine ⟨PyData.eqv (.list (xs.map (dat 7))) (.list (ys.map (dat 7))), ?_, ?_⟩
 ·unfold neP eqB deep
  rw [Vj h1 hp, Vj h2 hq]
  rfl
 ·rw [PyData.eqv]
  exact ZV (fun p q => Ybw) xs ys hp hq
end Mi
namespace G
open PySem PySem.Spec L2 Mi
open PyProof.Rows hiding St
def YoA (hm : HM) : RS -> RS
 | .exc x ρ st => hm x ρ st
 | r => r
section
variable {ρ : Rho} {st : Yls} {mb mh : MS} {hm r : HM} {c d : Str} {i n : Nat} {ms : List Str} {fs : List (Str × P)} {p : P}
theorem YeV {x : Xc} : YoA hm (.exc x ρ st) = hm x ρ st := rfl
theorem Ygp : YoA hm (.nx ρ st) = .nx ρ st := rfl
theorem YgA : YoA hm (.rt p st) = .rt p st := rfl
end
end G
namespace G
open PySem PySem.Spec L2 Mi
open PyProof.Rows hiding St
open Builtin.Str (occurrences partsBetween strSub strKind subAt)
def cutE : List Nat -> List (List Nat)
 | [] => [[]]
 | c :: r => if c = 61 then [] :: cutE r else match cutE r with
  | p :: ps => (c :: p) :: ps
  | [] => [[c]]
def gs : List (List Nat) -> Option (List (List Nat))
 | [] => some []
 | p :: ps => match cutE p with
  | [e, e2] => if (e.all Yoa && e2.all Yoa) = true then (gs ps).map (fun L => e :: e2 :: L) else none
  | _ => none
def gl (cur : List Nat) : List (List Nat) -> Option (List (List Nat))
 | [] => none
 | p :: ps => match cutE p with
  | [e, e2] => if (e.all Yoa && e2.all Yoa) = true then (gs ps).map (fun L => (cur ++ e) :: e2 :: L) else none
  | _ => none
end G
namespace G
open PySem PySem.Spec L2 Mi
open PyProof.Rows hiding St
set_option hygiene false in
local macro_rules | `(tactic| walk_at "ev") => `(tactic| simp -implicitDefEqProofs (disch := first | omega | decide | (simp only [List.length_append, List.length_cons, List.length_nil, List.length_map]; omega)) only [YeV, Ygp, YgA, Yfk, Ygq, YeX, YiH, YhJ, Ygu, YdO, Yes, YcV, YfR, Yfn, Yhl, YgH, Ykf, Yff, Int.cast_ofNat_Int, Int.reduceBEq, decide_true, decide_false, beq_self_eq_true, Yg7, YhI, YcX, Yk4, YjN, YjH, YjO, YjL, Yjc, YdH, YiX, Yip, Yio, YfC, Yae, YkU, Yj5, Yjx, Yle, Yge, Ygf, x_eC, YfW, Yf0, Yfy, Ye5, Yh5, Ykt, Ya6, Yjz, Ybl, YdR, Yja, Yit, Yjh, Yk0, YjM, YhZ, YfV, x_eB, YhW, Ygc, x_eM, YkV, Yh8, Ybf, VN, Yji, Yhz, Yi6, YhX, Js, Yg2, YjG, Ykm, Yf4, Yii, YgQ, YhK, Ycs, Ykq, YbV, Ygk, YhY, YgV, YiN, Yi0, YdM, YeH, Ygr, YgB, YfZ, YdY, Ydy, Yks, YkB, YhT, Yjk, Jo, YjE, Yf3, Yga, YbJ, Yhs, Mi.R.bind_ok, Mi.R.bind_exc, Mi.R.bind_bad, Mi.RS.ofE_ok, Mi.RS.ofE_exc, Mi.RS.ofE_bad, Mi.RS.seq_nx, Mi.RS.seq_rt, Mi.RS.seq_bk, Mi.RS.seq_ct, Mi.RS.seq_exc, Mi.RS.seq_bad, Yf5, Ygv, List.map_cons, List.map_nil, List.length_cons, List.length_nil, List.cons_append, List.nil_append, List.append_nil, List.replicate_succ, List.replicate_zero, List.getElem?_cons_zero, List.getElem?_cons_succ, List.set_cons_zero, List.set_cons_succ, Nat.reduceSub, Nat.reduceAdd, Nat.reduceLeDiff, Nat.reduceEqDiff, reduceIte, Bool.false_eq_true, Option.join_some, Option.join_none, Option.bind_some, Nat.zero_add, Nat.add_zero, Nat.sub_self, Option.map_some, Option.map_none, List.isEmpty_nil, List.isEmpty_cons, Bool.not_true, Bool.not_false, Nat.zero_le, Yjd, Bool.true_and, Bool.and_true])
inductive Mk where
 | sg (c : Nat) | pl (u k : Nat)
 deriving DecidableEq
def Mk.isS : Mk -> Bool
 | .sg _ => true
 | .pl _ _ => false
abbrev Rp := Mk -> Mk
def Ymu (r : Rp) (a b : Mk) : Option Rp :=
 if r a = r b then some r
 else if (r a).isS = false then some fun x => if r x = r a then r b else r x
 else if (r b).isS = false then some fun x => if r x = r b then r a else r x
 else none
def YlY (r : Rp) : List (Mk × Mk) -> Option Rp
 | [] => some r
 | p :: ps => match Ymu r p.1 p.2 with
  | some r' => YlY r' ps
  | none => none
structure Con (f : Rp) (ps : List (Mk × Mk)) : Prop where
 sg : ∀ c, f (.sg c) = .sg c
 eq : ∀ p ∈ ps, f p.1 = f p.2
def Uni (r : Rp) (ps : List (Mk × Mk)) : Prop := ∀ f, Con f ps -> ∀ x, f (r x) = f x
structure Gd (r : Rp) : Prop where
 sg : ∀ c, r (.sg c) = .sg c
 id : ∀ x, r (r x) = r x
theorem isS_iff {m : Mk} : m.isS = true ↔ ∃ c, m = .sg c := by
 cases m with
 | sg c => exact ⟨fun _ => ⟨c, rfl⟩, fun _ => rfl⟩
 | pl u k => exact ⟨fun h => (by cases h), fun ⟨c, e⟩ => (by cases e)⟩
theorem Ycw {r r' : Rp} {a b : Mk} (g : Gd r) (h : Ymu r a b = some r') :
 Gd r' /\ r' a = r' b /\ (∀ x y, r x = r y -> r' x = r' y) /\ ∀ f : Rp, f a = f b -> (∀ x, f (r x) = f x) -> ∀ x, f (r' x) = f x := by
 unfold Ymu at h
 by_cases h1 : r a = r b
 ·rw [ZAG h1] at h; cases h
  exact ⟨g, h1, fun _ _ e => e, fun f _ e => e⟩
 ·rw [ZAF h1] at h
  by_cases h2 : (r a).isS = false
  ·rw [ZAG h2] at h; cases h
   refine ⟨⟨fun c => ?_, fun x => ?_⟩, ?_, fun x y e => ?_, fun f e1 e2 x => ?_⟩
   ·show (if r (.sg c) = r a then r b else r (.sg c)) = .sg c
    rw [g.sg, ZAF]
    intro z
    rw [<- z] at h2; cases h2
   ·show (if r (if r x = r a then r b else r x) = r a then r b else r (if r x = r a then r b else r x)) = if r x = r a then r b else r x
    by_cases hx : r x = r a
    ·rw [ZAG hx, g.id, ZAF (ZA1 h1)]
    ·rw [ZAF hx, g.id, ZAF hx]
   ·show (if r a = r a then r b else r a) = if r b = r a then r b else r b
    rw [ZAG rfl, ZAF (ZA1 h1)]
   ·show (if r x = r a then r b else r x) = if r y = r a then r b else r y
    rw [e]
   ·show f (if r x = r a then r b else r x) = f x
    by_cases hx : r x = r a
    ·rw [ZAG hx, e2, <- e1, <- e2 a, <- hx, e2]
    ·rw [ZAF hx, e2]
  ·rw [ZAF h2] at h
   by_cases h3 : (r b).isS = false
   ·rw [ZAG h3] at h; cases h
    refine ⟨⟨fun c => ?_, fun x => ?_⟩, ?_, fun x y e => ?_, fun f e1 e2 x => ?_⟩
    ·show (if r (.sg c) = r b then r a else r (.sg c)) = .sg c
     rw [g.sg, ZAF]
     intro z
     rw [<- z] at h3; cases h3
    ·show (if r (if r x = r b then r a else r x) = r b then r a else r (if r x = r b then r a else r x)) = if r x = r b then r a else r x
     by_cases hx : r x = r b
     ·rw [ZAG hx, g.id, ZAF h1]
     ·rw [ZAF hx, g.id, ZAF hx]
    ·show (if r a = r b then r a else r a) = if r b = r b then r a else r b
     rw [ZAG rfl, ZAF h1]
    ·show (if r x = r b then r a else r x) = if r y = r b then r a else r y
     rw [e]
    ·show f (if r x = r b then r a else r x) = f x
     by_cases hx : r x = r b
     ·rw [ZAG hx, e2, e1, <- e2 b, <- hx, e2]
     ·rw [ZAF hx, e2]
   ·rw [ZAF h3] at h; cases h
theorem Yhq {r : Rp} {a b : Mk} (h : Ymu r a b = none) : ∃ c d, c ≠ d /\ r a = .sg c /\ r b = .sg d := by
 unfold Ymu at h
 by_cases h1 : r a = r b
 ·rw [ZAG h1] at h; cases h
 ·rw [ZAF h1] at h
  by_cases h2 : (r a).isS = false
  ·rw [ZAG h2] at h; cases h
  ·rw [ZAF h2] at h
   by_cases h3 : (r b).isS = false
   ·rw [ZAG h3] at h; cases h
   ·obtain ⟨c, hc⟩ := isS_iff.mp (by simpa using h2 : (r a).isS = true)
    obtain ⟨d, hd⟩ := isS_iff.mp (by simpa using h3 : (r b).isS = true)
    exact ⟨c, d, fun z => h1 (by rw [hc, hd, z]), hc, hd⟩
theorem Con.mono {f : Rp} {ps qs : List (Mk × Mk)} (h : Con f qs) (s : ∀ p ∈ ps, p ∈ qs) : Con f ps := ⟨h.sg, fun p hp => h.eq p (s p hp)⟩
theorem Ycy : ∀ (ps : List (Mk × Mk)) {qs : List (Mk × Mk)} {r r' : Rp}, Gd r -> Con r qs -> Uni r qs -> YlY r ps = some r' -> Gd r' /\ Con r' (qs ++ ps) /\ Uni r' (qs ++ ps)
 | [], qs, r, r', g, c, u, h => by
  cases h
  rw [ZBd]
  exact ⟨g, c, u⟩
 | p :: ps, qs, r, r', g, c, u, h => by
  unfold YlY at h
  cases e : Ymu r p.1 p.2 with
  | none => rw [e] at h; cases h
  | some r1 =>
   rw [e] at h
   obtain ⟨g1, g2, g3, g4⟩ := Ycw g e
   have c1 : Con r1 (qs ++ [p]) := ⟨g1.sg, fun q hq => by
    rcases ZAf.mp hq with z | z
    ·exact g3 _ _ (c.eq q z)
    ·rw [ZAg.mp z]; exact g2⟩
   have u1 : Uni r1 (qs ++ [p]) := fun f cf => g4 f (cf.eq p (by simp)) (u f (cf.mono fun q hq => List.mem_append_left _ hq))
   have := Ycy ps g1 c1 u1 h
   rw [ZBA] at this
   exact this
theorem YbM : ∀ (ps : List (Mk × Mk)) {qs : List (Mk × Mk)} {r : Rp}, Gd r -> Con r qs -> Uni r qs -> YlY r ps = none -> ∀ f, ¬ Con f (qs ++ ps)
 | [], qs, r, g, c, u, h => by cases h
 | p :: ps, qs, r, g, c, u, h => fun f cf => by
  unfold YlY at h
  have uf := u f (cf.mono fun q hq => ZBk _ hq)
  cases e : Ymu r p.1 p.2 with
  | none =>
   obtain ⟨a, b, hab, ha, hb⟩ := Yhq e
   have e1 := uf p.1
   have e2 := uf p.2
   rw [ha, cf.sg] at e1
   rw [hb, cf.sg] at e2
   have e3 := cf.eq p (by simp)
   rw [<- e1, <- e2] at e3
   cases e3
   exact hab rfl
  | some r1 =>
   rw [e] at h
   obtain ⟨g1, g2, g3, g4⟩ := Ycw g e
   have c1 : Con r1 (qs ++ [p]) := ⟨g1.sg, fun q hq => by
    rcases ZAf.mp hq with z | z
    ·exact g3 _ _ (c.eq q z)
    ·rw [ZAg.mp z]; exact g2⟩
   have u1 : Uni r1 (qs ++ [p]) := fun f cf => g4 f (cf.eq p (by simp)) (u f (cf.mono fun q hq => List.mem_append_left _ hq))
   exact YbM ps g1 c1 u1 h f (by rw [ZBA]; exact cf)
theorem YiR : Gd (fun x => x) := ⟨fun _ => rfl, fun _ => rfl⟩
theorem Yf1 : Con (fun x => x) [] := ⟨fun _ => rfl, fun p h => (by cases h)⟩
theorem Ygb : Uni (fun x => x) [] := fun f _ x => rfl
theorem WF : ∀ (ps qs : List (Mk × Mk)) (r : Rp), YlY r (ps ++ qs) = (YlY r ps).bind fun r' => YlY r' qs
 | [], qs, r => rfl
 | p :: ps, qs, r => by
  show (match Ymu r p.1 p.2 with | some r' => YlY r' (ps ++ qs) | none => none) = (match Ymu r p.1 p.2 with | some r' => YlY r' ps | none => none).bind fun r' => YlY r' qs
  cases Ymu r p.1 p.2 with
  | none => rfl
  | some r1 => exact WF ps qs r1
def fst1 (ds : List Mk) (x : Mk) : List Mk := if x.isS = true \/ x ∈ ds then ds else ds ++ [x]
def firsts (xs : List Mk) : List Mk := xs.foldl fst1 []
theorem Ygn {ds : List Mk} {x : Mk} (h : x.isS = false) : x ∈ fst1 ds x := by
 unfold fst1
 by_cases z : x ∈ ds
 ·rw [ZAG (.inr z)]; exact z
 ·rw [ZAF (fun q => q.elim (fun a => by rw [h] at a; cases a) z)]
  simp
theorem Yg6 {ds : List Mk} {x : Mk} : ∃ e, fst1 ds x = ds ++ e := by
 unfold fst1
 split
 ·exact ⟨[], by simp⟩
 ·exact ⟨[x], rfl⟩
def YlG : Mk -> P
 | .sg c => tx [c]
 | .pl u k => .tup [tx [u], .int k]
def kM : Mk -> List Key
 | .sg _ => []
 | .pl u k => [Sum.inr (sT [u]), Sum.inl (k : Int)]
theorem Yc6 {a b : Mk} (ha : a.isS = false) (hb : b.isS = false) (h : kM a = kM b) : a = b := by
 cases a with
 | sg c => cases ha
 | pl u k =>
  cases b with
  | sg c => cases hb
  | pl v j =>
   unfold kM at h
   injection h with h1 h2
   injection h2 with h2 _
   injection h1 with h1
   injection h2 with h2
   have : [u] = [v] := sT_inj.mp h1
   cases this
   have : k = j := by omega
   show 143
theorem Yhp {a b : Mk} (h : YlG a = YlG b) : a = b := by
 cases a with
 | sg c =>
  cases b with
  | sg d =>
   have h' : tx [c] = tx [d] := h
   unfold tx at h'
   injection h' with h'
   have : [c] = [d] := sT_inj.mp h'
   cases this; rfl
  | pl v j => unfold YlG tx at h; cases h
 | pl u k =>
  cases b with
  | sg d => unfold YlG tx at h; cases h
  | pl v j =>
   have h' : P.tup [tx [u], .int k] = P.tup [tx [v], .int j] := h
   injection h' with h'
   injection h' with h1 h2
   unfold tx at h1
   injection h1 with h1
   injection h2 with h2 _
   injection h2 with h2
   have : [u] = [v] := sT_inj.mp h1
   cases this
   have : k = j := by omega
   show 143
theorem YaJ (a : Mk) : Yl4 8 (YlG a) = true := by cases a <;> rfl
theorem YkM {a b : Mk} {st : Yls} : eqP (YlG a) (YlG b) st = some (.bl (decide (a = b)), st) := by
 obtain ⟨c, e, h⟩ := YdS (st := st) (YaJ a) (YaJ b)
 rw [e]
 by_cases z : a = b
 ·subst z; rw [h.mpr rfl, ZAh rfl]
 ·rw [ZAW z]
  cases c with
  | false => rfl
  | true => exact absurd (Yhp (h.mp rfl)) z
theorem Yda {a : Mk} {i : Nat} {ρ : Rho} {st : Yls} (h : ρ[i]? = some (some (YlG a))) : YmS "str" (Ylr i) ρ st = .ok (.bl a.isS) st := by
 have e : Ylr i ρ st = .ok (YlG a) st := by unfold Ylr; rw [h]
 rw [Ygc, e]
 cases a <;> rfl
def look (hs : List (Mk × Mk)) (x : Mk) : Option Mk := (hs.find? fun p => decide (p.1 = x)).map (·.2)
def YlU (hs : List (Mk × Mk)) : List (List Key × P) := hs.map fun p => (kM p.1, YlG p.2)
theorem YaT {hs : List (Mk × Mk)} (hk : ∀ p ∈ hs, p.1.isS = false) {c : Nat} : look hs (.sg c) = none := by
 unfold look
 rw [ZBN, ZA3]
 intro p hp
 simp
 intro e
 have := hk p hp
 rw [e] at this; cases this
theorem Ju : ∀ {hs : List (Mk × Mk)} {x : Mk}, (∀ p ∈ hs, p.1.isS = false) -> x.isS = false -> YlO (YlU hs) (kM x) = (look hs x).map YlG
 | [], x, _, _ => rfl
 | p :: hs, x, hk, hx => by
  have ih := Ju (hs := hs) (x := x) (fun q hq => hk q (ZAT _ hq)) hx
  unfold YlO YlU look at ih ⊢
  rw [ZAY, ZBe, ZBe]
  by_cases e : p.1 = x
  ·subst e; simp
  ·have e2 : ¬ kM p.1 = kM x := fun z => e (Yc6 (hk p (ZAQ ..)) hx z)
   simp only [e, e2, decide_false]
   exact ih
theorem Yh4 {u k : Nat} : Ymw (YlG (.pl u k)) = some (kM (.pl u k)) := rfl
section
variable {st : Yls} {k : Nat} {hs : List (Mk × Mk)}
theorem YiT {x : Mk} (h : st[k]? = some (.dtt (YlU hs))) (hk : ∀ p ∈ hs, p.1.isS = false) : YnM (YlG x) (.ref k) st = some (.bl (look hs x).isSome, st) := by
 have e : YlV (.ref k) st = some (YlU hs) := by unfold YlV; simp only [h]
 unfold YnM
 rw [e]
 cases x with
 | sg c =>
  rw [YaT hk]
  rfl
 | pl u j =>
  have : YoI (YlG (.pl u j)) = false := rfl
  rw [this, if_neg (by simp)]
  unfold YoE
  rw [e]
  show okP (.bl (YlO (YlU hs) (kM (.pl u j))).isSome) st = _
  rw [Ju hk rfl, ZBy]
  rfl
theorem Yla {x y : Mk} (h : st[k]? = some (.dtt (YlU hs))) (hk : ∀ p ∈ hs, p.1.isS = false) (hl : look hs x = some y) : YnI (.ref k) (YlG x) st = some (YlG y, st) := by
 have e : YlV (.ref k) st = some (YlU hs) := by unfold YlV; simp only [h]
 cases x with
 | sg c => rw [YaT hk] at hl; cases hl
 | pl u j =>
  unfold YnI
  rw [e]
  show (YlO (YlU hs) (kM (.pl u j))).map (fun p => (p, st)) = _
  rw [Ju hk rfl, hl]
  rfl
end
inductive Chain (hs : List (Mk × Mk)) : Nat -> Mk -> Mk -> Prop where
 | stop {x : Mk} : look hs x = none -> Chain hs 0 x x
 | go {n : Nat} {x y z : Mk} : look hs x = some y -> Chain hs n y z -> Chain hs (n + 1) x z
theorem Chain.last {hs : List (Mk × Mk)} {n : Nat} {x z : Mk} (h : Chain hs n x z) : look hs z = none := by
 induction h with
 | stop h => exact h
 | go _ _ ih => exact ih
structure HD (hs : List (Mk × Mk)) (r : Rp) : Prop where
 pl : ∀ p ∈ hs, p.1.isS = false
 ch : ∀ x, ∃ n, n <= hs.length /\ Chain hs n x (r x)
theorem HD.nil : HD [] (fun x => x) := ⟨fun p h => (by cases h), fun x => ⟨0, ZAI _, .stop rfl⟩⟩
theorem HD.root {hs : List (Mk × Mk)} {r : Rp} (h : HD hs r) (x : Mk) : look hs (r x) = none := let ⟨_, _, c⟩ := h.ch x; c.last
theorem WG {hs : List (Mk × Mk)} {a b x : Mk} : look (hs ++ [(a, b)]) x = match look hs x with | some y => some y | none => if a = x then some b else none := by
 unfold look
 rw [ZCC]
 cases e : hs.find? fun p => decide (p.1 = x) with
 | some q => rfl
 | none =>
  simp only [Option.none_or, Option.map_none]
  rw [ZBe]
  by_cases h : a = x
  ·simp [h]
  ·simp [h]
theorem Ydl {hs : List (Mk × Mk)} {a b : Mk} (ha : look hs a = none) (hb : look hs b = none) (hab : a ≠ b) {n : Nat} {x z : Mk} (h : Chain hs n x z) :
 (z ≠ a -> Chain (hs ++ [(a, b)]) n x z) /\ (z = a -> Chain (hs ++ [(a, b)]) (n + 1) x b) := by
 induction h with
 | @stop x h =>
  refine ⟨fun z => .stop ?_, fun z => ?_⟩
  ·rw [WG, h]; dsimp only; rw [if_neg (Ne.symm z)]
  ·subst z
   refine .go ?_ (.stop ?_)
   ·rw [WG, h]; dsimp only; rw [if_pos rfl]
   ·rw [WG, hb]; dsimp only; rw [if_neg hab]
 | @go n x y z h _ ih =>
  have e : look (hs ++ [(a, b)]) x = some y := by rw [WG, h]
  exact ⟨fun w => .go e (ih.1 w), fun w => .go e (ih.2 w)⟩
theorem HD.snoc {hs : List (Mk × Mk)} {r : Rp} (h : HD hs r) {a b : Mk} (ha : look hs a = none) (hb : look hs b = none) (hab : a ≠ b) (hs' : a.isS = false) : HD (hs ++ [(a, b)]) (fun x => if r x = a then b else r x) where
 pl := fun p hp => by
  rcases ZAf.mp hp with z | z
  ·exact h.pl p z
  ·rw [ZAg.mp z]; exact hs'
 ch := fun x => by
  obtain ⟨n, hn, c⟩ := h.ch x
  obtain ⟨c1, c2⟩ := Ydl ha hb hab c
  by_cases e : r x = a
  ·exact ⟨n + 1, by rw [ZAH, ZAV]; omega, by rw [ZAG e]; exact c2 e⟩
  ·exact ⟨n, by rw [ZAH, ZAV]; omega, by rw [ZAF e]; exact c1 e⟩
theorem Yiv {hs : List (Mk × Mk)} {a b : Mk} (hk : ∀ p ∈ hs, p.1.isS = false) (ha : look hs a = none) (hs' : a.isS = false) : Yma (YlU hs) (kM a) (YlG b) = YlU (hs ++ [(a, b)]) := by
 unfold Yma
 have hn : ((YlU hs).any fun kv => decide (kv.1 = kM a)) = false := by
  rw [ZBi]
  intro q hq
  unfold YlU at hq
  obtain ⟨p, hp, rfl⟩ := ZAb.mp hq
  simp
  intro z
  have e := Yc6 (hk p hp) hs' z
  unfold look at ha
  rw [ZBN, ZA3] at ha
  exact ha p hp (by simp [e])
 rw [ZAF (by rw [hn]; decide)]
 unfold YlU
 rw [ZAS]
 rfl
section
variable {st : Yls} {k : Nat} {hs : List (Mk × Mk)}
theorem YdN {v1 : Option P} (h : st[k]? = some (.dtt (YlU hs))) (hk : ∀ p ∈ hs, p.1.isS = false) {n : Nat} {x z : Mk} (c : Chain hs n x z) : ∀ f, n < f ->
 YmP (Yml (Ylw YnM (Ylr 2) (Ylr 0))) Zw f [some (.ref k), v1, some (YlG x)] st = .nx [some (.ref k), v1, some (YlG z)] st := by
 induction c with
 | @stop x hx =>
  intro f hf
  obtain ⟨g, rfl⟩ : ∃ g, f = g + 1 := ⟨f - 1, by omega⟩
  have e : Yml (Ylw YnM (Ylr 2) (Ylr 0)) [some (.ref k), v1, some (YlG x)] st = .ok false st := by
   show 126
   rw [YiT h hk, hx]
   rfl
  simp only [YmP, e, RS.ofE_ok, Bool.false_eq_true, if_false]
 | @go n x y z hx _ ih =>
  intro f hf
  obtain ⟨g, rfl⟩ : ∃ g, f = g + 1 := ⟨f - 1, by omega⟩
  have e : Yml (Ylw YnM (Ylr 2) (Ylr 0)) [some (.ref k), v1, some (YlG x)] st = .ok true st := by
   show 126
   rw [YiT h hk, hx]
   rfl
  have e2 : Zw [some (.ref k), v1, some (YlG x)] st = .nx [some (.ref k), v1, some (YlG y)] st := by
   unfold Zw
   show 126
   rw [Yla h hk hx]
   show 126
  simp only [YmP, e, RS.ofE_ok, if_true, e2]
  exact ih g (by omega)
theorem Ybn {r : Rp} (h : st[k]? = some (.dtt (YlU hs))) (H : HD hs r) (hl : hs.length <= 1000) (x : Mk) : YO [.ref k, YlG x] st = .ok (YlG (r x)) st := by
 obtain ⟨n, hn, c⟩ := H.ch x
 unfold YO VI
 show 126
 rw [show YnZ (Yml (Ylw YnM (Ylr 2) (Ylr 0))) Zw [some (.ref k), some (YlG x), some (YlG x)] st = _ from YdN h H.pl c turns (by show n < 1000000; omega)]
 show 126
theorem Ygx {a b : Mk} {ρ : Rho} {i j l : Nat} (h : st[k]? = some (.dtt (YlU hs))) (hk : ∀ p ∈ hs, p.1.isS = false) (ha : look hs a = none) (hs' : a.isS = false) (hl : hs.length <= 1000) (h1 : ρ[i]? = some (some (.ref k))) (h2 : ρ[j]? = some (some (YlG a))) (h3 : ρ[l]? = some (some (YlG b))) :
 YmF (Ylr i) (Ylr j) (Ylr l) ρ st = .nx ρ (st.set k (.dtt (YlU (hs ++ [(a, b)])))) := by
 have e1 : Ylr i ρ st = .ok (.ref k) st := by unfold Ylr; rw [h1]
 have e2 : Ylr j ρ st = .ok (YlG a) st := by unfold Ylr; rw [h2]
 have e3 : Ylr l ρ st = .ok (YlG b) st := by unfold Ylr; rw [h3]
 have e : YlV (.ref k) st = some (YlU hs) := by unfold YlV; simp only [h]
 unfold YmF
 rw [e3, RS.ofE_ok, e1, RS.ofE_ok, e2, RS.ofE_ok]
 rw [e]
 cases a with
 | sg c => cases hs'
 | pl u j =>
  rw [Yh4]
  show (if (YlU hs).length < cap then RS.nx ρ (st.set k (.dtt (Yma (YlU hs) (kM (.pl u j)) (YlG b)))) else .bad) = _
  rw [if_pos (by show _ < 1000000; unfold YlU; rw [List.length_map]; omega), Yiv hk ha hs']
theorem tie {r : Rp} {a b : Mk} (h : st[k]? = some (.dtt (YlU hs))) (H : HD hs r) (hl : hs.length <= 1000) :
 (∀ r', Ymu r a b = some r' -> ∃ hs', V6 [.ref k, YlG a, YlG b] st = .ok (.bl true) (st.set k (.dtt (YlU hs'))) /\ HD hs' r' /\ hs'.length <= hs.length + 1) /\
 (Ymu r a b = none -> V6 [.ref k, YlG a, YlG b] st = .ok (.bl false) st) := by
 have hset : st.set k (.dtt (YlU hs)) = st := by
  obtain ⟨h1, h2⟩ := ZAD.mp h
  rw [<- h2, ZBR]
 have base : V6 [.ref k, YlG a, YlG b] st = Yoz (YlF (sIf (Yml (Ylw eqP (Ylr 3) (Ylr 4))) (sRet (eC (.bl true))) YmL)
  (YlF (sIf (YmC (Ymq (YmS "str" (Ylr 3)))) (YmF (Ylr 0) (Ylr 3) (Ylr 4)) (sIf (YmC (Ymq (YmS "str" (Ylr 4)))) (YmF (Ylr 0) (Ylr 4) (Ylr 3)) (sRet (eC (.bl false))))) (sRet (eC (.bl true))))
  [some (.ref k), some (YlG a), some (YlG b), some (YlG (r a)), some (YlG (r b))] st) := by
  unfold V6 YgX
  generalize (YlF (sIf (Yml (Ylw eqP (Ylr 3) (Ylr 4))) (sRet (eC (.bl true))) YmL)
   (YlF (sIf (YmC (Ymq (YmS "str" (Ylr 3)))) (YmF (Ylr 0) (Ylr 3) (Ylr 4)) (sIf (YmC (Ymq (YmS "str" (Ylr 4)))) (YmF (Ylr 0) (Ylr 4) (Ylr 3)) (sRet (eC (.bl false))))) (sRet (eC (.bl true))))) = T
  show 126
  rw [Ybn h H hl]
  show 126
  rw [Ybn h H hl]
  show 126
 generalize hρ : [some (P.ref k), some (YlG a), some (YlG b), some (YlG (r a)), some (YlG (r b))] = ρ at base
 have c1 : Yml (Ylw eqP (Ylr 3) (Ylr 4)) ρ st = .ok (decide (r a = r b)) st := by
  rw [<- hρ]
  show 126
  rw [YkM]
  rfl
 have c2 : YmC (Ymq (YmS "str" (Ylr 3))) ρ st = .ok (!(r a).isS) st := by
  rw [Ya6, Ybl, Yda (a := r a) (by rw [<- hρ]; rfl)]
  rfl
 have c3 : YmC (Ymq (YmS "str" (Ylr 4))) ρ st = .ok (!(r b).isS) st := by
  rw [Ya6, Ybl, Yda (a := r b) (by rw [<- hρ]; rfl)]
  rfl
 unfold Ymu
 rw [base]
 rw [VN, Js, c1, RS.ofE_ok]
 by_cases z1 : r a = r b
 ·rw [ZAG z1, ZAh z1, ZAG rfl]
  refine ⟨fun r' e => ?_, fun e => (by cases e)⟩
  cases e
  exact ⟨hs, by rw [hset]; rfl, H, by omega⟩
 ·rw [ZAF z1, ZAW z1, ZAF ZAN, Ybf, RS.seq_nx, VN, Js, c2, RS.ofE_ok]
  by_cases z2 : (r a).isS = false
  ·rw [ZAG z2, z2, ZCY, ZAG rfl]
   rw [Ygx (a := r a) (b := r b) h H.pl (H.root a) z2 hl (by rw [<- hρ]; rfl) (by rw [<- hρ]; rfl) (by rw [<- hρ]; rfl), RS.seq_nx]
   refine ⟨fun r' e => ?_, fun e => (by cases e)⟩
   cases e
   exact ⟨hs ++ [(r a, r b)], rfl, H.snoc (H.root a) (H.root b) z1 z2, by rw [ZAH, ZAV]; omega⟩
  ·have z2' : (r a).isS = true := by simpa using z2
   rw [ZAF z2, z2', ZCd, ZAF ZAN, Js, c3, RS.ofE_ok]
   by_cases z3 : (r b).isS = false
   ·rw [ZAG z3, z3, ZCY, ZAG rfl]
    rw [Ygx (a := r b) (b := r a) h H.pl (H.root b) z3 hl (by rw [<- hρ]; rfl) (by rw [<- hρ]; rfl) (by rw [<- hρ]; rfl), RS.seq_nx]
    refine ⟨fun r' e => ?_, fun e => (by cases e)⟩
    cases e
    exact ⟨hs ++ [(r b, r a)], rfl, H.snoc (H.root b) (H.root a) (ZA1 z1) z3, by rw [ZAH, ZAV]; omega⟩
   ·have z3' : (r b).isS = true := by simpa using z3
    rw [ZAF z3, z3', ZCd, ZAF ZAN]
    exact ⟨fun r' e => (by cases e), fun _ => rfl⟩
end
theorem s_a : ("a" : Str) = sT [97] := by decide +kernel
theorem s_z : ("z" : Str) = sT [122] := by decide +kernel
theorem s_A : ("A" : Str) = sT [65] := by decide +kernel
theorem s_Z : ("Z" : Str) = sT [90] := by decide +kernel
theorem YiB {c : Nat} {st : Yls} : Zs [tx [c]] st = .ok (.bl (YlE c)) st := by
 unfold Zs Vz tx
 show 123
 rw [s_a, s_z]
 simp only [VO]
 unfold YlE
 by_cases h : 97 <= c
 ·have e : decide (c < 97) = false := ZAW (by omega)
  rw [e, ZAh h]
  show 123
  by_cases h2 : c <= 122
  ·rw [ZAW (by omega : ¬ 122 < c), ZAh h2]; rfl
  ·rw [ZAh (by omega : 122 < c), ZAW h2]; rfl
 ·have e : decide (c < 97) = true := ZAh (by omega)
  rw [e, ZAW h]
  rfl
theorem YcM {c : Nat} {st : Yls} : YR [tx [c]] st = .ok (.bl (isUp c)) st := by
 unfold YR Z6 tx
 show 123
 rw [s_A, s_Z]
 simp only [VO]
 unfold isUp
 by_cases h : 65 <= c
 ·have e : decide (c < 65) = false := ZAW (by omega)
  rw [e, ZAh h]
  show 123
  by_cases h2 : c <= 90
  ·rw [ZAW (by omega : ¬ 90 < c), ZAh h2]; rfl
  ·rw [ZAh (by omega : 90 < c), ZAW h2]; rfl
 ·have e : decide (c < 65) = true := ZAh (by omega)
  rw [e, ZAW h]
  rfl
def mark (len : Nat -> Nat) (c : Nat) : List Mk := if YlE c = true then [.sg c] else (List.range (len c)).map (.pl c)
def marks (len : Nat -> Nat) (side : List Nat) : List Mk := side.flatMap (mark len)
def Ymf (N : List Nat) (len : Nat -> Nat) : List (Key × P) := N.map fun u => (tkey [u], .int (len u : Nat))
theorem tkey1 {a b : Nat} (h : tkey [a] = tkey [b]) : a = b := by
 have : [a] = [b] := sT_inj.mp (Sum.inr.inj h)
 cases this; rfl
theorem Yik {N : List Nat} {len : Nat -> Nat} {c : Nat} (h : c ∈ N) : YlO (Ymf N len) (tkey [c]) = some (.int (len c : Nat)) := by
 unfold YlO Ymf
 induction N with
 | nil => cases h
 | cons u U ih =>
  by_cases e : u = c
  ·subst e; simp
  ·have hc : c ∈ U := by
    rcases ZAZ.mp h with z | z
    ·exact absurd z.symm e
    ·exact z
   rw [List.map_cons, List.find?_cons_of_neg (by simp; intro z; exact e (tkey1 z))]
   exact ih hc
def LD (st : Yls) (k : Nat) (kvs : List (Key × P)) : Prop := st[k]? = some (.dct kvs) \/ st[k]? = some (.fdc kvs)
theorem LD.grow {a b : Yls} {k : Nat} {kvs : List (Key × P)} (g : Yly a b) (h : LD a k kvs) : LD b k kvs := h.imp g.get g.get
theorem YkX {st : Yls} {k : Nat} {kvs : List (Key × P)} {l : List Nat} {v : P} (h : LD st k kvs) (hv : YlO kvs (tkey l) = some v) : Yoy (.ref k) (tx l) st = some (v, st) := by
 unfold Yoy
 rcases h with h | h
 ·have e : Ynq (.ref k) st = false := by unfold Ynq; simp only [h]
  rw [e, ZAF ZAN]
  show (match st[k]? with
   | some (.lst xs) => ixI xs (tx l) st
   | some (.ro xs) => ixI xs (tx l) st
   | some (.dct kvs) => (match Ymr (tx l) with
    | some k => (YlO kvs k).map fun p => (p, st)
    | none => none)
   | _ => none) = _
  rw [h]
  show (YlO kvs (tkey l)).map (fun p => (p, st)) = _
  rw [hv]; rfl
 ·have e : Ynq (.ref k) st = true := by unfold Ynq; simp only [h]
  rw [e, ZAG rfl]
  show (match st[k]? with | some (.fdc kvs) => (match Ymr (tx l) with | some key => (YlO kvs key).map fun p => (p, st) | none => none) | _ => none) = _
  rw [h]
  show (YlO kvs (tkey l)).map (fun p => (p, st)) = _
  rw [hv]; rfl
theorem Yia {len : Nat -> Nat} {c : Nat} (hl : ∀ u, len u <= 20) : (mark len c).length <= 20 := by
 unfold mark
 split
 ·simp
 ·rw [ZAJ, ZBB]; exact hl c
theorem Wd {len : Nat -> Nat} (hl : ∀ u, len u <= 20) : ∀ side : List Nat, (marks len side).length <= 20 * side.length
 | [] => by simp [marks]
 | c :: side => by
  have ih := Wd hl side
  have := Yia (c := c) hl
  unfold marks at ih ⊢
  rw [ZAx, ZAH, ZA4]
  omega
theorem WT {len : Nat -> Nat} {side : List Nat} {i : Nat} (hi : i < side.length) : marks len (side.take (i + 1)) = marks len (side.take i) ++ mark len side[i] := by
 unfold marks
 rw [ZAo hi, ZBb]
 simp
theorem Ycr {st : Yls} {n m : Nat} {xs ys : List P} (h : st[n]? = some (.lst xs)) (h2 : st[m]? = some (.lst ys)) (hn : n ≠ m) (hl : xs.length + ys.length <= 1000000) : Ym5 (.ref n) [.ref m] st = some (.non, st.set n (.lst (xs ++ ys))) := by
 have e1 : YlQ st n = some xs := by unfold YlQ; rw [h]
 have e2 : YlQ st m = some ys := by unfold YlQ; rw [h2]
 show (match YlQ st n, YlQ st m with | some xs, some ys => if xs.length + ys.length <= cap then some (P.non, st.set n (.lst (xs ++ ys))) else none | _, _ => none) = _
 rw [e1, e2]
 show (if xs.length + ys.length <= cap then some (P.non, st.set n (.lst (xs ++ ys))) else none) = _
 rw [ZAG (show _ <= cap from hl)]
theorem laid {N side : List Nat} {len : Nat -> Nat} {kd : Nat} {st : Yls} (hd : LD st kd (Ymf N len)) (hl : ∀ u, len u <= 20) (hs : side.length <= 100) (hN : ∀ c ∈ side, YlE c = false -> c ∈ N) :
 ∃ st', Wv [tx side, .ref kd] st = .ok (.ref st.length) st' /\ Yly st st' /\ st'[st.length]? = some (.lst ((marks len side).map YlG)) := by
 unfold Wv YcD
 show 123
 obtain ⟨ρ', s', f1, v3, f2, f3, f4⟩ := YZ (src := Ynt (sT side)) (g := Ylv 3) (m := Ybg) (N := side.length) (ρ := [some (tx side), some (.ref kd), some (.ref st.length), none]) (st := st ++ [.lst []]) side (fun c => tx [c])
  (fun i ρ s => ∃ v3, ρ = [some (tx side), some (.ref kd), some (.ref st.length), v3] /\ Yly st s /\ s[st.length]? = some (.lst ((marks len (side.take i)).map YlG))) rfl (fun i ρ s hi _ => nxS hi) ⟨none, rfl, Yly.one, Yo⟩
  (fun i hi ρ s ⟨v3, q1, q2, q3⟩ => by
   show 32
   have hml : (marks len (side.take i)).length <= 2000 := ZAR (Wd hl _) (by rw [ZAm]; omega)
   unfold Ybg
   show 123
   rw [YiB]
   show 123
   have hk : st.length < s.length := (ZAD.mp q3).1
   by_cases hc : YlE side[i] = true
   ·rw [hc]
    show 123
    rw [WJ q3]
    show 123
    rw [Wo q3 (by rw [ZAJ]; omega)]
    show 123
    refine ⟨_, _, rfl, _, rfl, Yly.set q2 (ZAI _), ?_⟩
    rw [ZAU hk, WT hi, ZAS]
    have : mark len side[i] = [.sg side[i]] := by unfold mark; rw [if_pos hc]
    show 86
   ·have hc' : YlE side[i] = false := by simpa using hc
    rw [hc']
    show 123
    rw [WJ q3]
    show 123
    rw [YkX (hd.grow q2) (Yik (hN _ (ZAu hi) hc'))]
    show 123
    have h20 := hl side[i]
    rw [Yae (by omega) (by omega)]
    show 123
    rw [Int.toNat_natCast, ZP (List.range (len side[i])) (fun (k : Nat) => P.int (0 + k)) (fun (k : Nat) => YlG (.pl side[i] k)) (by simp) (fun i _ => nxR) (by simp; omega) (fun k hk => ⟨_, rfl, by
     show 123
     rw [Int.zero_add]
     rfl⟩)]
    show 123
    rw [Ycr (Yly.one.get q3) Yo (by omega) (by simp only [List.length_map, List.length_range]; omega)]
    show 123
    have hk2 : st.length < (s ++ [O.lst ((List.range (len side[i])).map fun k => YlG (.pl side[i] k))]).length := by rw [ZAH]; omega
    refine ⟨_, _, rfl, _, rfl, Yly.set (q2.trans Yly.one) (ZAI _), ?_⟩
    rw [ZAU hk2, WT hi, ZAS]
    have : mark len side[i] = (List.range (len side[i])).map (.pl side[i]) := by unfold mark; rw [if_neg hc]
    rw [this, ZAq]
    rfl)
 show 21
 rw [ZAs] at f4
 exact ⟨_, rfl, f3, f4⟩
theorem Yhy {r : Rp} {p : Mk × Mk} : YlY r [p] = Ymu r p.1 p.2 := by
 show (match Ymu r p.1 p.2 with | some r' => some r' | none => none) = _
 cases Ymu r p.1 p.2 <;> rfl
theorem YgG {r : Rp} {ps : List (Mk × Mk)} {i : Nat} (hi : i < ps.length) : YlY r (ps.take (i + 1)) = (YlY r (ps.take i)).bind fun r' => Ymu r' ps[i].1 ps[i].2 := by
 rw [ZAo hi, WF]
 congr 1
 funext r'
 exact Yhy
theorem YbS {st : Yls} {k : Nat} {a b : O} : (st.set k a).set k b = st.set k b := ZCf ..
theorem YeJ {st : Yls} {kh k1 k2 : Nat} {hs : List (Mk × Mk)} {r : Rp} {xs ys : List Mk} (h : st[kh]? = some (.dtt (YlU hs))) (H : HD hs r) (h1 : st[k1]? = some (.lst (xs.map YlG))) (h2 : st[k2]? = some (.lst (ys.map YlG))) (hn1 : kh ≠ k1) (hn2 : kh ≠ k2) (hl : hs.length + xs.length <= 1000) :
 (xs.length ≠ ys.length -> YB [.ref kh, .ref k1, .ref k2] st = .ok (.bl false) st) /\
 (xs.length = ys.length -> ∀ r', YlY r (xs.zip ys) = some r' -> ∃ hs', YB [.ref kh, .ref k1, .ref k2] st = .ok (.bl true) (st.set kh (.dtt (YlU hs'))) /\ HD hs' r' /\ hs'.length <= hs.length + xs.length) /\
 (xs.length = ys.length -> YlY r (xs.zip ys) = none -> ∃ hs', YB [.ref kh, .ref k1, .ref k2] st = .ok (.bl false) (st.set kh (.dtt (YlU hs')))) := by
 have hk : kh < st.length := (ZAD.mp h).1
 unfold YB Wx
 show 126
 rw [VE h1]
 show 126
 rw [VE h2]
 show 126
 simp only [List.length_map]
 by_cases e : xs.length = ys.length
 ·refine ⟨fun z => absurd e z, ?_⟩
  have hne : (!((xs.length : Nat) : Int) == ((ys.length : Nat) : Int)) = false := by rw [e]; simp
  first | rw [hne] | skip
  show 123
  rw [Ygz (Yh h1) (Yh h2)]
  show 85
  have hz : (xs.zip ys).length = xs.length := by rw [List.length_zip, <- e, Nat.min_self]
  have key : ∀ R, R = Ymg (Ynu k1 k2 xs.length) (Ymb 2 (YlP (Ylv 3) (YlP (Ylv 4) Ymo))) Zr xs.length 0 [some (.ref kh), some (.ref k1), some (.ref k2), none, none] st ->
   (∃ r' hs' v3 v4, YlY r (xs.zip ys) = some r' /\ R = .nx [some (.ref kh), some (.ref k1), some (.ref k2), v3, v4] (st.set kh (.dtt (YlU hs'))) /\ HD hs' r' /\ hs'.length <= hs.length + xs.length) \/ (YlY r (xs.zip ys) = none /\ ∃ hs', R = .rt (.bl false) (st.set kh (.dtt (YlU hs')))) := by
   intro R hR
   subst hR
   refine Jp (src := Ynu k1 k2 xs.length) (g := Ymb 2 (YlP (Ylv 3) (YlP (Ylv 4) Ymo))) (m := Zr) xs.length
    (fun i ρ s => ∃ r' hs' v3 v4, YlY r ((xs.zip ys).take i) = some r' /\ ρ = [some (.ref kh), some (.ref k1), some (.ref k2), v3, v4] /\ s = st.set kh (.dtt (YlU hs')) /\ HD hs' r' /\ hs'.length <= hs.length + i)
    (fun R => (∃ r' hs' v3 v4, YlY r (xs.zip ys) = some r' /\ R = .nx [some (.ref kh), some (.ref k1), some (.ref k2), v3, v4] (st.set kh (.dtt (YlU hs'))) /\ HD hs' r' /\ hs'.length <= hs.length + xs.length) \/ (YlY r (xs.zip ys) = none /\ ∃ hs', R = .rt (.bl false) (st.set kh (.dtt (YlU hs')))))
    (fun i ρ s hi ⟨r1, hs1, v3, v4, q1, q2, q3, q4, q5⟩ => ?_) (fun ρ s ⟨r1, hs1, v3, v4, q1, q2, q3, q4, q5⟩ => ?_) xs.length 0 _ _ (by omega) ⟨r, hs, none, none, rfl, rfl, ?_, H, by omega⟩
   ·subst q2; subst q3
    have hi2 : i < (xs.zip ys).length := by omega
    have hiy : i < ys.length := by omega
    have g1 : (st.set kh (.dtt (YlU hs1)))[k1]? = some (.lst (xs.map YlG)) := by rw [ZAP hn1]; exact h1
    have g2 : (st.set kh (.dtt (YlU hs1)))[k2]? = some (.lst (ys.map YlG)) := by rw [ZAP hn2]; exact h2
    have g0 : (st.set kh (.dtt (YlU hs1)))[kh]? = some (.dtt (YlU hs1)) := ZAU hk
    refine ⟨.tup [YlG xs[i], YlG ys[i]], _, ?_, rfl, ?_⟩
    ·rw [Ybu (Yh g1) (Yh g2)]
     unfold Ymi
     rw [ZAX, ZAX, ZAO hi, ZAO hiy]
     rfl
    ·have hr := YgG (r := r) hi2
     rw [q1] at hr
     have hz1 : (xs.zip ys)[i].1 = xs[i] := by simp
     have hz2 : (xs.zip ys)[i].2 = ys[i] := by simp
     have hr' : YlY r ((xs.zip ys).take (i + 1)) = Ymu r1 xs[i] ys[i] := by rw [hr]; show Ymu r1 (xs.zip ys)[i].1 (xs.zip ys)[i].2 = _; rw [hz1, hz2]
     obtain ⟨t1, t2⟩ := tie (a := xs[i]) (b := ys[i]) g0 q4 (by omega)
     unfold Zr
     show 126
     cases et : Ymu r1 xs[i] ys[i] with
     | some r2 =>
      obtain ⟨hs2, u1, u2, u3⟩ := t1 r2 et
      rw [u1]
      show 126
      exact ⟨r2, hs2, some (YlG xs[i]), some (YlG ys[i]), by rw [hr', et], rfl, YbS, u2, by omega⟩
     | none =>
      rw [t2 et]
      show 126
      refine .inr ⟨?_, hs1, rfl⟩
      rw [<- ZBG (i + 1) (xs.zip ys), WF, hr', et]
      rfl
   ·subst q2; subst q3
    have g1 : (st.set kh (.dtt (YlU hs1)))[k1]? = some (.lst (xs.map YlG)) := by rw [ZAP hn1]; exact h1
    have g2 : (st.set kh (.dtt (YlU hs1)))[k2]? = some (.lst (ys.map YlG)) := by rw [ZAP hn2]; exact h2
    refine ⟨?_, .inl ⟨r1, hs1, v3, v4, ?_, rfl, q4, q5⟩⟩
    ·rw [Ybu (Yh g1) (Yh g2)]
     unfold Ymi
     rw [ZAX, ZAr (ZAI _)]
     rfl
    ·rw [ZBf (by omega)] at q1; exact q1
   ·obtain ⟨z1, z2⟩ := ZAD.mp h
    rw [<- z2, ZBR]
  rcases key _ rfl with ⟨r', hs', v3, v4, w1, w2, w3, w4⟩ | ⟨w1, hs', w2⟩
  ·refine ⟨fun _ r2 e2 => ?_, fun _ e2 => (by rw [w1] at e2; cases e2)⟩
   rw [w1] at e2; cases e2
   refine ⟨hs', ?_, w3, w4⟩
   rw [w2]
   show 126
  ·refine ⟨fun _ r2 e2 => (by rw [w1] at e2; cases e2), fun _ _ => ⟨hs', ?_⟩⟩
   rw [w2]
   show 126
 ·have hne : (!((xs.length : Nat) : Int) == ((ys.length : Nat) : Int)) = true := by simp; omega
  refine ⟨fun _ => ?_, fun z => absurd z e, fun z => absurd z e⟩
  first | rw [hne] | skip
  show 123
def Yl7 (ds : List Mk) : List (List Key × P) := ds.zipIdx.map fun p => (kM p.1, .int (p.2 : Nat))
def shw (ds : List Mk) (m : Mk) : P := if m.isS = true then YlG m else .int (ds.idxOf m : Nat)
theorem Yco {x : Mk} (hx : x.isS = false) : ∀ {ds : List Mk} {n : Nat}, (∀ d ∈ ds, d.isS = false) -> YlO ((ds.zipIdx n).map fun p => (kM p.1, P.int (p.2 : Nat))) (kM x) = if x ∈ ds then some (.int ((n + ds.idxOf x : Nat) : Int)) else none
 | [], n, _ => rfl
 | d :: ds, n, hd => by
  have ih := Yco hx (ds := ds) (n := n + 1) (fun a ha => hd a (ZAT _ ha))
  rw [List.zipIdx_cons, ZAY]
  unfold YlO at ih ⊢
  rw [ZBe]
  by_cases e : d = x
  ·subst e
   simp
  ·have e2 : ¬ kM d = kM x := fun z => e (Yc6 (hd d (ZAQ ..)) hx z)
   have e3 : ¬ x = d := fun z => e z.symm
   simp only [e2, decide_false]
   rw [ih, List.idxOf_cons, show (d == x) = false from beq_eq_false_iff_ne.mpr e]
   simp only [List.mem_cons, e3, false_or, cond_false]
   by_cases h : x ∈ ds
   ·rw [ZAG h, ZAG h]
    congr 2
    omega
   ·rw [ZAF h, ZAF h]
theorem Ybt {x : Mk} {ds : List Mk} (hx : x.isS = false) (hd : ∀ d ∈ ds, d.isS = false) : YlO (Yl7 ds) (kM x) = if x ∈ ds then some (.int (ds.idxOf x : Nat)) else none := by
 have := Yco hx (ds := ds) (n := 0) hd
 rw [Nat.zero_add] at this
 exact this
theorem YeU {ds : List Mk} {x : Mk} : Yl7 (ds ++ [x]) = Yl7 ds ++ [(kM x, .int (ds.length : Nat))] := by
 unfold Yl7
 rw [List.zipIdx_append, ZAS]
 simp
theorem YhG {ds : List Mk} {x : Mk} (hx : x.isS = false) (hd : ∀ d ∈ ds, d.isS = false) (h : x ∉ ds) : Yma (Yl7 ds) (kM x) (.int (ds.length : Nat)) = Yl7 (ds ++ [x]) := by
 have hv : YlO (Yl7 ds) (kM x) = none := by rw [Ybt hx hd, ZAF h]
 unfold Yma
 have hn : ((Yl7 ds).any fun kv => decide (kv.1 = kM x)) = false := by
  rw [ZBi]
  intro q hq z
  unfold YlO at hv
  rw [ZBN, ZA3] at hv
  exact hv q hq z
 rw [ZAF (by rw [hn]; decide), YeU]
theorem Yim {ds : List Mk} {x : Mk} (hd : ∀ d ∈ ds, d.isS = false) : ∀ d ∈ fst1 ds x, d.isS = false := fun d h => by
 unfold fst1 at h
 split at h
 ·exact hd d h
 ·rename_i c
  rcases ZAf.mp h with z | z
  ·exact hd d z
  ·rw [ZAg.mp z]
   cases e : x.isS with
   | false => rfl
   | true => exact absurd (.inl e) c
theorem Yha {ds : List Mk} {x : Mk} : (fst1 ds x).length <= ds.length + 1 := by
 unfold fst1
 split
 ·omega
 ·rw [ZAH, ZAV]; omega
section
variable {st : Yls} {kh kn : Nat} {hs : List (Mk × Mk)} {r : Rp} {ds : List Mk}
theorem shown {x : Mk} (h : st[kh]? = some (.dtt (YlU hs))) (H : HD hs r) (hl : hs.length <= 1000) (hn : st[kn]? = some (.dtt (Yl7 ds))) (hd : ∀ d ∈ ds, d.isS = false) (hdl : ds.length <= 1000) :
 ZB [.ref kh, .ref kn, YlG x] st = .ok (shw (fst1 ds (r x)) (r x)) (st.set kn (.dtt (Yl7 (fst1 ds (r x))))) := by
 have hset : st.set kn (.dtt (Yl7 ds)) = st := by
  obtain ⟨h1, h2⟩ := ZAD.mp hn
  rw [<- h2, ZBR]
 have hk : kn < st.length := (ZAD.mp hn).1
 have e : YlV (.ref kn) st = some (Yl7 ds) := by unfold YlV; simp only [hn]
 unfold ZB Ybv
 generalize hT : (YlF (sIf (Ymq (YmS "str" (Ylr 3))) (sRet (Ylr 3)) YmL)
  (YlF (sIf (Yml (Ylw YmQ (Ylr 3) (Ylr 1))) (YmF (Ylr 1) (Ylr 3) (eB Ynn (Ylt (Ylr 1) YlA))) YmL) (sRet (Ylw YnI (Ylr 1) (Ylr 3))))) = T
 show 126
 rw [Ybn h H hl]
 show 31
 have c1 : Ymq (YmS "str" (Ylr 3)) [some (.ref kh), some (.ref kn), some (YlG x), some (YlG (r x))] st = .ok (r x).isS st := by
  rw [Ybl, Yda (a := r x) rfl]
  rfl
 rw [VN, Js, c1, RS.ofE_ok]
 cases hx : (r x).isS with
 | true =>
  rw [ZAG rfl]
  have e1 : fst1 ds (r x) = ds := by unfold fst1; rw [if_pos (.inl hx)]
  rw [e1, hset]
  unfold shw
  rw [ZAG hx]
  show 126
 | false =>
  rw [ZAF ZAN, Ybf, RS.seq_nx]
  obtain ⟨u, j, hu⟩ : ∃ u j, r x = .pl u j := by cases e2 : r x with | sg c => rw [e2] at hx; cases hx | pl u j => exact ⟨u, j, rfl⟩
  have kk : Ymw (YlG (r x)) = some (kM (r x)) := by rw [hu]; rfl
  have c2 : Yml (Ylw YmQ (Ylr 3) (Ylr 1)) [some (.ref kh), some (.ref kn), some (YlG x), some (YlG (r x))] st = .ok (!decide (r x ∈ ds)) st := by
   have : YmQ (YlG (r x)) (.ref kn) st = some (.bl (!decide (r x ∈ ds)), st) := by
    unfold YmQ
    rw [e]
    show 127
    rw [kk]
    show 127
    rw [Ybt hx hd]
    by_cases z : r x ∈ ds
    ·rw [ZAG z, ZAh z]; rfl
    ·rw [ZAF z, ZAW z]; rfl
   show 126
   show 86
  have ix : ∀ {es : List Mk} {s : Yls}, s[kn]? = some (.dtt (Yl7 es)) -> (∀ d ∈ es, d.isS = false) -> r x ∈ es -> YnI (.ref kn) (YlG (r x)) s = some (.int (es.idxOf (r x) : Nat), s) := fun {es s} g hes hm => by
   have e' : YlV (.ref kn) s = some (Yl7 es) := by unfold YlV; simp only [g]
   unfold YnI
   rw [e']
   show 127
   rw [kk]
   show 127
   rw [Ybt hx hes, ZAG hm]
   rfl
  rw [VN, Js, c2, RS.ofE_ok]
  have eshw : shw (fst1 ds (r x)) (r x) = .int ((fst1 ds (r x)).idxOf (r x) : Nat) := by unfold shw; rw [if_neg (by rw [hx]; decide)]
  rw [eshw]
  by_cases z : r x ∈ ds
  ·have e1 : fst1 ds (r x) = ds := by unfold fst1; rw [if_pos (.inr z)]
   rw [ZAh z, ZCd, ZAF ZAN, Ybf, RS.seq_nx, e1, hset]
   show 126
   rw [ix hn hd z]
   show 126
  ·have e1 : fst1 ds (r x) = ds ++ [r x] := by unfold fst1; rw [if_neg (fun a => a.elim (fun a => by rw [hx] at a; cases a) z)]
   rw [ZAW z, ZCY, ZAG rfl]
   have pt : YmF (Ylr 1) (Ylr 3) (eB Ynn (Ylt (Ylr 1) YlA)) [some (.ref kh), some (.ref kn), some (YlG x), some (YlG (r x))] st = .nx [some (.ref kh), some (.ref kn), some (YlG x), some (YlG (r x))] (st.set kn (.dtt (Yl7 (ds ++ [r x])))) := by
    have el : eB Ynn (Ylt (Ylr 1) YlA) [some (.ref kh), some (.ref kn), some (YlG x), some (YlG (r x))] st = .ok (.int (ds.length : Nat)) st := by
     have : Ynn [.ref kn] st = some (.int (ds.length : Nat), st) := by
      unfold Ynn
      show 127
      rw [e]
      show some (P.int ((Yl7 ds).length : Nat), st) = _
      unfold Yl7
      rw [ZAJ, List.length_zipIdx]
     show 126
     show 86
    unfold YmF
    rw [el, RS.ofE_ok]
    show (RS.ofE _ (R.ok (P.ref kn) st) fun o st2 => RS.ofE _ (R.ok (YlG (r x)) st2) fun i st3 => match o, YlV o st3, Ymw i with
     | .ref k, some kvs, some ks => if kvs.length < cap then RS.nx _ (st3.set k (.dtt (Yma kvs ks (.int (ds.length : Nat))))) else .bad
     | _, _, _ => .bad) = _
    rw [RS.ofE_ok, RS.ofE_ok, e, kk]
    show (if (Yl7 ds).length < cap then RS.nx _ (st.set kn (.dtt (Yma (Yl7 ds) (kM (r x)) (.int (ds.length : Nat))))) else .bad) = _
    rw [if_pos (by show _ < 1000000; unfold Yl7; rw [List.length_map, List.length_zipIdx]; omega), YhG hx hd z]
   rw [pt, RS.seq_nx, e1]
   show 126
   rw [ix (es := ds ++ [r x]) (ZAU hk) (fun d hd' => by
    rcases ZAf.mp hd' with w | w
    ·exact hd d w
    ·rw [List.mem_singleton.mp w]; exact hx) (by simp)]
   show 126
end
theorem Ya5 : ∀ {xs ds : List Mk}, (∀ d ∈ ds, d.isS = false) -> ∀ d ∈ xs.foldl fst1 ds, d.isS = false
 | [], ds, h => h
 | x :: xs, ds, h => Ya5 (xs := xs) (Yim h)
theorem W4 : ∀ {xs ds : List Mk}, (xs.foldl fst1 ds).length <= ds.length + xs.length
 | [], ds => by simp
 | x :: xs, ds => by
  have := W4 (xs := xs) (ds := fst1 ds x)
  have := Yha (ds := ds) (x := x)
  rw [ZA2, ZA4]
  omega
theorem JJ : ∀ {xs ds : List Mk}, ∃ e, xs.foldl fst1 ds = ds ++ e
 | [], ds => ⟨[], by simp⟩
 | x :: xs, ds => by
  obtain ⟨e1, h1⟩ := Yg6 (ds := ds) (x := x)
  obtain ⟨e2, h2⟩ := JJ (xs := xs) (ds := fst1 ds x)
  exact ⟨e1 ++ e2, by rw [ZA2, h2, h1, ZBA]⟩
theorem Yih {ds e : List Mk} {x : Mk} : shw (fst1 ds x ++ e) x = shw (fst1 ds x) x := by
 unfold shw
 cases h : x.isS with
 | true => rfl
 | false =>
  rw [ZAF ZAN, ZAF ZAN, List.idxOf_append, ZAG (Ygn h)]
section
variable {st : Yls} {kh kn kl : Nat} {hs : List (Mk × Mk)} {r : Rp} {ds : List Mk}
theorem YcT {xs D : List Mk} (h : st[kh]? = some (.dtt (YlU hs))) (H : HD hs r) (hl : hs.length <= 1000) (hn : st[kn]? = some (.dtt (Yl7 ds))) (hd : ∀ d ∈ ds, d.isS = false) (hdl : ds.length + xs.length <= 1000) (hx : st[kl]? = some (.lst (xs.map YlG)))
 (n1 : kn ≠ kh) (n2 : kn ≠ kl) (hD : ∃ e, D = (xs.map r).foldl fst1 ds ++ e) :
 YlX (YmU kl xs.length) (Ylv 0) Ymd (YlI 3 ZB (Ylt (Ylr 1) (Ylt (Ylr 2) (Ylt (Ylr 0) YlA)))) [none, some (.ref kh), some (.ref kn)] xs.length 0 st [] = .ok (xs.map fun x => shw D (r x)) (st.set kn (.dtt (Yl7 ((xs.map r).foldl fst1 ds)))) := by
 have hk : kn < st.length := (ZAD.mp hn).1
 obtain ⟨acc, s', e1, e2, e3⟩ := WC (src := YmU kl xs.length) (g := Ylv 0) (nt := Ymd) (me := YlI 3 ZB (Ylt (Ylr 1) (Ylt (Ylr 2) (Ylt (Ylr 0) YlA)))) (ρ0 := [none, some (.ref kh), some (.ref kn)]) (N := xs.length)
  (fun i s acc => s = st.set kn (.dtt (Yl7 (((xs.take i).map r).foldl fst1 ds))) /\ acc = (xs.take i).map fun x => shw D (r x)) (st := st) ⟨by
   obtain ⟨h1, h2⟩ := ZAD.mp hn
   show st = st.set kn (.dtt (Yl7 ds))
   rw [<- h2, ZBR], rfl⟩ (fun i s acc hi ⟨q1, q2⟩ => by
   subst q1; subst q2
   have et : (xs.take (i + 1)).map r = (xs.take i).map r ++ [r xs[i]] := by rw [ZAo hi, ZAS]; rfl
   have g0 : (st.set kn (.dtt (Yl7 (((xs.take i).map r).foldl fst1 ds))))[kh]? = some (.dtt (YlU hs)) := by rw [ZAP n1]; exact h
   have gl : (st.set kn (.dtt (Yl7 (((xs.take i).map r).foldl fst1 ds))))[kl]? = some (.lst (xs.map YlG)) := by rw [ZAP n2]; exact hx
   have gn : (st.set kn (.dtt (Yl7 (((xs.take i).map r).foldl fst1 ds))))[kn]? = some (.dtt (Yl7 (((xs.take i).map r).foldl fst1 ds))) := ZAU hk
   have hlen := W4 (xs := (xs.take i).map r) (ds := ds)
   rw [ZAJ, ZAm] at hlen
   refine ⟨YlG xs[i], _, by rw [nxK (Yh gl), ZAO hi]; rfl, rfl, .inr ⟨_, shw D (r xs[i]), _, rfl, ?_, by show _ < 1000000; rw [ZAJ, ZAm]; omega, rfl, ?_⟩⟩
   ·show 126
    rw [shown g0 H hl gn (Ya5 hd) (by omega), YbS]
    show 126
    rw [et, ZBj]
    show R.ok (shw (fst1 (((xs.take i).map r).foldl fst1 ds) (r xs[i])) (r xs[i])) _ = R.ok _ _
    obtain ⟨e, he⟩ := hD
    have esplit : (xs.map r).foldl fst1 ds = ((xs.drop (i + 1)).map r).foldl fst1 (fst1 (((xs.take i).map r).foldl fst1 ds) (r xs[i])) := by
     conv => lhs; rw [<- ZBG (i + 1) xs, ZAS, ZBj, et, ZBj]
     rfl
    obtain ⟨e', he'⟩ := JJ (xs := (xs.drop (i + 1)).map r) (ds := fst1 (((xs.take i).map r).foldl fst1 ds) (r xs[i]))
    rw [he, esplit, he', ZBA, Yih]
    rfl
   ·rw [ZAo hi, ZAS]; rfl) (fun s acc ⟨q1, q2⟩ => by
   subst q1
   have gl : (st.set kn (.dtt (Yl7 (((xs.take xs.length).map r).foldl fst1 ds))))[kl]? = some (.lst (xs.map YlG)) := by rw [ZAP n2]; exact hx
   rw [nxK (Yh gl), ZAr (ZAI _)]; rfl)
 rw [ZAs] at e2 e3
 rw [e1, e2, e3]
end
theorem YiG {i k : Nat} {m : MS} {ρ ρ' : Rho} {s s' : Yls} {kvs : List (Key × P)} (h1 : ρ[i]? = some (some (.ref k))) (h2 : s[k]? = some (.dct kvs)) (h3 : m ρ (s.set k (.fdc kvs)) = .nx ρ' s') (h4 : s'[k]? = some (.fdc kvs)) : Yof i m ρ s = .nx ρ' (s'.set k (.dct kvs)) := by
 unfold Yof
 rw [h1]
 simp only [h2, h3, h4]
theorem Yh0 {me : ME} {ρ : Rho} {st : Yls} {k : Nat} {kvs : List (Key × P)} (h : me ρ st = .ok (.ref k) st) (h2 : st[k]? = some (.fdc kvs)) : Ynv me ρ st = .ok (YmR kvs) st := by
 unfold Ynv
 rw [h]
 simp only [R.bind_ok, h2]
theorem Yo9 {U : List Nat} {w : Nat -> Nat} {i : Nat} {st : Yls} : (YmR (Ymf U w)).nx i st = some (U[i]?.map fun c => tx [c]) := by
 show some (((Ymf U w)[i]?).map fun p => kP p.1) = _
 unfold Ymf
 rw [ZAX, Option.map_map]
 rfl
def Ynj (r : List Nat) : Prop := r.Pairwise (· < ·)
theorem YhN {a b : Nat} : leS (sT [a]) (sT [b]) = decide (a <= b) := by
 unfold leS
 rw [VO]
 by_cases h : a <= b
 ·rw [ZAh h, ZAW (by omega)]; rfl
 ·rw [ZAW h, ZAh (by omega)]; rfl
theorem Yd6 (ls : List Nat) (hn : ls.Nodup) : ∃ r, YmX (ls.map fun c => sT [c]) = r.map (fun c => sT [c]) /\ Ynj r /\ r.Perm ls := by
 have hp := List.mergeSort_perm ls (fun a b => decide (a <= b))
 have hs := List.pairwise_mergeSort (le := fun a b : Nat => decide (a <= b)) (fun a b c h1 h2 => by simp at *; omega) (fun a b => by simp; omega) ls
 refine ⟨ls.mergeSort (fun a b => decide (a <= b)), (W9 (hp.map _) ?_).symm, ?_, hp⟩
 ·rw [ZCD]
  exact hs.imp fun h => by rw [YhN]; exact h
 ·have hn' : (ls.mergeSort (fun a b => decide (a <= b))).Nodup := hp.nodup_iff.mpr hn
  exact (hs.and hn').imp fun ⟨h1, h2⟩ => Nat.lt_of_le_of_ne (ZA9 h1) h2
theorem YaH : ∀ {l m : List Nat}, l.Nodup -> (∀ x ∈ l, x ∈ m) -> l.length <= m.length
 | [], m, _, _ => ZBM _
 | a :: l, m, hn, h => by
  have ha : a ∈ m := h a (ZAQ ..)
  have hn' := ZB1.mp hn
  have ih := YaH (l := l) (m := m.erase a) hn'.2 fun x hx => by
   have e : x ≠ a := fun e => hn'.1 (by rw [<- e]; exact hx)
   exact (List.mem_erase_of_ne e).mpr (h x (ZAT _ hx))
  rw [List.length_erase_of_mem ha] at ih
  have : 0 < m.length := List.length_pos_of_mem ha
  rw [ZA4]
  omega
theorem Ygg {ls : List Nat} (hl : ls.length <= 63) : ∃ r, YmX (once (ls.map fun c => sT [c])) = r.map (fun c => sT [c]) /\ Ynj r /\ (∀ c, c ∈ r ↔ c ∈ ls) /\ r.length <= ls.length := by
 have ho : ∀ x ∈ once (ls.map fun c => sT [c]), ∃ c, x = sT [c] /\ True := fun x hx => by
  obtain ⟨c, hc, rfl⟩ := ZAb.mp (mem_once.mp hx)
  exact ⟨c, rfl, trivial⟩
 obtain ⟨l0, e0, _⟩ := JF ho
 have hn : l0.Nodup := by
  have := Yc0 (ls.map fun c => sT [c])
  rw [e0] at this
  rw [List.nodup_iff_pairwise_ne, ZCD] at this
  exact this.imp fun h e => h (by rw [e])
 have hm : ∀ c, c ∈ l0 ↔ c ∈ ls := fun c => by
  have key : ∀ l : List Nat, c ∈ l ↔ sT [c] ∈ l.map fun c => sT [c] := fun l => by
   rw [ZAb]
   constructor
   ·intro h; exact ⟨c, h, rfl⟩
   ·rintro ⟨d, hd, e⟩
    have : [d] = [c] := sT_inj.mp e
    cases this
    exact hd
  rw [key l0, <- e0, mem_once, <- key ls]
 obtain ⟨r, r1, r2, r3⟩ := Yd6 l0 hn
 exact ⟨r, by rw [e0, r1], r2, fun c => by rw [r3.mem_iff, hm], by rw [r3.length_eq]; exact YaH hn fun x hx => (hm x).mp hx⟩
theorem Yis {ls : List Nat} {k : Nat} {st0 st : Yls} {ρ : Rho} {me : ME} (h : me ρ st0 = .ok (.ref k) st) (hk : listAt st k = some (ls.map fun c => tx [c])) (hl : ls.length <= 63) : YmD me ρ st0 = .ok ((YmX (once (ls.map fun c => sT [c]))).map P.str) st := by
 unfold YmD
 rw [h]
 show (match listAt st k with | some xs => (match YmE xs with | some ys => if ys.length < 4000 /\ (once ys).length < 64 then R.ok ((YmX (once ys)).map P.str) st else R.bad | none => R.bad) | none => R.bad) = _
 rw [hk]
 show 127
 rw [Yab]
 show 127
 have e1 : (ls.map fun c => [c]).map sT = ls.map fun c => sT [c] := by rw [ZAq]; rfl
 rw [e1, ZAG]
 have := Ycv (ls.map fun c => sT [c])
 rw [ZAJ] at this ⊢
 omega
abbrev Sys := List (List Nat × List Nat)
def YlR (e : List Nat × List Nat) : P := .tup [tx e.1, tx e.2]
def Yl8 (tb : Sys) : List Nat := tb.flatMap fun e => e.1 ++ e.2
theorem mem_allL {tb : Sys} {c : Nat} : c ∈ Yl8 tb ↔ ∃ e ∈ tb, c ∈ e.1 \/ c ∈ e.2 := by
 unfold Yl8
 simp [List.mem_flatMap]
theorem YbU {tb : Sys} {e : List Nat × List Nat} (h : e ∈ tb) : e.1.length + e.2.length <= (Yl8 tb).length := by
 unfold Yl8
 induction tb with
 | nil => cases h
 | cons a r ih =>
  rw [ZAx, ZAH, ZAH]
  rcases ZAZ.mp h with rfl | h
  ·omega
  ·have := ih h; omega
theorem Ydg {tb : Sys} {st : Yls} (h : (Yl8 tb).length <= 63) (h6 : tb.length <= 50) : YT [.tup (tb.map YlR)] st = .ok (tx (Yl8 tb)) st := by
 unfold YT Z7
 simp only [ZM]
 show 123
 rw [ZAJ, ZP tb YlR (fun e => tx (e.1 ++ e.2)) rfl (fun i _ => nxL) (by omega) (fun e he => ⟨[some (tx e.1), some (tx e.2)], rfl, by
  have := YbU he
  walk_at "ev"⟩)]
 show 123
 rw [show (tb.map fun e => tx (e.1 ++ e.2)) = (tb.map fun e => e.1 ++ e.2).map tx by rw [ZAq]; rfl]
 have e2 : (tb.map fun e => e.1 ++ e.2).flatten = Yl8 tb := by unfold Yl8; rw [List.flatMap_def]
 rw [Wy (by rw [e2]; omega), e2]
 rfl
theorem Yhc {tb : Sys} {st : Yls} (h : (Yl8 tb).length <= 63) (h6 : tb.length <= 50) : ∃ r st', YJ [.tup (tb.map YlR)] st = .ok (tx r) st' /\ Yly st st' /\ Ynj r /\ (∀ c, c ∈ r ↔ c ∈ Yl8 tb /\ isUp c = true) /\ r.length <= 63 := by
 unfold YJ WU
 show 123
 rw [Ydg h h6]
 show 123
 rw [JX (Yl8 tb) (fun c => tx [c]) isUp (fun c => tx [c]) rfl (fun i hi => nxS hi) (by omega) (fun c hc => ⟨_, rfl, by
  show 123
  rw [YcM]
  rfl, fun _ => by try walk_at "ev"⟩)]
 show 123
 generalize hF : (Yl8 tb).filter isUp = F
 have hFl : F.length <= 63 := by rw [<- hF]; exact ZAR (List.length_filter_le _ _) h
 unfold Ww Yai
 simp only [ZM]
 show 123
 rw [Yis (ls := F) (k := st.length) (st := st ++ [.lst (F.map fun c => tx [c])]) rfl (Yh Yo) hFl]
 obtain ⟨r, r1, r2, r3, r4⟩ := Ygg (ls := F) hFl
 rw [r1]
 show 123
 rw [show (r.map fun c => sT [c]).map P.str = r.map fun c => tx [c] by rw [ZAq]; rfl, JD (by omega)]
 show 123
 exact ⟨r, _, rfl, Yly.one, r2, fun c => by rw [r3, <- hF, ZCN], by omega⟩
theorem Ycp : ∀ {a b : List Nat}, Ynj a -> Ynj b -> (∀ c, c ∈ a ↔ c ∈ b) -> a = b
 | [], [], _, _, _ => rfl
 | [], y :: b, _, _, h => by have := (h y).mpr (ZAQ ..); cases this
 | x :: a, [], _, _, h => by have := (h x).mp (ZAQ ..); cases this
 | x :: a, y :: b, ra, rb, h => by
  have ra' := List.pairwise_cons.mp ra
  have rb' := List.pairwise_cons.mp rb
  have e : x = y := by
   have h1 := (h x).mp (ZAQ ..)
   have h2 := (h y).mpr (ZAQ ..)
   rcases ZAZ.mp h1 with z | z
   ·exact z
   ·rcases ZAZ.mp h2 with w | w
    ·exact w.symm
    ·have := rb'.1 x z
     have := ra'.1 y w
     omega
  subst e
  have := Ycp ra'.2 rb'.2 fun c => by
   constructor
   ·intro hc
    rcases ZAZ.mp ((h c).mp (ZAT _ hc)) with z | z
    ·have := ra'.1 c hc; omega
    ·exact z
   ·intro hc
    rcases ZAZ.mp ((h c).mpr (ZAT _ hc)) with z | z
    ·have := rb'.1 c hc; omega
    ·exact z
  show 143
theorem Yb3 : ∀ (prs acc : List (Key × P)), ((acc ++ prs).map (·.1)).Nodup -> prs.foldl (fun acc q => Yma acc q.1 q.2) acc = acc ++ prs
 | [], acc, _ => by simp
 | q :: prs, acc, h => by
  have hn : (acc.any fun kv => decide (kv.1 = q.1)) = false := by
   rw [ZBi]
   intro kv hk z
   rw [ZAS, ZCA] at h
   exact h.2.2 kv.1 (List.mem_map.mpr ⟨kv, hk, rfl⟩) q.1 (by simp) (of_decide_eq_true z)
  have e : Yma acc q.1 q.2 = acc ++ [q] := by unfold Yma; rw [if_neg (by rw [hn]; decide)]
  rw [ZA2, e, Yb3 prs (acc ++ [q]) (by rw [ZBA]; exact h), ZBA]
  rfl
theorem YfF {N : List Nat} {f : Nat -> P} : keyz N (N.map f) = N.map fun u => (tkey [u], f u) := by
 unfold keyz
 induction N with
 | nil => rfl
 | cons u N ih => rw [ZAY, List.zip_cons_cons, ZAY, ih, ZAY]; rfl
theorem YpB {N : List Nat} {len : Nat -> Nat} {st : Yls} (nd : N.Nodup) : Ynf [tx N, .tup (N.map fun u => .int (len u : Nat))] st = .ok (.ref st.length) (st ++ [.dct (Ymf N len)]) := by
 unfold tx Ynf
 show 127
 rw [if_pos (by rw [List.length_map]; simp [sT])]
 have e : (sT N).cps.toList = N := by simp [sT]
 rw [e, YfF]
 have : Yoe (N.map fun u => (tkey [u], P.int (len u : Nat))) = Ymf N len := by
  unfold Yoe
  rw [Yb3 _ [] (by
   rw [List.nil_append, ZAq]
   unfold List.Nodup at nd ⊢
   rw [ZCD]
   exact nd.imp fun {a b} h z => h (tkey1 z))]
  rfl
 show 143
def Ylz (len : Nat -> Nat) (tb : Sys) : List (List Mk × List Mk) := tb.map fun e => (marks len e.1, marks len e.2)
def pairsOf (es : List (List Mk × List Mk)) : List (Mk × Mk) := es.flatMap fun e => e.1.zip e.2
def told (len : Nat -> Nat) (N : List Nat) (r : Rp) : P := .tup (N.map fun u => .tup (((List.range (len u)).map (Mk.pl u)).map fun x => shw (firsts ((marks len N).map r)) (r x)))
theorem YcI {len : Nat -> Nat} {tb : Sys} {i : Nat} (hi : i < tb.length) : pairsOf (Ylz len (tb.take (i + 1))) = pairsOf (Ylz len (tb.take i)) ++ (marks len tb[i].1).zip (marks len tb[i].2) := by
 unfold pairsOf Ylz
 rw [ZAo hi, ZAS, ZBb]
 simp
theorem YgL {len : Nat -> Nat} {u : Nat} (h : YlE u = false) : marks len [u] = (List.range (len u)).map (Mk.pl u) := by
 unfold marks mark
 simp [h]
theorem Yc2 {len : Nat -> Nat} {N : List Nat} {i : Nat} (hi : i < N.length) (h : YlE N[i] = false) : marks len (N.take (i + 1)) = marks len (N.take i) ++ (List.range (len N[i])).map (Mk.pl N[i]) := by
 rw [WT hi]
 unfold mark
 rw [ZAF (by rw [h]; decide)]
theorem tied {N : List Nat} {len : Nat -> Nat} {tb : Sys} {st : Yls} (hl : ∀ u, len u <= 20) (h2 : tb.length <= 2) (hs : ∀ e ∈ tb, e.1.length <= 10 /\ e.2.length <= 10) (hr : Ynj N) (hN : ∀ c, c ∈ N ↔ c ∈ Yl8 tb /\ isUp c = true) (hlet : ∀ c ∈ Yl8 tb, YlE c = true \/ isUp c = true) (h26 : N.length <= 26) :
 ∃ st', Wr [.tup (tb.map YlR), .tup (N.map fun u => .int (len u : Nat))] st =
  .ok (if ∀ e ∈ Ylz len tb, e.1.length = e.2.length then (match YlY (fun x => x) (pairsOf (Ylz len tb)) with | some r => told len N r | none => .non) else .non) st' /\ Yly st st' := by
 have nd : N.Nodup := hr.imp fun h => ZAL h
 have hlow : ∀ u ∈ N, YlE u = false := fun u hu => by
  have := ((hN u).mp hu).2
  cases e : YlE u with
  | false => rfl
  | true => rw [Zy e] at this; cases this
 have hall : (Yl8 tb).length <= 63 := by
  have key : ∀ tb : Sys, (∀ e ∈ tb, e.1.length <= 10 /\ e.2.length <= 10) -> (Yl8 tb).length <= 20 * tb.length := by
   intro tb
   induction tb with
   | nil => intro _; simp [Yl8]
   | cons e tb ih =>
    intro h
    have a := ih fun d hd => h d (ZAT _ hd)
    have b := h e (ZAQ ..)
    unfold Yl8 at a ⊢
    rw [ZAx, ZAH, ZAH, ZA4]
    omega
  have := key tb hs
  omega
 have inN : ∀ e ∈ tb, ∀ c, (c ∈ e.1 \/ c ∈ e.2) -> YlE c = false -> c ∈ N := fun e he c hc hlw => by
  have hm := mem_allL.mpr ⟨e, he, hc⟩
  rcases hlet c hm with z | z
  ·rw [z] at hlw; cases hlw
  ·exact (hN c).mpr ⟨hm, z⟩
 unfold Wr Ydj
 show 126
 obtain ⟨r0, B0, n1, n2, n3, n4, n5⟩ := Yhc (tb := tb) (st := st) hall (by omega)
 have e0 : r0 = N := Ycp n3 hr fun c => by rw [n4, hN]
 subst e0
 have hd : Yn3 (Ylt (YlI 1 YJ (Ylt (Ylr 0) YlA)) (Ylt (Ylr 1) YlA)) [some (.tup (tb.map YlR)), some (.tup (r0.map fun u => .int (len u : Nat))), none, none, none, none, none, none, none] st = .ok (.ref B0.length) (B0 ++ [.dct (Ymf r0 len)]) := by
  show (Ylt (YlI 1 YJ (Ylt (Ylr 0) YlA)) (Ylt (Ylr 1) YlA) _ st).bind Ynf = _
  show 126
  rw [n1]
  show 126
  exact YpB nd
 rw [hd]
 generalize hB : B0 ++ [O.dct (Ymf r0 len)] = B
 have kd : B[B0.length]? = some (.dct (Ymf r0 len)) := by rw [<- hB]; exact Yo
 have hkd : B0.length < B.length := (ZAD.mp kd).1
 have gB : Yly st B := by rw [<- hB]; exact n2.trans Yly.one
 have n2l := n2.len
 show 126
 rw [show ∀ (ρ : Rho), Ym3 ρ B = .ok (.ref B.length) (B ++ [.dtt []]) from fun _ => rfl]
 show 83
 have key : ∀ R, R = Ymg (Ynd (tb.map YlR)) (Ymb 2 (YlP (Ylv 4) (YlP (Ylv 5) Ymo))) Jn tb.length 0 [some (.tup (tb.map YlR)), some (.tup (r0.map fun u => .int (len u : Nat))), some (.ref B0.length), some (.ref B.length), none, none, none, none, none] (B ++ [.dtt []]) ->
  (∃ r hs v4 v5 s, (∀ e ∈ Ylz len tb, e.1.length = e.2.length) /\ YlY (fun x => x) (pairsOf (Ylz len tb)) = some r /\ R = .nx [some (.tup (tb.map YlR)), some (.tup (r0.map fun u => .int (len u : Nat))), some (.ref B0.length), some (.ref B.length), v4, v5, none, none, none] s /\ Yly B s /\ s[B.length]? = some (.dtt (YlU hs)) /\ HD hs r /\ hs.length <= 400) \/
  (¬ ((∀ e ∈ Ylz len tb, e.1.length = e.2.length) /\ ∃ r, YlY (fun x => x) (pairsOf (Ylz len tb)) = some r) /\ ∃ s, R = .rt .non s /\ Yly B s) := by
  intro R hR
  subst hR
  refine Jp (src := Ynd (tb.map YlR)) (g := Ymb 2 (YlP (Ylv 4) (YlP (Ylv 5) Ymo))) (m := Jn) tb.length
   (fun i ρ s => ∃ r hs v4 v5, (∀ e ∈ Ylz len (tb.take i), e.1.length = e.2.length) /\ YlY (fun x => x) (pairsOf (Ylz len (tb.take i))) = some r /\ ρ = [some (.tup (tb.map YlR)), some (.tup (r0.map fun u => .int (len u : Nat))), some (.ref B0.length), some (.ref B.length), v4, v5, none, none, none] /\ Yly B s /\ s[B.length]? = some (.dtt (YlU hs)) /\ HD hs r /\ hs.length <= 200 * i)
   (fun R => (∃ r hs v4 v5 s, (∀ e ∈ Ylz len tb, e.1.length = e.2.length) /\ YlY (fun x => x) (pairsOf (Ylz len tb)) = some r /\ R = .nx [some (.tup (tb.map YlR)), some (.tup (r0.map fun u => .int (len u : Nat))), some (.ref B0.length), some (.ref B.length), v4, v5, none, none, none] s /\ Yly B s /\ s[B.length]? = some (.dtt (YlU hs)) /\ HD hs r /\ hs.length <= 400) \/
   (¬ ((∀ e ∈ Ylz len tb, e.1.length = e.2.length) /\ ∃ r, YlY (fun x => x) (pairsOf (Ylz len tb)) = some r) /\ ∃ s, R = .rt .non s /\ Yly B s))
   (fun i ρ s hi ⟨r, hs1, v4, v5, q1, q2, q3, q4, q5, q6, q7⟩ => ?_) (fun ρ s ⟨r, hs1, v4, v5, q1, q2, q3, q4, q5, q6, q7⟩ => ?_) tb.length 0 _ _ (by omega) ⟨fun x => x, [], none, none, fun e he => (by simp [Ylz] at he), rfl, rfl, Yly.one, Yo, HD.nil, by simp⟩
  ·subst q3
   refine ⟨YlR tb[i], _, by rw [nxL, ZAO hi]; rfl, rfl, ?_⟩
   have het := ZAu hi
   obtain ⟨l1, l2⟩ := hs _ het
   obtain ⟨s1, a1, a2, a3⟩ := laid (N := r0) (side := tb[i].1) (len := len) (kd := B0.length) (st := s) (.inl (q4.get kd)) hl (by omega) (fun c hc => inN _ het c (.inl hc))
   obtain ⟨s2, b1, b2, b3⟩ := laid (N := r0) (side := tb[i].2) (len := len) (kd := B0.length) (st := s1) (.inl ((q4.trans a2).get kd)) hl (by omega) (fun c hc => inN _ het c (.inr hc))
   have m1 := Wd hl tb[i].1
   have hks : B.length < s.length := (ZAD.mp q5).1
   have hks1 : s.length <= s1.length := a2.len
   obtain ⟨t1, t2, t3⟩ := YeJ (st := s2) (kh := B.length) (k1 := s.length) (k2 := s1.length) (r := r) ((a2.trans b2).get q5) q6 (b2.get a3) b3 (by omega) (by omega) (by omega)
   have hst := YcI (len := len) hi
   have hside : ∀ P : List Mk × List Mk -> Prop, (∀ e ∈ Ylz len (tb.take (i + 1)), P e) ↔ (∀ e ∈ Ylz len (tb.take i), P e) /\ P (marks len tb[i].1, marks len tb[i].2) := fun P => by
    unfold Ylz
    rw [ZAo hi, ZAS]
    simp only [List.mem_append, List.map_cons, List.map_nil, List.mem_singleton]
    constructor
    ·intro h; exact ⟨fun e he => h e (.inl he), h _ (.inr rfl)⟩
    ·rintro ⟨a, b⟩ e (z | z)
     ·exact a e z
     ·rw [z]; exact b
   have bad : (marks len tb[i].1).length ≠ (marks len tb[i].2).length \/ YlY r ((marks len tb[i].1).zip (marks len tb[i].2)) = none -> ¬ ((∀ e ∈ Ylz len tb, e.1.length = e.2.length) /\ ∃ r, YlY (fun x => x) (pairsOf (Ylz len tb)) = some r) := by
    rintro h ⟨z1, r', z2⟩
    rcases h with h | h
    ·exact h (z1 (marks len tb[i].1, marks len tb[i].2) (ZAb.mpr ⟨tb[i], het, rfl⟩))
    ·have e : pairsOf (Ylz len tb) = pairsOf (Ylz len (tb.take (i + 1))) ++ pairsOf (Ylz len (tb.drop (i + 1))) := by
      conv => lhs; rw [<- ZBG (i + 1) tb]
      unfold pairsOf Ylz
      rw [ZAS, ZBb]
     rw [e, WF, hst, WF, q2] at z2
     simp only [Option.bind_some] at z2
     rw [h] at z2
     cases z2
   unfold Jn
   show 126
   rw [a1]
   show 126
   rw [b1]
   show 126
   by_cases el : (marks len tb[i].1).length = (marks len tb[i].2).length
   ·cases er : YlY r ((marks len tb[i].1).zip (marks len tb[i].2)) with
    | some r' =>
     obtain ⟨hs2, u1, u2, u3⟩ := t2 el r' er
     rw [u1]
     show 126
     have hk2 : B.length < s2.length := by have := b2.len; omega
     refine ⟨r', hs2, some (tx tb[i].1), some (tx tb[i].2), (hside _).mpr ⟨q1, el⟩, by rw [hst, WF, q2]; exact er, rfl, Yly.set ((q4.trans a2).trans b2) (ZAI _), ZAU hk2, u2, ?_⟩
     omega
    | none =>
     obtain ⟨hs2, u1⟩ := t3 el er
     rw [u1]
     show 126
     exact .inr ⟨bad (.inr er), _, rfl, Yly.set ((q4.trans a2).trans b2) (ZAI _)⟩
   ·rw [t1 el]
    show 126
    exact .inr ⟨bad (.inl el), _, rfl, (q4.trans a2).trans b2⟩
  ·subst q3
   rw [ZAs] at q1 q2
   exact ⟨by rw [nxL, ZAr (ZAI _)]; rfl, .inl ⟨r, hs1, v4, v5, s, q1, q2, rfl, q4, q5, q6, by omega⟩⟩
 rcases key _ rfl with ⟨r, hs1, v4, v5, s, w1, w2, w3, w4, w5, w6, w7⟩ | ⟨w1, s, w3, w8⟩
 ·rw [ZAG w1, w2, w3]
  clear w1 w2 w3 key
  generalize hD : firsts ((marks len r0).map r) = D
  have hmk : ∀ i, (marks len (r0.take i)).length <= 520 := fun i => by
   have := Wd hl (r0.take i)
   rw [ZAm] at this
   omega
  have hkh : B.length < s.length := (ZAD.mp w5).1
  have hkd2 : s[B0.length]? = some (.dct (Ymf r0 len)) := w4.get kd
  generalize hT : Yof 2 (YmB (Ynv (Ylr 2)) (Ylv 8) Vp) = T
  show 126
  rw [show ∀ (ρ : Rho), Ym3 ρ s = .ok (.ref s.length) (s ++ [.dtt []]) from fun _ => rfl]
  show 126
  have hlen2 : (s ++ [O.dtt []]).length = s.length + 1 := by simp
  generalize hC : s ++ [O.dtt []] ++ [O.lst []] = C
  have c1 : C[B0.length]? = some (.dct (Ymf r0 len)) := by rw [<- hC]; exact (Yly.one.trans Yly.one).get hkd2
  have c2 : C[B.length]? = some (.dtt (YlU hs1)) := by rw [<- hC]; exact (Yly.one.trans Yly.one).get w5
  have c3 : C[s.length]? = some (.dtt (Yl7 [])) := by rw [<- hC]; exact Yly.one.get Yo
  have c4 : C[s.length + 1]? = some (.lst []) := by rw [<- hC, <- hlen2]; exact Yo
  have hCl : C.length = s.length + 2 := by rw [<- hC]; simp
  rw [hlen2]
  have loop : ∃ ρ' s', YmB (Ynv (Ylr 2)) (Ylv 8) Vp [some (.tup (tb.map YlR)), some (.tup (r0.map fun u => .int (len u : Nat))), some (.ref B0.length), some (.ref B.length), v4, v5, some (.ref s.length), some (.ref (s.length + 1)), none] (C.set B0.length (.fdc (Ymf r0 len))) = .nx ρ' s' /\
   (∃ v8, ρ' = [some (.tup (tb.map YlR)), some (.tup (r0.map fun u => .int (len u : Nat))), some (.ref B0.length), some (.ref B.length), v4, v5, some (.ref s.length), some (.ref (s.length + 1)), v8]) /\ s'[B0.length]? = some (.fdc (Ymf r0 len)) /\ s'[s.length + 1]? = some (.lst (r0.map fun u => .tup (((List.range (len u)).map (Mk.pl u)).map fun x => shw D (r x)))) /\ Yly st s' := by
   have f0 : (C.set B0.length (.fdc (Ymf r0 len)))[B0.length]? = some (.fdc (Ymf r0 len)) := ZAU (by omega)
   rw [Yg2, Yh0 (k := B0.length) (kvs := Ymf r0 len) rfl f0, RS.ofE_ok]
   have hnn : (YmR (Ymf r0 len)).n = r0.length := by show (Ymf r0 len).length = _; unfold Ymf; exact List.length_map ..
   rw [hnn]
   obtain ⟨ρ', s', g1, v8, g2, g3, g4, g5, g6, g7⟩ := YZ (src := YmR (Ymf r0 len)) (g := Ylv 8) (m := Vp) (N := r0.length) (ρ := [some (.tup (tb.map YlR)), some (.tup (r0.map fun u => .int (len u : Nat))), some (.ref B0.length), some (.ref B.length), v4, v5, some (.ref s.length), some (.ref (s.length + 1)), none]) (st := C.set B0.length (.fdc (Ymf r0 len))) r0 (fun c => tx [c])
    (fun i ρ s' => ∃ v8, ρ = [some (.tup (tb.map YlR)), some (.tup (r0.map fun u => .int (len u : Nat))), some (.ref B0.length), some (.ref B.length), v4, v5, some (.ref s.length), some (.ref (s.length + 1)), v8] /\ s'[B0.length]? = some (.fdc (Ymf r0 len)) /\ s'[B.length]? = some (.dtt (YlU hs1)) /\ s'[s.length]? = some (.dtt (Yl7 (firsts ((marks len (r0.take i)).map r)))) /\
     s'[s.length + 1]? = some (.lst ((r0.take i).map fun u => .tup (((List.range (len u)).map (Mk.pl u)).map fun x => shw D (r x)))) /\ Yly st s') rfl (fun i ρ s hi _ => Yo9)
    ⟨none, rfl, f0, by rw [ZAP (by omega)]; exact c2, by rw [ZAP (by omega)]; exact c3, by rw [ZAP (by omega)]; exact c4, Yly.set (by rw [<- hC]; exact ((gB.trans w4).trans Yly.one).trans Yly.one) n2l⟩
    (fun i hi ρ s' ⟨v8, q1, q2, q3, q4, q5, q6⟩ => by
     show 32
     have hu := hlow _ (ZAu hi)
     obtain ⟨s1, a1, a2, a3⟩ := laid (N := r0) (side := [r0[i]]) (len := len) (kd := B0.length) (st := s') (.inr q2) hl (by simp) (fun c hc _ => by rw [List.mem_singleton.mp hc]; exact List.getElem_mem hi)
     rw [YgL hu] at a3
     have hm := hmk i
     have hxl : ((List.range (len r0[i])).map (Mk.pl r0[i])).length <= 20 := by rw [ZAJ, ZBB]; exact hl _
     have hpl : ∀ d ∈ firsts ((marks len (r0.take i)).map r), d.isS = false := Ya5 (fun d hd => (by cases hd))
     have hfl : (firsts ((marks len (r0.take i)).map r)).length <= 520 := by
      have := W4 (xs := (marks len (r0.take i)).map r) (ds := [])
      rw [ZAJ] at this
      exact Nat.le_trans this (by simpa using hm)
     have hkt : s.length + 1 < s'.length := (ZAD.mp q5).1
     have enext : firsts ((marks len (r0.take (i + 1))).map r) = (((List.range (len r0[i])).map (Mk.pl r0[i])).map r).foldl fst1 (firsts ((marks len (r0.take i)).map r)) := by
      rw [Yc2 hi hu, ZAS]
      unfold firsts
      rw [ZBj]
     have hpre : ∃ e, D = (((List.range (len r0[i])).map (Mk.pl r0[i])).map r).foldl fst1 (firsts ((marks len (r0.take i)).map r)) ++ e := by
      rw [<- enext, <- hD]
      have : (marks len r0).map r = (marks len (r0.take (i + 1))).map r ++ (marks len (r0.drop (i + 1))).map r := by
       rw [<- ZAS]
       congr 1
       conv => lhs; rw [<- ZBG (i + 1) r0]
       unfold marks
       rw [ZBb]
      show 143
      unfold firsts
      rw [ZBj]
      exact JJ
     have sc := YcT (st := s1) (kh := B.length) (kn := s.length) (kl := s'.length) (r := r) (D := D) (a2.get q3) w6 (by omega) (a2.get q4) hpl (by omega) a3 (by omega) (by omega) hpre
     unfold Vp
     show 126
     rw [WJ q5]
     show 126
     rw [a1]
     show 126
     rw [Zv (Yh a3)]
     show 126
     simp only [List.length_map] at sc ⊢
     rw [sc]
     show 126
     have k5 : (s1.set s.length (.dtt (Yl7 ((((List.range (len r0[i])).map (Mk.pl r0[i])).map r).foldl fst1 (firsts ((marks len (r0.take i)).map r))))))[s.length + 1]? = some (.lst ((r0.take i).map fun u => .tup (((List.range (len u)).map (Mk.pl u)).map fun x => shw D (r x)))) := by
      rw [ZAP (by omega)]; exact a2.get q5
     rw [Wo k5 (by rw [ZAJ, ZAm]; omega)]
     show 126
     have hl1 := a2.len
     have hgl := (gB.trans w4).len
     refine ⟨_, _, rfl, _, rfl, ?_, ?_, ?_, ?_, Yly.set (Yly.set (q6.trans a2) (by omega)) (by omega)⟩
     ·rw [ZAP (by omega), ZAP (by omega)]; exact a2.get q2
     ·rw [ZAP (by omega), ZAP (by omega)]; exact a2.get q3
     ·rw [ZAP (by omega), ZAU (by omega), enext]
     ·rw [ZAU (by rw [ZBs]; omega), ZAo hi, ZAS]
      rfl)
   rw [ZAs] at g6
   exact ⟨ρ', s', g1, ⟨v8, g2⟩, g3, g6, g7⟩
  obtain ⟨ρ', s', g1, ⟨v8, g2⟩, g3, g6, g7⟩ := loop
  subst g2
  rw [<- hT, YiG (k := B0.length) (kvs := Ymf r0 len) rfl c1 g1 g3]
  show 126
  have k7 : (s'.set B0.length (.dct (Ymf r0 len)))[s.length + 1]? = some (.lst (r0.map fun u => .tup (((List.range (len u)).map (Mk.pl u)).map fun x => shw D (r x)))) := by
   rw [ZAP (by omega)]; exact g6
  rw [show Ymy [.ref (s.length + 1)] (s'.set B0.length (.dct (Ymf r0 len))) = _ from Wc (Yh k7)]
  show 126
  exact ⟨_, by unfold told; rw [hD], Yly.set g7 n2l⟩
 ·rw [w3]
  show 126
  refine ⟨s, ?_, gB.trans w8⟩
  by_cases c : ∀ e ∈ Ylz len tb, e.1.length = e.2.length
  ·rw [ZAG c]
   cases e : YlY (fun x => x) (pairsOf (Ylz len tb)) with
   | none => rfl
   | some r => exact absurd ⟨c, r, e⟩ w1
  ·rw [ZAF c]
theorem Vl {k : Nat} {ns : List Int} {st : Yls} (i : Nat) (h : st[k]? = some (.ro (ns.map P.int))) : Yk [.ref k, .int i] st = .ok (.int (ns.getD i 0)) st := by
 unfold Yk Zx
 simp only [YiN, List.map_cons, List.map_nil, VN, Js, Yfy, Yf0, YfW]
 simp [YbO h]
 by_cases hi : i < ns.length
 ·simp [hi]
  rw [YdC h (by omega) (p := .int ns[i]) (by simp [hi])]
  simp [hi]
 ·simp [hi]
theorem Ykc : P.str "abcdefghijklmnopqrstuvwxyz" = tx ((List.range 26).map (97 + ·)) := ZBK P.str (by decide +kernel)
def up26 : List Nat := (List.range 26).map (65 + ·)
theorem Yhk : P.str "ABCDEFGHIJKLMNOPQRSTUVWXYZ" = tx up26 := ZBK P.str (by decide +kernel)
theorem s_e : P.str "" = tx [] := ZBK P.str ZM
theorem mixed {cell : Int} {st : Yls} : ∃ ns : List Int, YQ [.int cell, .int 24] st = .ok (.ref st.length) (st ++ [.lst (ns.map P.int)]) /\ ns.length = 24 := by
 unfold YQ ZT
 show 123
 obtain ⟨ρ', s', f1, ns, n2, v4, f2, f3, f4⟩ := YZ (src := YmG 0 24) (g := Ylv 4) (m := ZG) (N := 24) (ρ := [some (.int cell), some (.int 24), some (.int (1 + cell % 2147483646)), some (.ref st.length), none]) (st := st ++ [.lst []]) (List.range 24) (fun (k : Nat) => P.int (0 + k))
  (fun i ρ s => ∃ (ns : List Int) (n2 : Int) (v4 : Option P), ρ = [some (.int cell), some (.int 24), some (.int n2), some (.ref st.length), v4] /\ s = st ++ [.lst (ns.map P.int)] /\ ns.length = i) (by simp) (fun i ρ s hi _ => nxR) ⟨[], _, none, rfl, rfl, rfl⟩
  (fun i hi ρ s ⟨ns, n2, v4, q1, q2, q3⟩ => by
   subst q1; subst q2
   have hi' : i < 24 := by simpa using hi
   show 161
   unfold ZG
   show 123
   rw [WJ Yo]
   show 123
   rw [Wo Yo (by rw [ZAJ]; omega)]
   show 123
   refine ⟨_, _, rfl, ns ++ [n2 * 16807 % 2147483647], _, _, rfl, ?_, by rw [ZAH, ZAV, q3]⟩
   rw [ZCX _ _ (ZAI _), Nat.sub_self, ZAS]
   rfl)
 have e40 : ((24 : Int)).toNat = 24 := rfl
 try rw [e40]
 rw [f1, f2, f3]
 show 123
 exact ⟨ns, rfl, by simpa using f4⟩
theorem names3 {cell : Int} {n : Nat} {st : Yls} (hn : n <= 3) : ∃ (w : List Nat) (st' : Yls), YU [.int cell, .int n] st = .ok (tx w) st' /\ Yly st st' /\ w.length = n /\ ∀ c ∈ w, isUp c = true := by
 unfold YU ZS
 simp only [Yhk, ZM]
 show 123
 generalize hB : st ++ [O.lst [P.int 1, P.int 3, P.int 5, P.int 7, P.int 9, P.int 11, P.int 15, P.int 17, P.int 19, P.int 21, P.int 23, P.int 25]] = B
 have gB : Yly st B := by rw [<- hB]; exact Yly.one
 have kB : B[st.length]? = some (.lst ([1, 3, 5, 7, 9, 11, 15, 17, 19, 21, 23, 25].map P.int)) := by rw [<- hB]; exact Yo
 obtain ⟨m, hm, hml⟩ : ∃ m : Nat, cell / 26 % 12 = (m : Int) /\ m < 12 := ⟨(cell / 26 % 12).toNat, by omega, by omega⟩
 obtain ⟨x, hx⟩ : ∃ x : Int, ([1, 3, 5, 7, 9, 11, 15, 17, 19, 21, 23, 25] : List Int)[m]? = some x := ⟨_, List.getElem?_eq_getElem (by simpa using hml)⟩
 have hxb : 0 <= x /\ x <= 25 := by
  have key : ∀ y ∈ ([1, 3, 5, 7, 9, 11, 15, 17, 19, 21, 23, 25] : List Int), 0 <= y /\ y <= 25 := by decide
  exact key x (ZBH hx)
 rw [hm, W6 kB (by omega) (p := .int x) (by rw [ZA8, ZAX, hx]; rfl)]
 show 123
 try rw [ZA8]
 obtain ⟨acc, s', e1, w, e2, e3, e4, e5⟩ := WC (src := YmG 0 n) (g := Ylv 0) (nt := Ymd) (me := Ylw ixP (Ylr 2) (Ylw Ymx (Ylw Yl2 (Ylr 1) (Ylw YmY (Ylr 3) (Ylr 0))) (eC (.int 26)))) (ρ0 := [none, some (.int cell), some (tx up26), some (.int x)]) (N := n)
  (fun i s acc => ∃ w : List Nat, acc = w.map (fun c => tx [c]) /\ w.length = i /\ (∀ c ∈ w, isUp c = true) /\ s = B) (st := B) ⟨[], rfl, rfl, fun w h => (by cases h), rfl⟩ (fun i s acc hi ⟨w, w1, w2, w3, w4⟩ => by
   subst w1; subst w4
   obtain ⟨c, c1, c2⟩ := Vs (l := up26) (st := s) (i := (cell + x * (0 + (i : Int))) % 26) (by omega) (by show _ < (26 : Int); omega) (by decide)
   refine ⟨.int (0 + i), _, by simp only [Jo, if_pos hi], rfl, .inr ⟨s, tx [c], s, rfl, ?_, by show _ < 1000000; rw [List.length_map]; omega, w ++ [c], by rw [List.map_append]; rfl, by rw [List.length_append, List.length_singleton, w2], fun d hd => ?_, rfl⟩⟩
   ·show 126
    rw [c2]
    rfl
   ·show 227
    ·exact w3 d z
    ·rw [ZAg.mp z]
     have hc := ZBH c1
     obtain ⟨k, hk, rfl⟩ := ZAb.mp hc
     rw [Wu]
     have := ZBv.mp hk
     omega) (fun s acc _ => by simp only [Jo, if_neg (Nat.lt_irrefl _)])
 rw [e1]
 subst e2; subst e5
 show 123
 rw [JD (by omega)]
 show 123
 exact ⟨w, _, rfl, gB, e3, e4⟩
theorem two {cell : Int} {st : Yls} : ∃ a b, Zh [.int cell] st = .ok (tx [a, b]) st /\ YlE a = true /\ YlE b = true := by
 unfold Zh W1
 simp only [Ykc]
 have low : ∀ (i : Int), 0 <= i -> i < 26 -> ∃ c, YlE c = true /\ ixP (tx ((List.range 26).map (97 + ·))) (.int i) st = some (tx [c], st) := fun i h0 h1 => by
  obtain ⟨c, c1, c2⟩ := Vs (l := (List.range 26).map (97 + ·)) (st := st) (i := i) h0 (by simp; omega) (by simp)
  refine ⟨c, ?_, c2⟩
  obtain ⟨k, hk, rfl⟩ := ZAb.mp (ZBH c1)
  rw [ZO]
  have := ZBv.mp hk
  omega
 show 123
 obtain ⟨a, a1, a2⟩ := low (cell % 26) (by omega) (by omega)
 rw [a2]
 show 123
 obtain ⟨b, b1, b2⟩ := low ((cell + 1 + cell / 26 % 25) % 26) (by omega) (by omega)
 rw [b2]
 show 123
 exact ⟨a, b, rfl, a1, b1⟩
theorem WB {l : List Nat} {i c : Nat} {st : Yls} (h : l[i]? = some c) (hl : l.length <= 1000000) : ixP (tx l) (.int i) st = some (tx [c], st) := by
 have hi : i < l.length := (ZAD.mp h).1
 obtain ⟨d, h2, h3⟩ := Vs (l := l) (i := i) (st := st) (by omega) (by omega) hl
 rw [ZA8, h] at h2
 cases h2
 exact h3
theorem YjZ {a : ME} {ρ : Rho} {st st1 : Yls} {l : List Nat} (h : a ρ st = .ok (tx l) st1) (hl : l.length <= 1000000) : Yoc a ρ st = .ok (tx l.reverse) st1 := by
 have e : Ym9 (sT l) = sT l.reverse := by rw [YhF]; rfl
 unfold Yoc
 rw [h]
 show (if (Ym9 (sT l)).length <= cap then R.ok (P.str (Ym9 (sT l))) st1 else R.bad) = _
 rw [ZAG (by rw [e, VP, ZBa]; exact hl), e]
 rfl
theorem YgI {st : Yls} {n : Nat} {kvs : List (Key × P)} {l : List Nat} {v : P} (h : st[n]? = some (.dct kvs)) (hv : YlO kvs (tkey l) = some v) : ixP (.ref n) (tx l) st = some (v, st) := by
 show (match st[n]? with
  | some (.lst xs) => ixI xs (tx l) st
  | some (.ro xs) => ixI xs (tx l) st
  | some (.dct kvs) => (match Ymr (tx l) with
   | some k => (YlO kvs k).map fun p => (p, st)
   | none => none)
  | _ => none) = _
 rw [h]
 show (YlO kvs (tkey l)).map (fun p => (p, st)) = _
 rw [hv]; rfl
structure CV (kc : List (Key × P)) (b : Nat) : Prop where
 val : ∀ l p, YlO kc (tkey l) = some p -> ∃ n : Int, p = .int n
 len : kc.length <= b
theorem CV.put {kc : List (Key × P)} {b : Nat} {l : List Nat} {n : Int} (h : CV kc b) : CV (Yma kc (tkey l) (.int n)) (b + 1) where
 val := fun l' p hp => by
  rw [Jt] at hp
  split at hp
  ·cases hp; exact ⟨n, rfl⟩
  ·exact h.val l' p hp
 len := by rw [YhA]; have := h.len; split <;> omega
theorem CV.mono {kc : List (Key × P)} {b d : Nat} (h : CV kc b) (hb : b <= d) : CV kc d := ⟨h.val, ZAR h.len hb⟩
def Has (kc : List (Key × P)) (w : List Nat) : Prop := ∀ c ∈ w, isUp c = true -> ∃ n : Int, YlO kc (tkey [c]) = some (.int n)
theorem Has.put {kc : List (Key × P)} {w l : List Nat} {n : Int} (h : Has kc w) : Has (Yma kc (tkey l) (.int n)) w := fun c hc hu => by
 rw [Jt]
 split
 ·exact ⟨n, rfl⟩
 ·exact h c hc hu
theorem Has.here {kc : List (Key × P)} {w : List Nat} {c : Nat} {n : Int} (h : Has kc w) : Has (Yma kc (tkey [c]) (.int n)) (w ++ [c]) := fun d hd hu => by
 show 227
 ·exact h.put d z hu
 ·rw [ZAg.mp z, Jt, ZAG rfl]; exact ⟨n, rfl⟩
theorem Has.low {kc : List (Key × P)} {w : List Nat} {c : Nat} (h : Has kc w) (hl : YlE c = true) : Has kc (w ++ [c]) := fun d hd hu => by
 show 227
 ·exact h d z hu
 ·rw [ZAg.mp z, Zy hl] at hu; cases hu
def LS (a b : Nat) (w : List Nat) : Prop := ∀ c ∈ w, isUp c = true \/ c = a \/ c = b
theorem LS.snoc {a b c : Nat} {w : List Nat} (h : LS a b w) (hc : isUp c = true \/ c = a \/ c = b) : LS a b (w ++ [c]) := fun d hd => by
 show 227
 ·exact h d z
 ·rw [ZAg.mp z]; exact hc
theorem ix2 {a b : Nat} {s : Yls} {i : Int} (h0 : 0 <= i) (h1 : i < 2) : ∃ c, ixP (tx [a, b]) (.int i) s = some (tx [c], s) /\ (c = a \/ c = b) := by
 obtain ⟨c, c1, c2⟩ := Vs (l := [a, b]) (st := s) (i := i) h0 h1 (by simp)
 exact ⟨c, c2, by simpa using List.mem_of_getElem? c1⟩
theorem Vv {st : Yls} {k : Nat} {o o' : O} (h : st[k]? = some o) : (st.set k o')[k]? = some o' := ZAU (ZAD.mp h).1
theorem YN {st : Yls} {k j : Nat} {o o' : O} (h : st[j]? = some o) (hn : j ≠ k) : (st.set k o')[j]? = some o := by rw [ZAP (ZA1 hn)]; exact h
theorem Yb7 {st : Yls} {k : Nat} {o : O} (h : st[k]? = some o) : st.set k o = st := by
 have := (ZAD.mp h)
 obtain ⟨h1, h2⟩ := this
 rw [<- h2, ZBR]
theorem YbZ {ns : List Int} {nm : List Nat} {a b k kc m : Nat} {kvs : List (Key × P)} {st : Yls} (hk : st[k]? = some (.lst (ns.map P.int))) (hne : k ≠ kc) (hn : ns.length <= 100) (h1 : 1 <= nm.length) (h3 : nm.length <= 3) (hup : ∀ c ∈ nm, isUp c = true) (ha : YlE a = true) (hb : YlE b = true) (hc : st[kc]? = some (.dct kvs)) (C : CV kvs m) (hm : m <= 100) :
 ∃ w kvs', YL [.ref k, tx nm, .ref kc, tx [a, b]] st = .ok (tx w) (st.set kc (.dct kvs')) /\ w.length = ns.length /\ LS a b w /\ CV kvs' (m + ns.length) /\ Has kvs' w := by
 unfold YL Wt
 simp only [s_e]
 show 123
 rw [Zv (Yh hk)]
 show 85
 obtain ⟨ρ', s', f1, w, kv, v5, v6, f2, f3, f4, f5, f6, f7⟩ := YZ (src := YmU k ns.length) (g := Ylv 5) (m := ZZ) (N := ns.length) (ρ := [some (.ref k), some (tx nm), some (.ref kc), some (tx [a, b]), some (tx []), none, none]) (st := st) ns P.int
  (fun i ρ s => ∃ (w : List Nat) (kv : List (Key × P)) (v5 v6 : Option P), ρ = [some (.ref k), some (tx nm), some (.ref kc), some (tx [a, b]), some (tx w), v5, v6] /\ s = st.set kc (.dct kv) /\ w.length = i /\ LS a b w /\ CV kv (m + i) /\ Has kv w) rfl
  (fun i ρ s hi ⟨w, kv, v5, v6, q1, q2, _⟩ => by subst q2; exact nxK (Yh (YN hk hne))) ⟨[], kvs, none, none, rfl, (Yb7 hc).symm, rfl, fun c h => (by cases h), C, fun c h => (by cases h)⟩
  (fun i hi ρ s ⟨w, kv, v5, v6, q1, q2, q3, q4, q5, q6⟩ => by
   subst q1; subst q2
   show 161
   have hs : (st.set kc (O.dct kv))[kc]? = some (.dct kv) := Vv hc
   have hll := q5.len
   unfold ZZ
   show 123
   obtain ⟨c, c1, c2⟩ := Vs (l := nm) (st := st.set kc (O.dct kv)) (i := ns[i] * 48271 % 65521 % (nm.length : Int)) (Int.emod_nonneg _ (by omega)) (Int.emod_lt_of_pos _ (by omega)) (by omega)
   have cu : isUp c = true := hup c (ZBH c1)
   rw [c2]
   show 123
   obtain ⟨d, d1, d2⟩ := ix2 (a := a) (b := b) (s := st.set kc (O.dct kv)) (i := ns[i] / 3 % 2) (by omega) (by omega)
   have dl : YlE d = true := by rcases d2 with rfl | rfl <;> assumption
   have gt : ∀ ρ, ρ[2]? = some (some (.ref kc)) -> ρ[6]? = some (some (tx [c])) -> ∃ n : Int, YnY (Ylr 2) (Ylr 6) (eC (.int 0)) ρ (st.set kc (O.dct kv)) = .ok (.int n) (st.set kc (O.dct kv)) := fun ρ r2 r6 => by
    rw [YiL (n := kc) (kvs := kv) (l := [c]) (z := .int 0) (by unfold Ylr; rw [r2]) (by unfold Ylr; rw [r6]) rfl hs]
    cases z : YlO kv (tkey [c]) with
    | none => exact ⟨0, rfl⟩
    | some p => obtain ⟨n, rfl⟩ := q5.val [c] p z; exact ⟨n, rfl⟩
   obtain ⟨n, g1⟩ := gt [some (.ref k), some (tx nm), some (.ref kc), some (tx [a, b]), some (tx w), some (.int ns[i]), some (tx [c])] rfl rfl
   by_cases z1 : ns[i] % 3 > 0
   ·simp only [decide_eq_true z1]
    show 123
    rw [g1]
    show 123
    by_cases z2 : n < 2
    ·simp only [decide_eq_true z2]
     show 123
     rw [g1]
     show 123
     rw [VZ hs (by omega)]
     show 123
     refine ⟨_, _, rfl, w ++ [c], _, _, _, rfl, ZCf .., by rw [ZAH, ZAV, q3], q4.snoc (.inl cu), q5.put, q6.here⟩
    ·simp only [decide_eq_false z2]
     show 123
     rw [d1]
     show 123
     exact ⟨_, _, rfl, w ++ [d], kv, _, _, rfl, rfl, by rw [ZAH, ZAV, q3], q4.snoc (.inr d2), q5.mono (by omega), q6.low dl⟩
   ·simp only [decide_eq_false z1]
    show 123
    rw [d1]
    show 123
    exact ⟨_, _, rfl, w ++ [d], kv, _, _, rfl, rfl, by rw [ZAH, ZAV, q3], q4.snoc (.inr d2), q5.mono (by omega), q6.low dl⟩)
 show 21
 exact ⟨w, kv, by rw [f3], f4, f5, f6, f7⟩
theorem Ybe {l : List Nat} {a b kc m : Nat} {kvs : List (Key × P)} {st : Yls} (hl : l.length <= 100) (hL : LS a b l) (ha : YlE a = true) (hb : YlE b = true) (hc : st[kc]? = some (.dct kvs)) (C : CV kvs m) (H : Has kvs l) (hm : m <= 100) :
 ∃ w kvs', Yw [tx l, .ref kc, tx [a, b]] st = .ok (tx w) (st.set kc (.dct kvs')) /\ w.length = l.length /\ LS a b w /\ CV kvs' (m + l.length) := by
 have lt : ∀ c, isUp c = true \/ c = a \/ c = b -> c < 128 := fun c h => by
  rcases h with h | rfl | rfl
  ·rw [Wu] at h; omega
  ·rw [ZO] at ha; omega
  ·rw [ZO] at hb; omega
 have a128 := lt a (.inr (.inl rfl))
 unfold Yw Zo
 simp only [s_e]
 show 123
 rw [YjZ (l := l) (st1 := st) rfl (by omega)]
 show 123
 obtain ⟨ρ', s', f1, w, kv, v4, f2, f3, f4, f5, f6, f7⟩ := YZ (src := Ynt (sT l.reverse)) (g := Ylv 4) (m := Zc) (N := l.reverse.length) (ρ := [some (tx l), some (.ref kc), some (tx [a, b]), some (tx []), none]) (st := st) l.reverse (fun c => tx [c])
  (fun i ρ s => ∃ (w : List Nat) (kv : List (Key × P)) (v4 : Option P), ρ = [some (tx l), some (.ref kc), some (tx [a, b]), some (tx w), v4] /\ s = st.set kc (.dct kv) /\ w.length = i /\ LS a b w /\ CV kv (m + i) /\ Has kv l) rfl
  (fun i ρ s hi _ => nxS hi) ⟨[], kvs, none, rfl, (Yb7 hc).symm, rfl, fun c h => (by cases h), C, H⟩
  (fun i hi ρ s ⟨w, kv, v4, q1, q2, q3, q4, q5, q6⟩ => by
   subst q1; subst q2
   show 161
   have hs : (st.set kc (O.dct kv))[kc]? = some (.dct kv) := Vv hc
   have hll := q5.len
   have hi' : i < l.length := by simpa using hi
   obtain ⟨c, hcm⟩ : ∃ c, l.reverse[i] = c := ⟨_, rfl⟩
   have hcl : c ∈ l := by rw [<- hcm]; exact List.mem_reverse.mp (ZAu hi)
   have c128 := lt c (hL c hcl)
   have i0 : ixP (tx [a, b]) (.int 0) (st.set kc (O.dct kv)) = some (tx [a], st.set kc (O.dct kv)) := WB (i := 0) rfl (by simp)
   rw [hcm]
   unfold Zc
   show 123
   rw [WA c128]
   show 123
   cases hu : isUp c with
   | true =>
    obtain ⟨n, hv⟩ := q6 c hcl hu
    show 123
    rw [YgI hs hv]
    show 123
    by_cases z : n = 2
    ·subst z
     show 123
     rw [i0]
     show 123
     rw [WA a128, Zy ha]
     show 123
     exact ⟨_, _, rfl, w ++ [a], kv, _, rfl, rfl, by rw [ZAH, ZAV, q3], q4.snoc (.inr (.inl rfl)), q5.mono (by omega), q6⟩
    ·have zb : (n == 2) = false := by simpa using z
     simp only [zb]
     show 123
     rw [WA c128, hu]
     show 123
     rw [VZ hs (by omega)]
     show 123
     exact ⟨_, _, rfl, w ++ [c], _, _, rfl, ZCf .., by rw [ZAH, ZAV, q3], q4.snoc (.inl hu), q5.put, q6.put⟩
   | false =>
    show 123
    rw [WA c128, hu]
    show 123
    exact ⟨_, _, rfl, w ++ [c], kv, _, rfl, rfl, by rw [ZAH, ZAV, q3], q4.snoc (hL c hcl), q5.mono (by omega), q6⟩)
 try rw [ZBa] at f1
 try rw [ZBa]
 show 21
 rw [ZBa] at f4 f6
 exact ⟨w, kv, by rw [f3], f4, f5, f6⟩
def Ymp (q : Nat) (a b : Yls) : Prop := ∀ (k : Nat) (o : O), k ≠ q -> a[k]? = some o -> b[k]? = some o
theorem Ymp.refl {q : Nat} {a : Yls} : Ymp q a a := fun _ _ _ h => h
theorem Ymp.trans {q : Nat} {a b c : Yls} (h : Ymp q a b) (g : Ymp q b c) : Ymp q a c := fun k o z e => g k o z (h k o z e)
theorem Ymp.set {q : Nat} {a : Yls} {o : O} : Ymp q a (a.set q o) := fun k o' z e => by rw [ZAP (ZA1 z)]; exact e
theorem Yfq {k : Nat} {cs ns : List Int} {v1 v2 v3 : Option P} {k4 : Nat} {tl : Rho} {st : Yls} (hk : st[k]? = some (.ro (cs.map P.int))) (h40 : ns.length = 24) (h4 : st[k4]? = some (.lst (ns.map P.int))) (hne : k ≠ k4) {n : Nat} (hn : n <= 20) (hc : n = 0 \/ n + 6 <= cs.length) :
 ∃ (ns' : List Int) (v5 : Option P) (s' : Yls), Ymg (YmG 0 n) (Ylv 5) Y6 n 0 ([some (.ref k), v1, v2, v3, some (.ref k4), none] ++ tl) st = .nx ([some (.ref k), v1, v2, v3, some (.ref k4), v5] ++ tl) s' /\ ns'.length = 24 /\ s'[k4]? = some (.lst (ns'.map P.int)) /\ Ymp k4 st s' := by
 obtain ⟨ρ', s', f1, ns', v5, f2, f3, f4, f5⟩ := YZ (src := YmG 0 n) (g := Ylv 5) (m := Y6) (N := n) (ρ := [some (.ref k), v1, v2, v3, some (.ref k4), none] ++ tl) (st := st) (List.range n) (fun (k : Nat) => P.int (0 + k))
  (fun i ρ s => ∃ (ns' : List Int) (v5 : Option P), ρ = [some (.ref k), v1, v2, v3, some (.ref k4), v5] ++ tl /\ ns'.length = 24 /\ s[k4]? = some (.lst (ns'.map P.int)) /\ Ymp k4 st s) (by simp) (fun i ρ s hi _ => nxR)
  ⟨ns, none, rfl, h40, h4, Ymp.refl⟩
  (fun i hi ρ s ⟨ns', v5, q1, q2, q3, q4⟩ => by
   subst q1
   have hi' : i < n := by simpa using hi
   have ei : (List.range n)[i] = i := by simp
   rw [ei]
   show 161
   have gk := q4 k _ hne hk
   have hks : k4 < s.length := (ZAD.mp q3).1
   have hci : 6 + i < cs.length := by omega
   unfold Y6
   show 123
   rw [YdC gk (i := 6 + (0 + (i : Int))) (by omega) (p := .int cs[6 + i]) (by
    rw [show (6 + (0 + (i : Int))).toNat = 6 + i by omega, ZAX, ZAO hci]; rfl)]
   show 123
   rw [YeY q3 (by omega) (by rw [ZAJ]; omega)]
   refine ⟨_, _, rfl, ns'.set (0 + (i : Int)).toNat (cs[6 + i] % 2147483647), _, rfl, by rw [ZBs, q2], ?_, q4.trans Ymp.set⟩
   rw [ZAU hks, List.map_set])
 exact ⟨ns', v5, s', by rw [f1, f2], f3, f4, f5⟩
theorem ix24 {ns : List Int} {k : Nat} {s : Yls} (h : s[k]? = some (.lst (ns.map P.int))) (h24 : ns.length = 24) {i : Int} (h0 : 0 <= i) (h1 : i < 24) : ixP (.ref k) (.int i) s = some (.int (ns.getD i.toNat 0), s) :=
 W6 h h0 (by
  have hi : i.toNat < ns.length := by omega
  rw [ZAX, ZAO hi, ZBC, ZAO hi]
  rfl)
theorem YfP (ns : List Int) (a c : Nat) : ∃ ms : List Int, Ym2 (ns.map P.int) (some (a : Int)) (some (c : Int)) = ms.map P.int /\ ms.length <= c - a := by
 unfold Ym2
 rw [HT.sIx_nat, HT.sIx_nat, <- List.map_drop, <- List.map_take]
 show 161
 rw [ZAm, ZBL]; omega
theorem sl5 {s : Yls} {k4 : Nat} {ns : List Int} {lo x : Int} (h4 : s[k4]? = some (.lst (ns.map P.int))) (h : ns.length = 24) (h0 : 0 <= lo) : ∃ ms : List Int, slP (.ref k4) (some lo) (some (lo + x % 6)) s = some (.ref s.length, s ++ [.lst (ms.map P.int)]) /\ ms.length <= 5 := by
 obtain ⟨A, hA⟩ : ∃ A : Nat, lo = (A : Int) := ⟨lo.toNat, by omega⟩
 obtain ⟨C, hC⟩ : ∃ C : Nat, lo + x % 6 = (C : Int) := ⟨(lo + x % 6).toNat, by omega⟩
 obtain ⟨ms, m1, m2⟩ := YfP ns A C
 refine ⟨ms, ?_, by omega⟩
 rw [YgE h4 (by rw [ZAJ]; omega), hC, hA, m1]
def OkS (a b : Nat) (tb : Sys) : Prop := ∀ e ∈ tb, e.1.length <= 5 /\ e.2.length <= 5 /\ LS a b e.1 /\ LS a b e.2
theorem OkS.snoc {a b : Nat} {tb : Sys} {l r : List Nat} (h : OkS a b tb) (hl : l.length <= 5) (hr : r.length <= 5) (al : LS a b l) (ar : LS a b r) : OkS a b (tb ++ [(l, r)]) := fun e he => by
 rcases ZAf.mp he with z | z
 ·exact h e z
 ·rw [ZAg.mp z]; exact ⟨hl, hr, al, ar⟩
def YnX (p q : Nat) (a b : Yls) : Prop := ∀ (k : Nat) (o : O), k ≠ p -> k ≠ q -> a[k]? = some o -> b[k]? = some o
section
variable {ns : List Int} {nm : List Nat} {a b : Nat} {k4 k6 k7 : Nat} {v0 v5 : Option P} {first : Int}
theorem Yhd {st : Yls} (h24 : ns.length = 24) (h1 : 1 <= nm.length) (h3 : nm.length <= 3) (hup : ∀ c ∈ nm, isUp c = true) (ha : YlE a = true) (hb : YlE b = true) (h4 : st[k4]? = some (.lst (ns.map P.int))) (h6 : st[k6]? = some (.dct [])) (h7 : st[k7]? = some (.lst [])) (h46 : k4 ≠ k6) (h47 : k4 ≠ k7) (h67 : k6 ≠ k7) {m : Nat} (hm : m <= 2) :
 ∃ (tb : Sys) (v8 v9 v10 : Option P) (s' : Yls), Ymg (YmG 0 m) (Ylv 8) Y9 m 0 [v0, some (.int first), some (tx nm), some (tx [a, b]), some (.ref k4), v5, some (.ref k6), some (.ref k7), none, none, none] st = .nx [v0, some (.int first), some (tx nm), some (tx [a, b]), some (.ref k4), v5, some (.ref k6), some (.ref k7), v8, v9, v10] s' /\ tb.length = m /\ OkS a b tb /\ s'[k7]? = some (.lst (tb.map YlR)) /\ YnX k6 k7 st s' := by
 obtain ⟨ρ', s', f1, tb, kv, v8, v9, v10, f2, f3, f4, f5, f6, f7, f8, f9⟩ := YZ (src := YmG 0 m) (g := Ylv 8) (m := Y9) (N := m) (ρ := [v0, some (.int first), some (tx nm), some (tx [a, b]), some (.ref k4), v5, some (.ref k6), some (.ref k7), none, none, none]) (st := st) (List.range m) (fun (k : Nat) => P.int (0 + k))
  (fun i ρ s => ∃ (tb : Sys) (kv : List (Key × P)) (v8 v9 v10 : Option P), ρ = [v0, some (.int first), some (tx nm), some (tx [a, b]), some (.ref k4), v5, some (.ref k6), some (.ref k7), v8, v9, v10] /\ tb.length = i /\ OkS a b tb /\ s[k4]? = some (.lst (ns.map P.int)) /\ s[k6]? = some (.dct kv) /\ CV kv (10 * i) /\ s[k7]? = some (.lst (tb.map YlR)) /\ YnX k6 k7 st s) (by simp) (fun i ρ s hi _ => nxR)
  ⟨[], [], none, none, none, rfl, rfl, fun e h => (by cases h), h4, h6, ⟨fun l p h => (by cases h), ZAI _⟩, h7, fun k o _ _ h => h⟩
  (fun i hi ρ s ⟨tb, kv, v8, v9, v10, q1, q2, q3, q4, q5, q6, q7, q8⟩ => by
   subst q1
   have hi' : i < m := by simpa using hi
   have ei : (List.range m)[i] = i := by simp
   rw [ei]
   show 161
   have l4 := (ZAD.mp q4).1
   have l6 := (ZAD.mp q5).1
   have l7 := (ZAD.mp q7).1
   unfold Y9
   show 123
   rw [ix24 q4 h24 (i := 20 + (0 + (i : Int))) (by omega) (by omega)]
   show 123
   generalize ns.getD (20 + (0 + (i : Int))).toNat 0 = x
   obtain ⟨ms, m1, m2⟩ := sl5 (s := s) (lo := 10 * (0 + (i : Int))) (x := x) q4 h24 (by omega)
   rw [m1]
   show 123
   obtain ⟨w, kv1, w1, w2, w3, w4, w5⟩ := YbZ (k := s.length) (kc := k6) (m := 10 * i) (st := s ++ [.lst (ms.map P.int)]) Yo (by omega) (by omega) h1 h3 hup ha hb (Yly.one.get q5) q6 (by omega)
   rw [w1]
   show 123
   have r6 : ((s ++ [O.lst (ms.map P.int)]).set k6 (.dct kv1))[k6]? = some (.dct kv1) := Vv (Yly.one.get q5)
   have r4 := YN (k := k6) (o' := O.dct kv1) ((Yly.one : Yly s (s ++ [O.lst (ms.map P.int)])).get q4) h46
   have r7 := YN (k := k6) (o' := O.dct kv1) ((Yly.one : Yly s (s ++ [O.lst (ms.map P.int)])).get q7) (ZA1 h67)
   have r8 : YnX k6 k7 st ((s ++ [O.lst (ms.map P.int)]).set k6 (.dct kv1)) := fun k o a1 a2 h => YN (Yly.one.get (q8 k o a1 a2 h)) a1
   generalize (s ++ [O.lst (ms.map P.int)]).set k6 (.dct kv1) = S at r4 r6 r7 r8 ⊢
   have fin : ∀ (w' : List Nat) (kv2 : List (Key × P)) (S' : Yls), S'[k4]? = some (.lst (ns.map P.int)) -> S'[k6]? = some (.dct kv2) -> S'[k7]? = some (.lst (tb.map YlR)) -> YnX k6 k7 st S' -> w'.length <= 5 -> LS a b w' -> CV kv2 (10 * (i + 1)) ->
    ∃ ρ' s', (Ym8 (eM YmW Yms (Ylr 7) (Ylt (Yoj (Ylt (Ylr 9) (Ylt (Ylr 10) YlA))) YlA))) [v0, some (.int first), some (tx nm), some (tx [a, b]), some (.ref k4), v5, some (.ref k6), some (.ref k7), some (.int (0 + (i : Int))), some (tx w), some (tx w')] S' = .nx ρ' s' /\
    ∃ (tb : Sys) (kv : List (Key × P)) (v8 v9 v10 : Option P), ρ' = [v0, some (.int first), some (tx nm), some (tx [a, b]), some (.ref k4), v5, some (.ref k6), some (.ref k7), v8, v9, v10] /\ tb.length = i + 1 /\ OkS a b tb /\ s'[k4]? = some (.lst (ns.map P.int)) /\ s'[k6]? = some (.dct kv) /\ CV kv (10 * (i + 1)) /\ s'[k7]? = some (.lst (tb.map YlR)) /\ YnX k6 k7 st s' := fun w' kv2 S' t4 t6 t7 t8 t9 t10 t11 => by
    show 123
    rw [WJ t7]
    show 123
    rw [Wo t7 (by rw [ZAJ]; omega)]
    show 123
    refine ⟨_, _, rfl, tb ++ [(w, w')], kv2, _, _, _, rfl, by rw [ZAH, ZAV, q2], q3.snoc (by omega) t9 w3 t10, YN t4 h47, YN t6 h67, t11, ?_, fun k o a1 a2 h => YN (t8 k o a1 a2 h) a2⟩
    rw [Vv t7, ZAS]
    rfl
   by_cases z : first / 6 % 2 = 0
   ·simp only [z]
    show 123
    obtain ⟨w', kv2, y1, y2, y3, y4⟩ := Ybe (l := w) (kc := k6) (m := 10 * i + ms.length) (st := S) (by omega) w3 ha hb r6 w4 w5 (by omega)
    rw [y1]
    show 123
    exact fin w' kv2 _ (YN r4 h46) (Vv r6) (YN r7 (ZA1 h67)) (fun k o a1 a2 h => YN (r8 k o a1 a2 h) a1) (by omega) y3 (y4.mono (by omega))
   ·have zb : (first / 6 % 2 == 0) = false := by simpa using z
    simp only [zb]
    show 123
    rw [ix24 r4 h24 (i := 22 + (0 + (i : Int))) (by omega) (by omega)]
    show 123
    generalize ns.getD (22 + (0 + (i : Int))).toNat 0 = x2
    obtain ⟨ms2, n1, n2⟩ := sl5 (s := S) (lo := 10 * (0 + (i : Int)) + 5) (x := x2) r4 h24 (by omega)
    rw [n1]
    show 123
    have lS := (ZAD.mp r6).1
    obtain ⟨w', kv2, y1, y2, y3, y4, y5⟩ := YbZ (k := S.length) (kc := k6) (m := 10 * i + ms.length) (st := S ++ [.lst (ms2.map P.int)]) Yo (by omega) (by omega) h1 h3 hup ha hb (Yly.one.get r6) w4 (by omega)
    rw [y1]
    show 123
    exact fin w' kv2 _ (YN (Yly.one.get r4) h46) (Vv (Yly.one.get r6)) (YN (Yly.one.get r7) (ZA1 h67)) (fun k o a1 a2 h => YN (Yly.one.get (r8 k o a1 a2 h)) a1) (by omega) y3 (y4.mono (by omega)))
 rw [ZBB] at f3
 exact ⟨tb, v8, v9, v10, s', by rw [f1, f2], f3, f4, f8, f9⟩
end
theorem YcO {k : Nat} {cs : List Int} {st : Yls} (hk : st[k]? = some (.ro (cs.map P.int))) (hcs : cs.length <= 63) : ∃ (tb : Sys) (a b : Nat) (s' : Yls), YE [.ref k] st = .ok (.tup [.tup (tb.map YlR), tx [a, b]]) s' /\ OkS a b tb /\ tb.length <= 2 /\ YlE a = true /\ YlE b = true /\ s'[k]? = some (.ro (cs.map P.int)) := by
 have hkl : k < st.length := (ZAD.mp hk).1
 unfold YE ZH
 generalize hT : (YlF (YmB _ _ _) _ : MS) = T
 show 123
 rw [show Yk [.ref k, .int 0] st = _ from Vl 0 hk]
 show 123
 rw [show Yk [.ref k, .int 1] st = _ from Vl 1 hk]
 show 123
 generalize cs.getD 0 0 = first
 generalize cs.getD 1 0 = sec
 obtain ⟨q, hq, hq3, hq1⟩ : ∃ q : Nat, 1 + first % 3 = (q : Int) /\ q <= 3 /\ 1 <= q := ⟨(1 + first % 3).toNat, by omega, by omega, by omega⟩
 rw [hq]
 obtain ⟨nm, s1, a1, a2, a3, a4⟩ := names3 (cell := sec) (n := q) (st := st) hq3
 rw [a1]
 show 123
 have hk1 := a2.get hk
 rw [show Yk [.ref k, .int 1] s1 = _ from Vl 1 hk1]
 show 123
 obtain ⟨a, b, b1, b2, b3⟩ := two (cell := cs.getD 1 0 / 312) (st := s1)
 rw [b1]
 show 123
 rw [show Yk [.ref k, .int 2] s1 = _ from Vl 2 hk1]
 show 123
 obtain ⟨ns, c1, c2⟩ := mixed (cell := cs.getD 2 0) (st := s1)
 rw [c1]
 show 84
 have hk2 : (s1 ++ [O.lst (ns.map P.int)])[k]? = some (.ro (cs.map P.int)) := Yly.one.get hk1
 have h1l := a2.len
 generalize hT : (YlF (YlS 6 _) _ : MS) = T
 show 123
 rw [YbO hk2]
 show 123
 obtain ⟨n, hn, hn18, hnc⟩ : ∃ n : Nat, (if (20 : Int) < ((cs.map P.int).length : Int) - 6 then (20 : Int) else ((cs.map P.int).length : Int) - 6).toNat = n /\ n <= 20 /\ (n = 0 \/ n + 6 <= cs.length) := ⟨_, rfl, by split <;> omega, by rw [ZAJ]; split <;> omega⟩
 rw [hn]
 obtain ⟨ns', v5, s2, d1, d2, d3, d4⟩ := Yfq (k := k) (cs := cs) (ns := ns) (v1 := some (.int first)) (v2 := some (tx nm)) (v3 := some (tx [a, b])) (k4 := s1.length) (tl := [none, none, none, none, none]) (st := s1 ++ [O.lst (ns.map P.int)]) hk2 c2 Yo (by omega) hn18 hnc
 rw [show ([some (.ref k), some (.int first), some (tx nm), some (tx [a, b]), some (.ref s1.length), none, none, none, none, none, none] : Rho) = [some (.ref k), some (.int first), some (tx nm), some (tx [a, b]), some (.ref s1.length), none] ++ [none, none, none, none, none] from rfl, d1]
 show 84
 have hk3 := d4 k _ (by omega) hk2
 have k4l : s1.length < s2.length := (ZAD.mp d3).1
 have k0l : k < s2.length := (ZAD.mp hk3).1
 generalize hT : (sRet _ : MS) = T
 show 123
 obtain ⟨m, hm, hm2⟩ : ∃ m : Nat, 1 + first / 3 % 2 = (m : Int) /\ m <= 2 := ⟨(1 + first / 3 % 2).toNat, by omega, by omega⟩
 rw [hm]
 show 123
 try rw [ZA8]
 have gB : Yly s2 (s2 ++ [.dct []] ++ [.lst []]) := Yly.one.trans Yly.one
 obtain ⟨tb, v8, v9, v10, s3, e1, e2, e3, e4, e5⟩ := Yhd (ns := ns') (nm := nm) (a := a) (b := b) (k4 := s1.length) (k6 := s2.length) (k7 := (s2 ++ [O.dct []]).length) (v0 := some (.ref k)) (v5 := v5) (first := first) (st := s2 ++ [.dct []] ++ [.lst []]) d2 (by omega) (by omega) a4 b2 b3 (gB.get d3) (Yly.one.get Yo) Yo (by omega) (by rw [ZAH]; omega) (by rw [ZAH]; show s2.length ≠ s2.length + 1; omega) hm2
 rw [e1]
 subst hT
 refine ⟨tb, a, b, s3, ?_, e3, by omega, b2, b3, e5 k _ (by omega) (by rw [ZAH]; omega) (gB.get hk3)⟩
 show 123
 simp only [Ymy, Wc (Yh e4)]
 show 123
def kwd (U : List Nat) (w : Nat -> List Nat) : List (Key × P) := U.map fun u => (tkey [u], tx (w u))
theorem YjB {U : List Nat} {w : Nat -> List Nat} {c : Nat} (h : c ∈ U) : YlO (kwd U w) (tkey [c]) = some (tx (w c)) := by
 unfold YlO kwd
 induction U with
 | nil => cases h
 | cons u U ih =>
  by_cases e : u = c
  ·subst e; simp
  ·have hc : c ∈ U := by
    rcases ZAZ.mp h with z | z
    ·exact absurd z.symm e
    ·exact z
   rw [List.map_cons, List.find?_cons_of_neg (by simp; intro z; exact e (tkey1 z))]
   exact ih hc
theorem Ydn {U : List Nat} {w : Nat -> List Nat} {c : Nat} (h : c ∉ U) : YlO (kwd U w) (tkey [c]) = none := by
 unfold YlO kwd
 rw [ZBN, ZA3]
 intro x hx
 obtain ⟨u, hu, rfl⟩ := ZAb.mp hx
 simp
 intro z
 rw [tkey1 z] at hu
 exact h hu
def fl (U : List Nat) (w : Nat -> List Nat) (c : Nat) : List Nat := if c ∈ U then w c else [c]
theorem JN {U : List Nat} {w : Nat -> List Nat} (hw : ∀ u, (w u).length <= 20) : ∀ l : List Nat, (l.flatMap (fl U w)).length <= 20 * l.length
 | [] => ZAI _
 | c :: l => by
  have h1 : (fl U w c).length <= 20 := by
   unfold fl
   split
   ·exact hw c
   ·exact (by decide : 1 <= 20)
  have h2 := JN hw l (U := U)
  rw [ZAx, ZAH, ZA4]
  omega
theorem J6 {U : List Nat} {w : Nat -> List Nat} {l : List Nat} {k : Nat} {st : Yls} (hk : st[k]? = some (.dct (kwd U w))) (hl : l.length <= 1000) (hb : (l.flatMap (fl U w)).length <= 100000) :
 Yz [tx l, .ref k] st = .ok (tx (l.flatMap (fl U w))) st := by
 unfold Yz ZF
 simp only [ZM]
 show 126
 rw [ZP l (fun c => tx [c]) (fun c => tx (fl U w c)) rfl (fun i hi => nxS hi) (by omega) (fun c hc => ⟨_, rfl, by
  rw [YiL (d := Ylr 1) (k := Ylr 0) (x := Ylr 0) (n := k) (kvs := kwd U w) (l := [c]) (z := tx [c]) rfl rfl rfl hk]
  by_cases h : c ∈ U
  ·rw [YjB h, show fl U w c = w c from ZAG h]; rfl
  ·rw [Ydn h, show fl U w c = [c] from ZAF h]; rfl⟩)]
 show 126
 rw [show (l.map fun c => tx (fl U w c)) = (l.map (fl U w)).map tx by rw [ZAq]; rfl, Wy (by rw [<- List.flatMap_def]; exact ZAR hb (by omega)), <- List.flatMap_def]
 rfl
def Alike (U : List Nat) (w : Nat -> List Nat) (tb : Sys) : Prop := ∀ e ∈ tb, e.1.flatMap (fl U w) = e.2.flatMap (fl U w)
theorem Yev {tb : Sys} {U : List Nat} {w : Nat -> List Nat} {kw : Nat} {st : Yls} (hk : st[kw]? = some (.dct (kwd U w))) (hw : ∀ u, (w u).length <= 20) (hb : ∀ e ∈ tb, e.1.length <= 5 /\ e.2.length <= 5) :
 ∃ t : Bool, Yt [.tup (tb.map YlR), .ref kw] st = .ok (.bl t) st /\ (t = true ↔ Alike U w tb) := by
 unfold Yt Z3
 show 123
 try rw [ZAJ]
 have out := YeZ (src := Ynd (tb.map YlR)) (g := Ymb 2 (YlP (Ylv 2) (YlP (Ylv 3) Ymo))) (m := Zk) (N := tb.length) (ρ := [some (.tup (tb.map YlR)), some (.ref kw), none, none]) (st := st) tb YlR (fun e => !decide (e.1.flatMap (fl U w) = e.2.flatMap (fl U w))) (fun _ => .bl false)
  (fun ρ s => ∃ v2 v3, ρ = [some (.tup (tb.map YlR)), some (.ref kw), v2, v3] /\ s = st) (fun s => s = st) rfl (fun i ρ s hi _ => nxL) ⟨none, none, rfl, rfl⟩
  (fun j hj ρ s _ ⟨v2, v3, q1, q2⟩ => by
   subst q1; subst q2
   obtain ⟨b1, b2⟩ := hb tb[j] (ZAu hj)
   have l1 := JN hw (U := U) tb[j].1
   have l2 := JN hw (U := U) tb[j].2
   refine ⟨[some (.tup (tb.map YlR)), some (.ref kw), some (tx tb[j].1), some (tx tb[j].2)], rfl, ?_⟩
   have run : Zk [some (.tup (tb.map YlR)), some (.ref kw), some (tx tb[j].1), some (tx tb[j].2)] s = if decide (tb[j].1.flatMap (fl U w) = tb[j].2.flatMap (fl U w)) = true then .nx [some (.tup (tb.map YlR)), some (.ref kw), some (tx tb[j].1), some (tx tb[j].2)] s else .rt (.bl false) s := by
    unfold Zk
    show 123
    rw [J6 hk (by omega) (by omega)]
    show 123
    rw [J6 hk (by omega) (by omega)]
    show 123
    try rw [YdH]
    show 123
    cases decide (tb[j].1.flatMap (fl U w) = tb[j].2.flatMap (fl U w)) <;> rfl
   constructor
   ·intro z
    have z' : decide (tb[j].1.flatMap (fl U w) = tb[j].2.flatMap (fl U w)) = false := by simpa using z
    rw [run, z']
    exact ⟨s, rfl, rfl⟩
   ·intro z
    have z' : decide (tb[j].1.flatMap (fl U w) = tb[j].2.flatMap (fl U w)) = true := by simpa using z
    rw [run, z']
    exact ⟨_, s, rfl, _, _, rfl, rfl⟩)
 rcases out with ⟨e, s', o1, o2, o3⟩ | ⟨o1, ρ', s', o2, v2, v3, o3, o4⟩
 ·rw [o2, o3]
  show 123
  refine ⟨false, rfl, fun z => (by cases z), fun A => ?_⟩
  have m1 := List.mem_of_find?_eq_some o1
  have m2 := List.find?_some o1
  rw [ZAh (A e m1)] at m2
  cases m2
 ·rw [o2, o3, o4]
  show 123
  refine ⟨true, rfl, fun _ e he => ?_, fun _ => rfl⟩
  have := ZA3.mp o1 e he
  show 167
def offs (len : Nat -> Nat) (N : List Nat) (i : Nat) : Nat := ((N.take i).map len).sum
theorem YaN {len : Nat -> Nat} {N : List Nat} {i : Nat} (hi : i < N.length) : offs len N (i + 1) = offs len N i + len N[i] := by
 unfold offs
 rw [ZAv, ZAO hi, ZAS, List.sum_append]
 rfl
theorem YdF {len : Nat -> Nat} {N : List Nat} (hl : ∀ u, len u <= 20) : ∀ i, offs len N i <= 20 * i
 | 0 => ZAI _
 | i + 1 => by
  have ih := YdF hl (N := N) i
  by_cases hi : i < N.length
  ·rw [YaN hi]; have := hl N[i]; omega
  ·have : offs len N (i + 1) = offs len N i := by unfold offs; rw [List.take_of_length_le (by omega), List.take_of_length_le (by omega)]
   omega
def wOf (len : Nat -> Nat) (N T : List Nat) (u : Nat) : List Nat := (T.drop (offs len N (N.idxOf u))).take (len u)
theorem Yiz {kvs : List (Key × P)} {k : Key} {v : P} (h : YlO kvs k = none) : Yma kvs k v = kvs ++ [(k, v)] := by
 unfold Yma
 rw [ZAF (by rw [valP_none.mp h]; exact ZAN)]
theorem Yiq {N T : List Nat} {len : Nat -> Nat} {kn kl : Nat} {st : Yls} (nd : N.Nodup) (h26 : N.length <= 26) (hl : ∀ u, len u <= 20) (hT : T.length <= 1000) (h1 : st[kn]? = some (.lst (N.map fun u => tx [u]))) (h2 : st[kl]? = some (.lst (N.map fun u => .int (len u : Nat)))) :
 ∃ s', YC [tx T, .ref kn, .ref kl] st = .ok (.ref st.length) s' /\ Yly st s' /\ s'[st.length]? = some (.dct (kwd N (wOf len N T))) := by
 unfold YC WX
 show 123
 rw [Ygz (Yh (Yly.one.get h1)) (Yh (Yly.one.get h2))]
 show 85
 obtain ⟨ρ', s', f1, v5, v6, f2, f3, f4⟩ := YZ (src := Ynu kn kl N.length) (g := Ymb 2 (YlP (Ylv 5) (YlP (Ylv 6) Ymo))) (m := Wl) (N := N.length) (ρ := [some (tx T), some (.ref kn), some (.ref kl), some (.ref st.length), some (.int 0), none, none]) (st := st ++ [.dct []]) N (fun u => .tup [tx [u], .int (len u : Nat)])
  (fun i ρ s => ∃ v5 v6, ρ = [some (tx T), some (.ref kn), some (.ref kl), some (.ref st.length), some (.int (offs len N i : Nat)), v5, v6] /\ Yly st s /\ s[st.length]? = some (.dct (kwd (N.take i) (wOf len N T)))) rfl
  (fun i ρ s hi ⟨_, _, _, g, _⟩ => by
   rw [Ybu (Yh (g.get h1)) (Yh (g.get h2))]
   unfold Ymi
   rw [ZAX, ZAX]
   cases N[i]? <;> rfl)
  ⟨none, none, rfl, Yly.one, Yo⟩
  (fun i hi ρ s ⟨v5, v6, q1, q2, q3⟩ => by
   show 32
   have h20 := hl N[i]
   have ho := YdF hl (N := N) i
   have hks : st.length < s.length := (ZAD.mp q3).1
   unfold Wl
   show 123
   rw [show ((offs len N i : Nat) : Int) + ((len N[i] : Nat) : Int) = ((offs len N i + len N[i] : Nat) : Int) from rfl, Ygs (by omega) (by omega)]
   show 123
   rw [VZ q3 (by unfold kwd; rw [List.length_map, List.length_take]; omega)]
   show 123
   have hnot : N[i] ∉ N.take i := fun z => by
    rw [<- ZBG i N, ZCA] at nd
    refine nd.2.2 _ z N[i] ?_ rfl
    rw [ZCH hi]
    exact ZAQ
   have hidx : N.idxOf N[i] = i := nd.idxOf_getElem i hi
   refine ⟨_, _, rfl, some (tx [N[i]]), some (.int (len N[i] : Nat)), ?_, Yly.set q2 (ZAI _), ?_⟩
   ·rw [YaN hi]; rfl
   ·rw [ZAU hks, Yiz (Ydn hnot)]
    have e : wOf len N T N[i] = (T.drop (offs len N i)).take (offs len N i + len N[i] - offs len N i) := by
     unfold wOf
     rw [hidx, Nat.add_sub_cancel_left]
    rw [<- e]
    unfold kwd
    rw [ZAv, ZAO hi, ZAS]
    rfl)
 show 21
 rw [ZAs] at f4
 exact ⟨s', rfl, f3, f4⟩
def words2 (a b : Nat) : Nat -> List (List Nat)
 | 0 => [[]]
 | n + 1 => (words2 a b n).map (· ++ [a]) ++ (words2 a b n).map (· ++ [b])
theorem WZ {a b : Nat} : ∀ n, (words2 a b n).length = 2 ^ n
 | 0 => rfl
 | n + 1 => by
  unfold words2
  rw [ZAH, ZAJ, ZAJ, WZ n, Nat.pow_succ]
  omega
theorem Zm {a b : Nat} : ∀ (n : Nat) (w : List Nat), w ∈ words2 a b n -> w.length = n
 | 0, w, h => by rw [ZAg.mp h]; rfl
 | n + 1, w, h => by
  unfold words2 at h
  rcases ZAf.mp h with z | z
  ·obtain ⟨v, hv, rfl⟩ := ZAb.mp z
   rw [ZAH, Zm n v hv]; rfl
  ·obtain ⟨v, hv, rfl⟩ := ZAb.mp z
   rw [ZAH, Zm n v hv]; rfl
theorem J0 {a b : Nat} : ∀ (n : Nat) (w : List Nat), w.length = n -> (∀ c ∈ w, c = a \/ c = b) -> w ∈ words2 a b n
 | 0, w, h, _ => by rw [ZBw.mp h]; exact ZAg.mpr rfl
 | n + 1, w, h, hc => by
  have hne : w ≠ [] := fun z => by rw [z] at h; cases h
  have e := List.dropLast_concat_getLast hne
  have m1 : w.dropLast ∈ words2 a b n := J0 n _ (by rw [List.length_dropLast, h]; rfl) fun c z => hc c ((List.dropLast_sublist w).subset z)
  unfold words2
  refine ZAf.mpr ?_
  rcases hc (w.getLast hne) (List.getLast_mem hne) with z | z
  ·exact .inl (ZAb.mpr ⟨w.dropLast, m1, by rw [<- z]; exact e⟩)
  ·exact .inr (ZAb.mpr ⟨w.dropLast, m1, by rw [<- z]; exact e⟩)
theorem Ygh {n : Nat} (h : n <= 6) : 2 ^ n <= 64 := ZAR (Nat.pow_le_pow_right (by decide) h) (by decide)
theorem YaQ {a b j c k : Nat} {W : List (List Nat)} {st : Yls} (hj : [a, b][j]? = some c) (hk : st[k]? = some (.lst (W.map tx))) (hW : W.length <= 1000) (hw : ∀ w ∈ W, w.length <= 1000) :
 YlX (YmU k W.length) (Ylv 0) Ymd (Ylw Yl2 (Ylr 0) (Ylw ixP (Ylr 1) (eC (.int (j : Nat))))) [none, some (tx [a, b])] W.length 0 st [] = .ok ((W.map (· ++ [c])).map tx) st := by
 rw [ZP W tx (fun w => tx (w ++ [c])) rfl (fun i _ => nxK (Yh hk)) (by omega) (fun w hw' => ⟨_, rfl, by
  have := hw w hw'
  show 123
  rw [WB hj (by simp)]
  try walk_at "ev"⟩)]
 rw [ZAq]
 rfl
theorem Yed {a b n : Nat} {st : Yls} (hn : n <= 6) : ∃ k s', YS [tx [a, b], .int n] st = .ok (.ref k) s' /\ Yly st s' /\ s'[k]? = some (.lst ((words2 a b n).map tx)) := by
 unfold YS Z0
 simp only [s_e]
 show 123
 try rw [ZA8]
 obtain ⟨ρ', s', f1, k, v3, f2, f3, f4⟩ := YZ (src := YmG 0 n) (g := Ylv 3) (m := ZE) (N := n) (ρ := [some (tx [a, b]), some (.int n), some (.ref st.length), none]) (st := st ++ [.lst [tx []]]) (List.range n) (fun (k : Nat) => P.int (0 + k))
  (fun i ρ s => ∃ (k : Nat) (v3 : Option P), ρ = [some (tx [a, b]), some (.int n), some (.ref k), v3] /\ Yly st s /\ s[k]? = some (.lst ((words2 a b i).map tx))) (by simp) (fun i ρ s hi _ => nxR) ⟨st.length, none, rfl, Yly.one, Yo⟩
  (fun i hi ρ s ⟨k, v3, q1, q2, q3⟩ => by
   subst q1
   have hi' : i < n := by simpa using hi
   show 161
   have hW := WZ (a := a) (b := b) i
   have hp := Ygh (n := i) (by omega)
   have hw : ∀ w ∈ words2 a b i, w.length <= 1000 := fun w z => by rw [Zm i w z]; omega
   unfold ZE
   show 123
   rw [Zv (Yh q3)]
   show 123
   rw [ZAJ, show (0 : Int) = ((0 : Nat) : Int) from rfl, YaQ (j := 0) rfl q3 (by omega) hw]
   show 123
   rw [Zv (Yh (Yly.one.get q3))]
   show 123
   rw [ZAJ, show (1 : Int) = ((1 : Nat) : Int) from rfl, YaQ (j := 1) rfl (Yly.one.get q3) (by omega) hw]
   show 123
   rw [YdW (Yly.one.get Yo) Yo (by rw [ZAJ, ZAJ, ZAJ, ZAJ]; omega)]
   show 123
   refine ⟨_, _, rfl, _, _, rfl, ((q2.trans Yly.one).trans Yly.one).trans Yly.one, ?_⟩
   rw [Yo, <- ZAS]
   rfl)
 show 21
 rw [ZBB] at f4
 exact ⟨k, s', rfl, f3, f4⟩
def YmJ (s : Nat) : Mk -> Nat
 | .sg c => c
 | .pl _ _ => s
theorem YfS {a : Nat} {w : List Nat} {D : List Mk} {m : Mk} {v0 v3 : Option P} {st : Yls} (hD : D.length <= 1000) (hw : w.length <= 1000) :
 ∃ s', YA [v0, some (tx [a]), some (tx w), v3, some (shw D m)] st = .nx [v0, some (tx [a]), some (tx (w ++ [YmJ a m])), v3, some (shw D m)] s' /\ Yly st s' := by
 unfold YA
 cases m with
 | sg c =>
  have e : shw D (.sg c) = tx [c] := rfl
  rw [e]
  show 123
  rw [show Yol [tx [c]] st = some (tx [c], st) from rfl]
  show 123
  rw [W6 Yo (by decide) (p := tx [c]) rfl]
  show 123
  exact ⟨_, rfl, Yly.one⟩
 | pl u k =>
  have e : shw D (.pl u k) = .int (D.idxOf (Mk.pl u k) : Nat) := rfl
  have hx : D.idxOf (Mk.pl u k) <= D.length := List.idxOf_le_length
  rw [e]
  generalize D.idxOf (Mk.pl u k) = n at hx ⊢
  have hlog : ((n : Nat) : Int).natAbs.log2 < 1920 := by
   rw [Int.natAbs_natCast]
   have := Nat.log2_le_self n
   omega
  show 123
  rw [YdX hlog]
  show 123
  rw [W6 Yo (by decide) (p := tx [a]) rfl]
  show 123
  exact ⟨_, rfl, Yly.one⟩
def Ymj (len : Nat -> Nat) (u : Nat) : List Mk := (List.range (len u)).map (Mk.pl u)
theorem YhD {a : Nat} {w : List Nat} {D xs : List Mk} {v0 v3 v4 : Option P} {st : Yls} (hD : D.length <= 1000) (hw : w.length + xs.length <= 1000) :
 ∃ w4 s', Ymg (Ynd (xs.map (shw D))) (Ylv 4) YA xs.length 0 [v0, some (tx [a]), some (tx w), v3, v4] st = .nx [v0, some (tx [a]), some (tx (w ++ xs.map (YmJ a))), v3, w4] s' /\ Yly st s' := by
 obtain ⟨ρ', s', f1, w4, f2, f3⟩ := YZ (src := Ynd (xs.map (shw D))) (g := Ylv 4) (m := YA) (N := xs.length) (ρ := [v0, some (tx [a]), some (tx w), v3, v4]) (st := st) xs (shw D)
  (fun i ρ s => ∃ w4, ρ = [v0, some (tx [a]), some (tx (w ++ (xs.take i).map (YmJ a))), v3, w4] /\ Yly st s) rfl (fun i ρ s hi _ => nxL) ⟨v4, by rw [List.take_zero, ZCI, ZBd], Yly.refl⟩
  (fun i hi ρ s ⟨w4, q1, q2⟩ => by
   show 32
   obtain ⟨s', e1, e2⟩ := YfS (a := a) (w := w ++ (xs.take i).map (YmJ a)) (D := D) (m := xs[i]) (v0 := v0) (v3 := v3) (st := s) hD (by rw [ZAH, ZAJ, ZAm]; omega)
   refine ⟨_, s', e1, some (shw D xs[i]), ?_, q2.trans e2⟩
   rw [ZAv, ZAO hi, ZAS, ZBA]
   rfl)
 rw [ZAs] at f2
 exact ⟨w4, s', by rw [f1, f2], f3⟩
def Ync (a : Nat) (len : Nat -> Nat) (r : Rp) (N : List Nat) : List Nat := N.flatMap fun u => (Ymj len u).map fun x => YmJ a (r x)
theorem Ycg {a : Nat} {len : Nat -> Nat} {r : Rp} (hl : ∀ u, len u <= 20) : ∀ N : List Nat, (Ync a len r N).length <= 20 * N.length
 | [] => ZAI _
 | u :: N => by
  have ih := Ycg hl N (a := a) (r := r)
  have := hl u
  unfold Ync at ih ⊢
  rw [ZAx, ZAH, ZAJ, Ymj, ZAJ, ZBB, ZA4]
  omega
theorem Ya7 {a : Nat} {len : Nat -> Nat} {N : List Nat} {r : Rp} {st : Yls} (hl : ∀ u, len u <= 20) (h26 : N.length <= 26) (hlow : ∀ u ∈ N, YlE u = false) : ∃ s', Yq [told len N r, tx [a]] st = .ok (tx (Ync a len r N)) s' /\ Yly st s' := by
 have hD : (firsts ((marks len N).map r)).length <= 1000 := by
  have h1 := W4 (xs := (marks len N).map r) (ds := [])
  have h2 := Wd hl N
  unfold firsts
  rw [ZAJ] at h1
  show _ <= _
  simp only [List.length_nil] at h1
  omega
 have et : told len N r = .tup (N.map fun u => .tup (((Ymj len u).map r).map (shw (firsts ((marks len N).map r))))) := by
  unfold told Ymj
  simp only [List.map_map]
  rfl
 rw [et]
 generalize firsts ((marks len N).map r) = D at hD
 unfold Yq Zp
 simp only [s_e]
 show 123
 try rw [ZAJ]
 obtain ⟨ρ', s', f1, v3, v4, f2, f3⟩ := YZ (src := Ynd (N.map fun u => .tup (((Ymj len u).map r).map (shw D)))) (g := Ylv 3) (m := Zd) (N := N.length) (ρ := [some (.tup (N.map fun u => .tup (((Ymj len u).map r).map (shw D)))), some (tx [a]), some (tx []), none, none]) (st := st) N (fun u => .tup (((Ymj len u).map r).map (shw D)))
  (fun i ρ s => ∃ v3 v4, ρ = [some (.tup (N.map fun u => .tup (((Ymj len u).map r).map (shw D)))), some (tx [a]), some (tx (Ync a len r (N.take i))), v3, v4] /\ Yly st s) rfl (fun i ρ s hi _ => nxL) ⟨none, none, by rw [List.take_zero]; rfl, Yly.refl⟩
  (fun i hi ρ s ⟨v3, v4, q1, q2⟩ => by
   show 32
   have hlen := Ycg hl (N.take i) (a := a) (r := r)
   have h20 := hl N[i]
   have hrl : ((Ymj len N[i]).map r).length = len N[i] := by unfold Ymj; rw [List.length_map, List.length_map, List.length_range]
   rw [ZAm] at hlen
   unfold Zd
   show 123
   obtain ⟨w4, s', e1, e2⟩ := YhD (a := a) (w := Ync a len r (N.take i)) (D := D) (xs := (Ymj len N[i]).map r) (v0 := some (.tup (N.map fun u => .tup (((Ymj len u).map r).map (shw D))))) (v3 := some (.tup (((Ymj len N[i]).map r).map (shw D)))) (v4 := v4) (st := s) hD (by omega)
   rw [show (((Ymj len N[i]).map r).map (shw D)).length = ((Ymj len N[i]).map r).length from ZAJ _, e1]
   have en : Ync a len r (N.take (i + 1)) = Ync a len r (N.take i) ++ ((Ymj len N[i]).map r).map (YmJ a) := by
    unfold Ync
    rw [ZAv, ZAO hi, ZBb, ZAq]
    simp only [Option.toList_some, List.flatMap_cons, List.flatMap_nil, List.append_nil]
    rfl
   refine ⟨_, s', rfl, some (.tup (((Ymj len N[i]).map r).map (shw D))), w4, ?_, q2.trans e2⟩
   rw [en])
 show 21
 rw [ZAs]
 exact ⟨s', rfl, f3⟩
def fM (w : Nat -> List Nat) : Rp
 | .sg c => .sg c
 | .pl u k => .sg ((w u).getD k 0)
theorem Ydc {l : List Nat} {n : Nat} (h : l.length = n) : (List.range n).map (fun k => l.getD k 0) = l := by
 subst h
 refine List.ext_getElem (by simp) fun i h1 h2 => ?_
 rw [List.getElem_map, List.getElem_range, ZBC, ZAO h2]
 rfl
theorem W2 {len : Nat -> Nat} {N : List Nat} {w : Nat -> List Nat} (hlow : ∀ u ∈ N, YlE u = false) (hw : ∀ u ∈ N, (w u).length = len u) : ∀ side : List Nat, (∀ c ∈ side, YlE c = true \/ c ∈ N) -> (marks len side).map (fM w) = (side.flatMap (fl N w)).map Mk.sg
 | [], _ => rfl
 | c :: l, h => by
  have ih := W2 hlow hw l fun d hd => h d (ZAT _ hd)
  have e : marks len (c :: l) = mark len c ++ marks len l := ZAx
  rw [e, ZAS, ih, ZAx, ZAS]
  congr 1
  unfold mark fl
  cases z : YlE c with
  | true =>
   have hn : c ∉ N := fun m => by rw [hlow c m] at z; cases z
   rw [ZAG rfl, ZAF hn]
   rfl
  | false =>
   have hn : c ∈ N := (h c ZAQ).elim (fun q => by rw [z] at q; cases q) id
   rw [ZAF ZAN, ZAG hn, ZAq]
   have := Ydc (hw c hn)
   rw [<- this, ZAq]
   refine List.map_congr_left fun k _ => ?_
   show Mk.sg ((w c).getD k 0) = Mk.sg (((List.range (len c)).map fun k => (w c).getD k 0) |> fun l => _)
   rfl
theorem Ybi {f : Rp} : ∀ {A B : List Mk}, A.length = B.length -> ((∀ p ∈ A.zip B, f p.1 = f p.2) ↔ A.map f = B.map f)
 | [], [], _ => ⟨fun _ => rfl, fun _ p h => (by cases h)⟩
 | a :: A, b :: B, h => by
  have ih := Ybi (f := f) (A := A) (B := B) (by simpa using h)
  rw [List.zip_cons_cons, ZAY, ZAY, List.cons.injEq]
  constructor
  ·intro q
   exact ⟨q (a, b) ZAQ, ih.mp fun p hp => q p (ZAT _ hp)⟩
  ·intro ⟨q1, q2⟩ p hp
   rcases ZAZ.mp hp with rfl | z
   ·exact q1
   ·exact ih.mpr q2 p z
 | [], b :: B, h => by cases h
 | a :: A, [], h => by cases h
theorem Yjl {A B : List Nat} (h : A.map Mk.sg = B.map Mk.sg) : A = B := by
 have : (A.map Mk.sg).map (YmJ 0) = (B.map Mk.sg).map (YmJ 0) := by rw [h]
 rw [ZAq, ZAq] at this
 have e : ∀ L : List Nat, L.map (YmJ 0 ∘ Mk.sg) = L := fun L => by
  rw [show (YmJ 0 ∘ Mk.sg) = id from rfl, List.map_id]
 rw [e, e] at this
 exact this
section
variable {len : Nat -> Nat} {N : List Nat} {w : Nat -> List Nat} {tb : Sys}
theorem YaS (hlow : ∀ u ∈ N, YlE u = false) (hw : ∀ u ∈ N, (w u).length = len u) (hs : ∀ e ∈ tb, (∀ c ∈ e.1, YlE c = true \/ c ∈ N) /\ ∀ c ∈ e.2, YlE c = true \/ c ∈ N) :
 Alike N w tb ↔ (∀ e ∈ Ylz len tb, e.1.length = e.2.length) /\ Con (fM w) (pairsOf (Ylz len tb)) := by
 have key : ∀ e ∈ tb, (e.1.flatMap (fl N w) = e.2.flatMap (fl N w) ↔ (marks len e.1).map (fM w) = (marks len e.2).map (fM w)) := fun e he => by
  rw [W2 hlow hw e.1 (hs e he).1, W2 hlow hw e.2 (hs e he).2]
  exact ⟨fun z => by rw [z], Yjl⟩
 constructor
 ·intro A
  have hl : ∀ e ∈ Ylz len tb, e.1.length = e.2.length := fun e he => by
   obtain ⟨d, hd, rfl⟩ := ZAb.mp he
   have := ZBK List.length ((key d hd).mp (A d hd))
   rw [ZAJ, ZAJ] at this
   exact this
  refine ⟨hl, fun _ => rfl, fun p hp => ?_⟩
  obtain ⟨e, he, hpe⟩ := ZBp.mp hp
  have le := hl e he
  obtain ⟨d, hd, rfl⟩ := ZAb.mp he
  exact (Ybi le).mpr ((key d hd).mp (A d hd)) p hpe
 ·intro ⟨hl, C⟩ e he
  have hm : (marks len e.1, marks len e.2) ∈ Ylz len tb := ZAb.mpr ⟨e, he, rfl⟩
  exact (key e he).mpr ((Ybi (hl _ hm)).mp fun p hp => C.eq p (ZBp.mpr ⟨_, hm, hp⟩))
theorem YbT {w' : Nat -> List Nat} (h : ∀ u ∈ N, w u = w' u) : Alike N w tb ↔ Alike N w' tb := by
 have : fl N w = fl N w' := funext fun c => by
  unfold fl
  by_cases z : c ∈ N
  ·rw [ZAG z, ZAG z, h c z]
  ·rw [ZAF z, ZAF z]
 unfold Alike
 show 143
end
theorem Yb6 {len : Nat -> Nat} {x : Mk} {side : List Nat} (h : x ∈ marks len side) : (∃ c ∈ side, YlE c = true /\ x = .sg c) \/ ∃ u ∈ side, ∃ k, k < len u /\ x = .pl u k := by
 obtain ⟨c, hc, hx⟩ := ZBp.mp h
 unfold mark at hx
 cases z : YlE c with
 | true =>
  rw [z, ZAG rfl] at hx
  exact .inl ⟨c, hc, z, ZAg.mp hx⟩
 | false =>
  rw [z, ZAF ZAN] at hx
  obtain ⟨k, hk, rfl⟩ := ZAb.mp hx
  exact .inr ⟨c, hc, k, ZBv.mp hk, rfl⟩
theorem YbR {len : Nat -> Nat} {tb : Sys} {p : Mk × Mk} (h : p ∈ pairsOf (Ylz len tb)) : ∃ e ∈ tb, p.1 ∈ marks len e.1 /\ p.2 ∈ marks len e.2 := by
 obtain ⟨e, he, hp⟩ := ZBp.mp h
 obtain ⟨d, hd, rfl⟩ := ZAb.mp he
 exact ⟨d, hd, (ZBr hp).1, (ZBr hp).2⟩
def w0 (s : Nat) (len : Nat -> Nat) (r : Rp) (u : Nat) : List Nat := (Ymj len u).map fun x => YmJ s (r x)
theorem Yjo {s : Nat} {len : Nat -> Nat} {r : Rp} {u : Nat} : (w0 s len r u).length = len u := by unfold w0 Ymj; rw [List.length_map, List.length_map, List.length_range]
theorem YiU {s : Nat} {len : Nat -> Nat} {r : Rp} (g : Gd r) {x : Mk} {side : List Nat} (h : x ∈ marks len side) : fM (w0 s len r) x = .sg (YmJ s (r x)) := by
 rcases Yb6 h with ⟨c, _, _, rfl⟩ | ⟨u, _, k, hk, rfl⟩
 ·rw [g.sg]; rfl
 ·show Mk.sg ((w0 s len r u).getD k 0) = _
  unfold w0 Ymj
  rw [ZBC, ZAq, ZAX, List.getElem?_range hk]
  rfl
def Pm (a b : Nat) : Mk -> Prop
 | .sg c => c = a \/ c = b
 | .pl _ _ => True
theorem Yi1 {a b : Nat} {r r' : Rp} {x y : Mk} (h : Ymu r x y = some r') (hr : ∀ m, Pm a b m -> Pm a b (r m)) (hx : Pm a b x) (hy : Pm a b y) : ∀ m, Pm a b m -> Pm a b (r' m) := by
 unfold Ymu at h
 intro m hm
 split at h
 ·cases h; exact hr m hm
 ·split at h
  ·cases h
   show Pm a b (if r m = r x then r y else r m)
   split
   ·exact hr y hy
   ·exact hr m hm
  ·split at h
   ·cases h
    show Pm a b (if r m = r y then r x else r m)
    split
    ·exact hr x hx
    ·exact hr m hm
   ·cases h
theorem Yfd {a b : Nat} : ∀ {ps : List (Mk × Mk)} {r r' : Rp}, YlY r ps = some r' -> (∀ m, Pm a b m -> Pm a b (r m)) -> (∀ p ∈ ps, Pm a b p.1 /\ Pm a b p.2) -> ∀ m, Pm a b m -> Pm a b (r' m)
 | [], r, r', h, hr, _ => by cases h; exact hr
 | p :: ps, r, r', h, hr, hp => by
  unfold YlY at h
  cases z : Ymu r p.1 p.2 with
  | none => show 176
  | some r1 =>
   rw [z] at h
   have := hp p ZAQ
   exact Yfd h (Yi1 z hr this.1 this.2) fun q hq => hp q (ZAT _ hq)
theorem YdA {len : Nat -> Nat} {w : Nat -> List Nat} : ∀ {N : List Nat} {i : Nat} (hi : i < N.length), (∀ u ∈ N, (w u).length = len u) -> ((N.flatMap w).drop (offs len N i)).take (len N[i]) = w N[i]
 | v :: M, 0, hi, h => by
  have := h v ZAQ
  rw [ZAx]
  show (((w v ++ M.flatMap w).drop 0).take (len v)) = w v
  rw [List.drop_zero, <- this, List.take_left]
 | v :: M, i + 1, hi, h => by
  have e := h v ZAQ
  have ih := YdA (N := M) (i := i) (by simpa using hi) fun u hu => h u (List.mem_cons_of_mem _ hu)
  have eo : offs len (v :: M) (i + 1) = (w v).length + offs len M i := by rw [e]; rfl
  rw [ZAx, eo, <- List.drop_drop, List.drop_left]
  exact ih
theorem Yfw {len : Nat -> Nat} {w : Nat -> List Nat} {N : List Nat} (h : ∀ u ∈ N, (w u).length = len u) : ∀ u ∈ N, wOf len N (N.flatMap w) u = w u := fun u hu => by
 have hi := ZB6 hu
 have := YdA hi h
 rw [List.getElem_idxOf hi] at this
 exact this
theorem Ycu {len : Nat -> Nat} {w : Nat -> List Nat} : ∀ {N : List Nat}, (∀ u ∈ N, (w u).length = len u) -> (N.flatMap w).length = (N.map len).sum
 | [], _ => rfl
 | v :: M, h => by
  rw [ZAx, ZAH, ZAY, ZCe, h v ZAQ, Ycu fun u hu => h u (ZAT _ hu)]
theorem YbK {len : Nat -> Nat} : ∀ {N : List Nat} {i : Nat} (hi : i < N.length), offs len N i + len N[i] <= (N.map len).sum
 | v :: M, 0, hi => by
  show 0 + len v <= len v + (M.map len).sum
  omega
 | v :: M, i + 1, hi => by
  have hM : i < M.length := by simpa using hi
  have ih := YbK (len := len) hM
  show len v + offs len M i + len M[i] <= len v + (M.map len).sum
  omega
theorem YiI {len : Nat -> Nat} {N T : List Nat} (hT : T.length = (N.map len).sum) : ∀ u ∈ N, (wOf len N T u).length = len u := fun u hu => by
 have hi := ZB6 hu
 have := YbK (len := len) hi
 rw [List.getElem_idxOf hi] at this
 unfold wOf
 rw [ZAm, ZBL]
 omega
theorem YdK (cs : List Int) : Ynk (cs.map P.int) = some cs := by
 induction cs with
 | nil => rfl
 | cons a r ih => show (Ynk (r.map P.int)).map (a :: ·) = _; rw [ih]; rfl
theorem Yhn {k : Nat} {cs : List Int} {st : Yls} (h : st[k]? = some (.lst (cs.map P.int))) : Yoq [.ref k] st = some (.int cs.sum, st) := by
 show Yox k st = _
 unfold Yox
 rw [Yh h]
 show 127
 rw [YdK]
 rfl
theorem YfA : ∀ (N ls : List Nat), N.Nodup -> ls.length = N.length -> (∀ x ∈ ls, x <= 20) -> ∃ len : Nat -> Nat, (∀ u, len u <= 20) /\ N.map len = ls
 | [], [], _, _, _ => ⟨fun _ => 0, fun _ => ZBM _, rfl⟩
 | [], _ :: _, _, h, _ => by cases h
 | _ :: _, [], _, h, _ => by cases h
 | u :: N, x :: ls, nd, h, hx => by
  obtain ⟨n1, n2⟩ := ZB1.mp nd
  obtain ⟨len, l1, l2⟩ := YfA N ls n2 (by simpa using h) (fun y hy => hx y (List.mem_cons_of_mem _ hy))
  refine ⟨fun v => if v = u then x else len v, fun v => ?_, ?_⟩
  ·show (if v = u then x else len v) <= 20
   split
   ·exact hx x (ZAQ ..)
   ·exact l1 v
  ·rw [ZAY, ZAG rfl, <- l2]
   refine ZBK _ (List.map_congr_left fun v hv => ?_)
   rw [ZAF]
   intro z
   rw [z] at hv
   exact n1 hv
abbrev Yn8 (ls : List Nat) : List P := (ls.map fun (x : Nat) => (x : Int)).map P.int
theorem JM : ∀ ls : List Nat, (ls.map fun (x : Nat) => (x : Int)).sum = ((ls.sum : Nat) : Int)
 | [] => rfl
 | x :: ls => by rw [ZAY, ZCe, JM ls, ZCe]; rfl
theorem lens {cs : List Int} {v1 v2 v3 v4 : Option P} {k5 : Nat} {st : Yls} {n : Nat} (hk : st[0]? = some (.ro (cs.map P.int))) (h5 : st[k5]? = some (.lst [])) (hn : n <= 26) :
 ∃ (ls : List Nat) (v6 : Option P) (s' : Yls), Ymg (YmG 0 n) (Ylv 6) Ybh n 0 [some (.ref 0), v1, v2, v3, v4, some (.ref k5), none, none, none, none] st = .nx [some (.ref 0), v1, v2, v3, v4, some (.ref k5), v6, none, none, none] s' /\ ls.length = n /\ (∀ x ∈ ls, x <= 20) /\ s'[k5]? = some (.lst (Yn8 ls)) /\ Ymp k5 st s' /\ ls.sum <= 6 := by
 have h05 : 0 ≠ k5 := fun z => by rw [<- z, hk] at h5; cases h5
 obtain ⟨ρ', s', f1, ls, v6, f2, f3, f4, f5, f6, f7⟩ := YZ (src := YmG 0 n) (g := Ylv 6) (m := Ybh) (N := n) (ρ := [some (.ref 0), v1, v2, v3, v4, some (.ref k5), none, none, none, none]) (st := st) (List.range n) (fun (k : Nat) => P.int (0 + k))
  (fun i ρ s => ∃ (ls : List Nat) (v6 : Option P), ρ = [some (.ref 0), v1, v2, v3, v4, some (.ref k5), v6, none, none, none] /\ ls.length = i /\ (∀ x ∈ ls, x <= 20) /\ s[k5]? = some (.lst (Yn8 ls)) /\ Ymp k5 st s /\ ls.sum <= 6) (by simp) (fun i ρ s hi _ => nxR)
  ⟨[], none, rfl, rfl, fun x h => (by cases h), h5, Ymp.refl, by simp⟩
  (fun i hi ρ s ⟨ls, v6, q1, q2, q3, q4, q5, q6⟩ => by
   subst q1
   have hi' : i < n := by simpa using hi
   have ei : (List.range n)[i] = i := by simp
   rw [ei]
   show 161
   have hk' := q5 0 _ h05 hk
   have hks : k5 < s.length := (ZAD.mp q4).1
   unfold Ybh
   show 123
   rw [WJ q4]
   show 123
   have c := Vl (k := 0) (3 + i) hk'
   rw [show (((3 + i : Nat)) : Int) = 3 + (0 + (i : Int)) by omega] at c
   rw [c]
   generalize cs.getD (3 + i) 0 = y
   show 123
   rw [Yhn q4, JM]
   show 123
   generalize hS : ls.sum = S at q6
   obtain ⟨m, hm, hm20, hmS⟩ : ∃ m : Nat, (if 6 - (S : Int) < y % 4 then 6 - (S : Int) else y % 4) = (m : Int) /\ m <= 20 /\ m + S <= 6 := ⟨(if 6 - (S : Int) < y % 4 then 6 - (S : Int) else y % 4).toNat, by split <;> omega, by split <;> omega, by split <;> omega⟩
   rw [hm, Wo q4 (by rw [ZAJ, ZAJ]; omega)]
   show 123
   refine ⟨_, _, rfl, ls ++ [m], _, rfl, by rw [ZAH, q2]; rfl, fun x hx => ?_, ?_, q5.trans Ymp.set, ?_⟩
   ·rcases ZAf.mp hx with z | z
    ·exact q3 x z
    ·rw [ZAg.mp z]; exact hm20
   ·rw [ZAU hks]
    unfold Yn8
    rw [ZAS, ZAS]
    rfl
   ·rw [List.sum_append, hS]
    simp
    omega)
 rw [ZBB] at f3
 exact ⟨ls, v6, s', by rw [f1, f2], f3, f4, f5, f6, f7⟩
theorem Yd8 {W : List (List Nat)} {N : List Nat} {len : Nat -> Nat} {tb : Sys} {k7 kn kl : Nat} {st : Yls} (nd : N.Nodup) (h26 : N.length <= 26) (hl : ∀ u, len u <= 20) (hb : ∀ e ∈ tb, e.1.length <= 5 /\ e.2.length <= 5) (hW : W.length <= 1000) (hT : ∀ T ∈ W, T.length <= 1000) (h7 : st[k7]? = some (.lst (W.map tx))) (h1 : st[kn]? = some (.lst (N.map fun u => tx [u]))) (h2 : st[kl]? = some (.lst (N.map fun u => .int (len u : Nat)))) :
 ∃ (sel : List (List Nat)) (s' : Yls), YlX (YmU k7 W.length) (Ylv 0) (Ymq (YlI 2 Yt (Ylt (Ylr 3) (Ylt (YlI 3 YC (Ylt (Ylr 0) (Ylt (Ylr 2) (Ylt (Ylr 1) YlA)))) YlA)))) (Ylr 0) [none, some (.ref kl), some (.ref kn), some (.tup (tb.map YlR))] W.length 0 st [] = .ok (sel.map tx) s' /\ Yly st s' /\ (∀ T, T ∈ sel ↔ T ∈ W /\ Alike N (wOf len N T) tb) /\ sel.length <= W.length := by
 obtain ⟨acc, s', e1, sel, e2, e3, e4, e5⟩ := WC (src := YmU k7 W.length) (g := Ylv 0) (nt := Ymq (YlI 2 Yt (Ylt (Ylr 3) (Ylt (YlI 3 YC (Ylt (Ylr 0) (Ylt (Ylr 2) (Ylt (Ylr 1) YlA)))) YlA)))) (me := Ylr 0) (ρ0 := [none, some (.ref kl), some (.ref kn), some (.tup (tb.map YlR))]) (N := W.length)
  (fun i s acc => ∃ sel : List (List Nat), acc = sel.map tx /\ Yly st s /\ (∀ T, T ∈ sel ↔ T ∈ W.take i /\ Alike N (wOf len N T) tb) /\ sel.length <= i) (st := st) ⟨[], rfl, Yly.refl, fun T => by simp, Nat.le_refl _⟩
  (fun i s acc hi ⟨sel, q1, q2, q3, q4⟩ => by
   subst q1
   have hm := ZAu hi
   obtain ⟨s1, c1, c2, c3⟩ := Yiq (N := N) (T := W[i]) (len := len) (kn := kn) (kl := kl) (st := s) nd h26 hl (hT _ hm) (q2.get h1) (q2.get h2)
   obtain ⟨t, a1, a2⟩ := Yev (tb := tb) (kw := s.length) (st := s1) c3 (fun u => by unfold wOf; rw [List.length_take]; exact Nat.le_trans (Nat.min_le_left _ _) (hl u)) hb
   have run : Ymq (YlI 2 Yt (Ylt (Ylr 3) (Ylt (YlI 3 YC (Ylt (Ylr 0) (Ylt (Ylr 2) (Ylt (Ylr 1) YlA)))) YlA))) [some (tx W[i]), some (.ref kl), some (.ref kn), some (.tup (tb.map YlR))] s = .ok t s1 := by
    show 123
    rw [c1]
    show 123
    rw [a1]
    show 123
   have et : ∀ T, T ∈ W.take (i + 1) ↔ T ∈ W.take i \/ T = W[i] := fun T => by
    rw [ZAv, ZAO hi, ZAf]
    simp
   refine ⟨tx W[i], _, by rw [nxK (Yh (q2.get h7)), ZAO hi]; rfl, rfl, ?_⟩
   cases ht : t with
   | false =>
    subst ht
    refine .inl ⟨s1, run, sel, rfl, q2.trans c2, fun T => ?_, by omega⟩
    rw [q3, et]
    constructor
    ·rintro ⟨x, y⟩; exact ⟨.inl x, y⟩
    ·rintro ⟨x | rfl, y⟩
     ·exact ⟨x, y⟩
     ·exact absurd (a2.mpr y) ZAN
   | true =>
    subst ht
    refine .inr ⟨s1, tx W[i], s1, run, rfl, by show _ < 1000000; rw [ZAJ]; omega, sel ++ [W[i]], by rw [ZAS]; rfl, q2.trans c2, fun T => ?_, by rw [ZAH, ZAV]; omega⟩
    rw [ZAf, ZAg, q3, et]
    constructor
    ·rintro (⟨x, y⟩ | rfl)
     ·exact ⟨.inl x, y⟩
     ·exact ⟨.inr rfl, a2.mp rfl⟩
    ·rintro ⟨x | rfl, y⟩
     ·exact .inl ⟨x, y⟩
     ·exact .inr rfl)
  (fun s acc ⟨sel, _, g, _⟩ => by rw [nxK (Yh (g.get h7)), ZAr (ZAI _)]; rfl)
 rw [ZAs] at e4
 exact ⟨sel, s', by rw [e1, e2], e3, e4, e5⟩
section
variable {N : List Nat} {len : Nat -> Nat} {tb : Sys} {a b : Nat}
theorem YfL (hlow : ∀ u ∈ N, YlE u = false) (hs : ∀ e ∈ tb, (∀ c ∈ e.1, YlE c = true \/ c ∈ N) /\ ∀ c ∈ e.2, YlE c = true \/ c ∈ N) (h : ¬ ((∀ e ∈ Ylz len tb, e.1.length = e.2.length) /\ ∃ r, YlY (fun x => x) (pairsOf (Ylz len tb)) = some r)) {w : Nat -> List Nat} (hw : ∀ u ∈ N, (w u).length = len u) : ¬ Alike N w tb := fun A => by
 obtain ⟨h1, C⟩ := (YaS hlow hw hs).mp A
 cases z : YlY (fun x => x) (pairsOf (Ylz len tb)) with
 | some r => exact h ⟨h1, r, z⟩
 | none => exact YbM _ YiR Yf1 Ygb z _ C
theorem YjF {r : Rp} {s : Nat} (hlow : ∀ u ∈ N, YlE u = false) (hs : ∀ e ∈ tb, (∀ c ∈ e.1, YlE c = true \/ c ∈ N) /\ ∀ c ∈ e.2, YlE c = true \/ c ∈ N) (hL : ∀ e ∈ tb, LS a b e.1 /\ LS a b e.2) (hlen : ∀ e ∈ Ylz len tb, e.1.length = e.2.length) (hr : YlY (fun x => x) (pairsOf (Ylz len tb)) = some r) (hsab : s = a \/ s = b) :
 Ync s len r N ∈ words2 a b (N.map len).sum /\ Alike N (wOf len N (Ync s len r N)) tb := by
 have hwl : ∀ u ∈ N, (w0 s len r u).length = len u := fun u _ => Yjo
 have et : Ync s len r N = N.flatMap (w0 s len r) := rfl
 obtain ⟨g, C, _⟩ := Ycy _ YiR Yf1 Ygb hr
 have low : ∀ side, LS a b side -> ∀ x ∈ marks len side, Pm a b x := fun side hS x hx => by
  rcases Yb6 hx with ⟨c, hc, hl, rfl⟩ | ⟨u, _, k, _, rfl⟩
  ·rcases hS c hc with z | z
   ·rw [Zy hl] at z; cases z
   ·exact z
  ·exact trivial
 have hin := Yfd hr (a := a) (b := b) (fun m h => h) fun p hp => by
  obtain ⟨e, he, p1, p2⟩ := YbR hp
  exact ⟨low _ (hL e he).1 _ p1, low _ (hL e he).2 _ p2⟩
 constructor
 ·rw [et]
  refine J0 _ _ (Ycu hwl) fun c hc => ?_
  obtain ⟨u, _, hcu⟩ := ZBp.mp hc
  obtain ⟨x, hx, rfl⟩ := ZAb.mp hcu
  obtain ⟨k, _, rfl⟩ := ZAb.mp hx
  have := hin (.pl u k) trivial
  cases z : r (.pl u k) with
  | sg c => rw [z] at this; exact this
  | pl _ _ => exact hsab
 ·rw [et]
  refine (YbT (Yfw hwl)).mpr ((YaS hlow hwl hs).mpr ⟨hlen, fun _ => rfl, fun p hp => ?_⟩)
  obtain ⟨e, he, p1, p2⟩ := YbR hp
  rw [YiU g p1, YiU g p2, C.eq p hp]
end
theorem Yhm (W : List (List Nat)) : (W.map tx).all Yl5 = true := by
 rw [ZCM, ZA6]
 intro x _
 rfl
theorem Yfs (W : List (List Nat)) : (W.map tx).all (Yl4 7) = true := by
 rw [ZCM, ZA6]
 intro x _
 rfl
theorem YhL {W : List (List Nat)} {T : List Nat} (h : T ∈ W) : ((W.map tx).any fun y => eqF y (tx T)) = true := by
 rw [List.any_eq_true]
 exact ⟨tx T, List.mem_map.mpr ⟨T, h, rfl⟩, by show (sT T == sT T) = true; simp⟩
theorem Yfm {W : List (List Nat)} {T : List Nat} {k : Nat} {st : Yls} (hk : st[k]? = some (.lst (W.map tx))) (h : T ∈ W) : Ynp (tx T) (.ref k) st = some (.bl true, st) := by
 rw [Ylc (xs := W.map tx) (by show (match st[k]? with | some (.lst xs) => some xs | some (.ro xs) => some xs | _ => none) = _; rw [hk]) rfl (Yhm W), YhL h]
theorem Yh9 {N : List Nat} {len : Nat -> Nat} {tb : Sys} {st : Yls} (hl : ∀ u, len u <= 20) (h2 : tb.length <= 2) (hs : ∀ e ∈ tb, e.1.length <= 10 /\ e.2.length <= 10) (hr : Ynj N) (hN : ∀ c, c ∈ N ↔ c ∈ Yl8 tb /\ isUp c = true) (hlet : ∀ c ∈ Yl8 tb, YlE c = true \/ isUp c = true) (h26 : N.length <= 26) :
 ∃ st', Yly st st' /\ ((Wr [.tup (tb.map YlR), .tup (N.map fun u => .int (len u : Nat))] st = .ok .non st' /\ ¬ ((∀ e ∈ Ylz len tb, e.1.length = e.2.length) /\ ∃ r, YlY (fun x => x) (pairsOf (Ylz len tb)) = some r)) \/
  ∃ r, Wr [.tup (tb.map YlR), .tup (N.map fun u => .int (len u : Nat))] st = .ok (told len N r) st' /\ (∀ e ∈ Ylz len tb, e.1.length = e.2.length) /\ YlY (fun x => x) (pairsOf (Ylz len tb)) = some r) := by
 obtain ⟨st', h, g⟩ := tied (st := st) hl h2 hs hr hN hlet h26
 refine ⟨st', g, ?_⟩
 by_cases c : ∀ e ∈ Ylz len tb, e.1.length = e.2.length
 ·rw [ZAG c] at h
  cases e : YlY (fun x => x) (pairsOf (Ylz len tb)) with
  | none => rw [e] at h; exact .inl ⟨h, fun ⟨_, r, z⟩ => by cases z⟩
  | some r => rw [e] at h; exact .inr ⟨r, h, c, rfl⟩
 ·rw [ZAF c] at h
  exact .inl ⟨h, fun z => c z.1⟩
theorem YdP {N : List Nat} {len : Nat -> Nat} {r : Rp} {st : Yls} (h26 : N.length <= 26) : told len N r = .tup (N.map fun u => .tup (((Ymj len u).map r).map (shw (firsts ((marks len N).map r))))) /\ YlX (Ynd (N.map fun u => .tup (((Ymj len u).map r).map (shw (firsts ((marks len N).map r)))))) (Ylv 0) Ymd (eB YmA (Ylt (Ylr 0) YlA)) [none] N.length 0 st [] = .ok (N.map fun u => .int (len u : Nat)) st := by
 constructor
 ·unfold told Ymj
  simp only [List.map_map]
  rfl
 ·rw [ZP N (fun u => .tup (((Ymj len u).map r).map (shw (firsts ((marks len N).map r))))) (fun u => .int (len u : Nat)) rfl (fun i _ => nxL) (by omega) (fun u _ => ⟨_, rfl, by
   show 123
   rw [ZAJ, ZAJ, Ymj, ZAJ, ZBB]⟩)]
theorem holds : Law 63 Ycf := fun cs hl => by
 unfold Ycf YgW
 simp only [ZM, Yhk]
 generalize hT : (YlF (YlS 3 _) _ : MS) = T
 show 126
 generalize hst0 : [O.ro (cs.map P.int)] = st0
 have k0 : st0[0]? = some (.ro (cs.map P.int)) := by rw [<- hst0]; rfl
 obtain ⟨tb, a, b, s1, a1, a2, a3, la, lb, a4⟩ := YcO (k := 0) (cs := cs) (st := st0) k0 (by omega)
 rw [a1]
 show 126
 have hall : (Yl8 tb).length <= 63 := by
  have key : ∀ tb : Sys, (∀ e ∈ tb, e.1.length <= 5 /\ e.2.length <= 5) -> (Yl8 tb).length <= 10 * tb.length := by
   intro tb
   induction tb with
   | nil => intro _; simp [Yl8]
   | cons e tb ih =>
    intro h
    have a := ih fun d hd => h d (ZAT _ hd)
    have b := h e (ZAQ ..)
    unfold Yl8 at a ⊢
    rw [ZAx, ZAH, ZAH, ZA4]
    omega
  have := key tb fun e he => ⟨(a2 e he).1, (a2 e he).2.1⟩
  omega
 have hLS : ∀ c, (isUp c = true \/ c = a \/ c = b) -> YlE c = true \/ isUp c = true := fun c h => by
  rcases h with z | rfl | rfl
  ·exact .inr z
  ·exact .inl la
  ·exact .inl lb
 have hlet : ∀ c ∈ Yl8 tb, YlE c = true \/ isUp c = true := fun c hc => by
  obtain ⟨e, he, hce⟩ := mem_allL.mp hc
  rcases hce with z | z
  ·exact hLS c ((a2 e he).2.2.1 c z)
  ·exact hLS c ((a2 e he).2.2.2 c z)
 subst hT
 generalize hT : (YlF (YlS 5 _) _ : MS) = T
 show 126
 rw [ZAJ, ZP tb YlR (fun e => tx (e.1 ++ e.2)) rfl (fun i _ => nxL) (by omega) (fun e he => ⟨[some (tx e.1), some (tx e.2)], rfl, by
  have := YbU he
  walk_at "ev"⟩)]
 show 123
 rw [show (tb.map fun e => tx (e.1 ++ e.2)) = (tb.map fun e => e.1 ++ e.2).map tx by rw [ZAq]; rfl]
 have e2 : (tb.map fun e => e.1 ++ e.2).flatten = Yl8 tb := by unfold Yl8; rw [List.flatMap_def]
 rw [Wy (by rw [e2]; omega), e2]
 show 123
 rw [JX up26 (fun c => tx [c]) (fun c => decide (c ∈ Yl8 tb)) (fun c => tx [c]) (by simp [up26]) (fun i hi => nxS hi) (by simp [up26]) (fun c hc => ⟨_, rfl, by
  show 123
  rw [Yfj]
  try walk_at "ev", fun _ => by try walk_at "ev"⟩)]
 try walk_at "ev"
 obtain ⟨N, hNe, b2, b3, b4⟩ : ∃ N : List Nat, (up26.filter fun c => decide (c ∈ Yl8 tb)) = N /\ Ynj N /\ (∀ c, c ∈ N ↔ c ∈ Yl8 tb /\ isUp c = true) /\ N.length <= 26 := by
  refine ⟨_, rfl, ?_, fun c => ?_, ?_⟩
  ·exact List.Pairwise.filter _ (by unfold up26; decide +kernel)
  ·rw [ZCN, ZB5, Wu]
   have : c ∈ up26 ↔ 65 <= c /\ c <= 90 := by
    unfold up26
    rw [ZAb]
    constructor
    ·rintro ⟨k, hk, rfl⟩
     have := ZBv.mp hk
     omega
    ·intro ⟨a, b⟩
     exact ⟨c - 65, ZBv.mpr (by omega), by omega⟩
   show 143
   exact And.comm
  ·exact Nat.le_trans (List.length_filter_le _ _) (by simp [up26])
 rw [hNe]
 have nd : N.Nodup := b2.imp fun h => ZAL h
 have hlow : ∀ u ∈ N, YlE u = false := fun u hu => by
  have := ((b3 u).mp hu).2
  cases e : YlE u with
  | false => rfl
  | true => rw [Zy e] at this; cases this
 have hs : ∀ e ∈ tb, (∀ c ∈ e.1, YlE c = true \/ c ∈ N) /\ ∀ c ∈ e.2, YlE c = true \/ c ∈ N := fun e he => by
  have key : ∀ c, (c ∈ e.1 \/ c ∈ e.2) -> YlE c = true \/ c ∈ N := fun c hc => by
   have hm := mem_allL.mpr ⟨e, he, hc⟩
   rcases hlet c hm with z | z
   ·exact .inl z
   ·exact .inr ((b3 c).mpr ⟨hm, z⟩)
  exact ⟨fun c hc => key c (.inl hc), fun c hc => key c (.inr hc)⟩
 generalize hB : s1 ++ [O.lst (N.map fun c => tx [c])] = B
 have gB : Yly s1 B := by rw [<- hB]; exact Yly.one
 have kB : B[s1.length]? = some (.lst (N.map fun c => tx [c])) := by rw [<- hB]; exact Yo
 have gC : Yly B (B ++ [O.lst []]) := Yly.one
 have hsB : s1.length < B.length := (ZAD.mp kB).1
 subst hT
 generalize hT : (YlF (YlS 7 _) _ : MS) = T
 show 126
 rw [VE (gC.get kB)]
 show 83
 show 123
 try rw [Yae (by omega) (by omega)]
 show 123
 rw [ZA8]
 obtain ⟨ls, v6, s2, c1, c2, c3, c4, c5, c6⟩ := lens (cs := cs) (v1 := some (.tup (tb.map YlR))) (v2 := some (tx [a, b])) (v3 := some (tx (Yl8 tb))) (v4 := some (.ref s1.length)) (k5 := B.length) (st := B ++ [O.lst []]) (n := N.length) (gC.get (gB.get a4)) Yo b4
 rw [c1]
 obtain ⟨len, l1, l2⟩ := YfA N ls nd c2 c3
 have k2 : s2[s1.length]? = some (.lst (N.map fun u => tx [u])) := c5 _ _ (by omega) (gC.get kB)
 have k3 : s2[B.length]? = some (.lst (N.map fun u => .int (len u : Nat))) := by
  rw [c4, <- l2]
  unfold Yn8
  rw [ZAq, ZAq]
  rfl
 subst hT
 generalize hT : (YlF (YnP 8 _) _ : MS) = T
 show 126
 rw [Yhn c4, JM]
 show 126
 obtain ⟨k7, s3, d1, d2, d3⟩ := Yed (a := a) (b := b) (n := ls.sum) (st := s2) c6
 rw [d1]
 show 31
 generalize hT : (YlF (YlS 9 _) _ : MS) = T
 show 126
 rw [Zv (Yh d3)]
 show 83
 have hW := WZ (a := a) (b := b) ls.sum
 have hp := Ygh (n := ls.sum) c6
 obtain ⟨sel, s4, e1, e3, e4, e5⟩ := Yd8 (W := words2 a b ls.sum) (N := N) (len := len) (tb := tb) (k7 := k7) (kn := s1.length) (kl := B.length) (st := s3) nd b4 l1 (fun e he => ⟨(a2 e he).1, (a2 e he).2.1⟩) (by omega) (fun T h => by rw [Zm _ T h]; omega) d3 (d2.get k2) (d2.get k3)
 rw [e1]
 show 31
 generalize hD : s4 ++ [O.lst (sel.map tx)] = D
 have kD : D[s4.length]? = some (.lst (sel.map tx)) := by rw [<- hD]; exact Yo
 have gD : Yly s4 D := by rw [<- hD]; exact Yly.one
 have k5 : D[B.length]? = some (.lst (N.map fun u => .int (len u : Nat))) := gD.get (e3.get (d2.get k3))
 generalize hT : (YlF (sIf _ _ _) _ : MS) = T
 show 126
 rw [show Ymy [.ref B.length] D = _ from Wc (Yh k5)]
 show 126
 have esum : (N.map len).sum = ls.sum := by rw [l2]
 obtain ⟨s5, t2, out⟩ := Yh9 (N := N) (len := len) (tb := tb) (st := D) l1 a3 (fun e he => ⟨ZAR (a2 e he).1 (by decide), ZAR (a2 e he).2.1 (by decide)⟩) b2 b3 hlet b4
 have kS := t2.get kD
 have kL := t2.get k5
 rcases out with ⟨t1, o2⟩ | ⟨r, t1, o2, o3⟩
 ·rw [t1]
  show 31
  show 126
  obtain ⟨q, q1, q2⟩ := YkN (st := s5 ++ [O.lst []]) (a := s4.length) (c := s5.length) (xs := sel.map tx) (ys := []) (Yh (Yly.one.get kS)) (Yh Yo) (Yfs sel) rfl
  rw [q1]
  have : sel = [] := List.eq_nil_iff_forall_not_mem.mpr fun T hT => by
   obtain ⟨m1, m2⟩ := (e4 T).mp hT
   exact YfL hlow hs o2 (YiI (by rw [Zm _ T m1, esum])) m2
  rw [q2.mpr (by rw [this]; rfl)]
  show 123
  exact ⟨_, rfl⟩
 ·rw [t1]
  show 31
  have one : ∀ (s : Nat) (S : Yls), (s = a \/ s = b) -> Yly s5 S -> ∃ S', Yq [told len N r, tx [s]] S = .ok (tx (Ync s len r N)) S' /\ Yly s5 S' /\ Ynp (tx (Ync s len r N)) (.ref s4.length) S' = some (.bl true, S') := fun s S hsab g => by
   obtain ⟨S', u1, u2⟩ := Ya7 (a := s) (len := len) (N := N) (r := r) (st := S) l1 b4 hlow
   obtain ⟨m1, m2⟩ := YjF (a := a) (b := b) (s := s) hlow hs (fun e he => (a2 e he).2.2) o2 o3 hsab
   refine ⟨S', u1, g.trans u2, Yfm ((g.trans u2).get kS) ((e4 _).mpr ⟨by rw [<- esum]; exact m1, m2⟩)⟩
  obtain ⟨et, ec⟩ := YdP (len := len) (r := r) (st := s5) b4
  generalize hT : (sRet (YoD _ _) : MS) = T
  have i9 : isP (told len N r) .non s5 = some (.bl false, s5) := by rw [et]; rfl
  show 126
  rw [i9]
  show 126
  rw [et]
  show 126
  rw [ZAJ, ec]
  show 126
  obtain ⟨q, q1, q2⟩ := Yk2 (st := s5 ++ [O.lst (N.map fun u => .int (len u : Nat))]) (a := s5.length) (c := B.length) (xs := N.map fun u => .int (len u : Nat)) (ys := N.map fun u => .int (len u : Nat)) (Yh Yo) (Yh (Yly.one.get kL)) (by rw [ZCM, ZA6]; intro x _; rfl) (by rw [ZCM, ZA6]; intro x _; rfl)
  rw [q1, q2.mpr rfl]
  show 84
  rw [<- et]
  show 123
  obtain ⟨S1, u1, u2, u3⟩ := one a _ (.inl rfl) (Yly.one (o := O.lst (N.map fun u => .int (len u : Nat))))
  rw [show ixP (tx [a, b]) (.int 0) (s5 ++ [O.lst (N.map fun u => .int (len u : Nat))]) = _ from WB (i := 0) rfl (by simp)]
  show 123
  rw [u1]
  show 123
  rw [u3]
  show 123
  obtain ⟨S2, y1, y2, y3⟩ := one b _ (.inr rfl) u2
  rw [show ixP (tx [a, b]) (.int 1) S1 = _ from WB (i := 1) rfl (by simp)]
  show 123
  rw [y1]
  show 123
  rw [y3]
  show 123
  exact ⟨_, rfl⟩
end G
end
def PySem.W.Fast.tw17898052606608028398 : Unit := ()
def PySem.W.Fast.tw14726357054709785934 : Unit := ()
def PySem.W.Fast.tw2091832187738480019 : Unit := ()
def PySem.W.Fast.tw13587661547856309262 : Unit := ()
def PySem.W.Fast.tw16498014360728725289 : Unit := ()
def PySem.W.Fast.tw3038788795895234491 : Unit := ()
def PySem.W.Fast.tw8555334655465485615 : Unit := ()
def PySem.W.Fast.tw8239238115735129601 : Unit := ()
def PySem.W.Fast.tw7762376666980855887 : Unit := ()
def PySem.W.Fast.tw7812485421478028460 : Unit := ()
def PySem.W.Fast.tw15129207316061359495 : Unit := ()
def PySem.W.Fast.tw13047418428579242835 : Unit := ()
def PySem.W.Fast.tw4233035382288375147 : Unit := ()
def PySem.W.Fast.tw9653546959916275083 : Unit := ()
def PySem.W.Fast.tw8707203456109658424 : Unit := ()
def PySem.W.Fast.tw15135798703854071754 : Unit := ()
def PySem.W.Fast.tw4003224569623645868 : Unit := ()
def PySem.W.Fast.tw13517561105810345803 : Unit := ()
def PySem.W.Fast.tw11644761193124581116 : Unit := ()
def PySem.W.Fast.tw10648696425285692934 : Unit := ()
def PySem.W.Fast.tw3356268328590610778 : Unit := ()
def PySem.W.Fast.tw7104112523245981014 : Unit := ()
def PySem.W.Fast.tw15340700159280311856 : Unit := ()
def PySem.W.Fast.tw60315898246407990 : Unit := ()
def PySem.W.Fast.tw2477463291197078351 : Unit := ()
def PySem.W.Fast.tw2567539607118939247 : Unit := ()
def PySem.W.Fast.tw16306258943695131394 : Unit := ()
def PySem.W.Fast.tw10921209895832699225 : Unit := ()
def PySem.W.Fast.tw7854520811445684434 : Unit := ()
def PySem.W.Fast.tw6280763229218839610 : Unit := ()
def PySem.W.Fast.tw18061612272130349738 : Unit := ()
def PySem.W.Fast.tw12233870895683851974 : Unit := ()
def PySem.W.Fast.tw9464148605978438482 : Unit := ()
def PySem.W.Fast.tw12783996733412706043 : Unit := ()
def PySem.W.Fast.tw12887665516648931838 : Unit := ()
def PySem.W.Fast.tw2303380842043058781 : Unit := ()
def PySem.W.Fast.tw2206716446184293429 : Unit := ()
def PySem.W.Fast.tw8742903577017881453 : Unit := ()
def PySem.W.Fast.tw9369411997490219800 : Unit := ()
def PySem.W.Fast.tw15661091955708465095 : Unit := ()
def PySem.W.Fast.tw13585635894554727740 : Unit := ()
open PySem PySem.W PyProof.Rows
set_option maxRecDepth 100000 in
set_option maxHeartbeats 0 in
theorem PySem.Challenge.cw_gapwords_k53_ties_and_no_answer_holds : PySem.Challenge.rw_gapwords_k53_ties_and_no_answer.Holds := by
 w_on; o_law; k_head; (case hw => w_witness2)
 k_fill
 refine G.walk rfl rfl (fun w h Y => PySem.W.kIn_of Y) (fun w => ?S) G.holds
 case S =>
  refine' ⟨(Mi.Ylx.of ?_ ?_ ?_ ?_), (Mi.Ylx.of ?_ ?_ ?_ ?_), (Mi.Ylx.of ?_ ?_ ?_ ?_), (Mi.Ylx.of ?_ ?_ ?_ ?_), (Mi.Ylx.of ?_ ?_ ?_ ?_), (Mi.Ylx.of ?_ ?_ ?_ ?_), (Mi.Ylx.of ?_ ?_ ?_ ?_), (Mi.Ylx.of ?_ ?_ ?_ ?_), (Mi.Ylx.of ?_ ?_ ?_ ?_), (Mi.Ylx.of ?_ ?_ ?_ ?_), (Mi.Ylx.of ?_ ?_ ?_ ?_), (Mi.Ylx.of ?_ ?_ ?_ ?_), (Mi.Ylx.of ?_ ?_ ?_ ?_), (Mi.Ylx.of ?_ ?_ ?_ ?_), (Mi.Ylx.of ?_ ?_ ?_ ?_), (Mi.Ylx.of ?_ ?_ ?_ ?_), (Mi.Ylx.of ?_ ?_ ?_ ?_), (Mi.Ylx.of ?_ ?_ ?_ ?_), (Mi.Ylx.of ?_ ?_ ?_ ?_), (Mi.Ylx.of ?_ ?_ ?_ ?_), (Mi.Ylx.of ?_ ?_ ?_ ?_), (Mi.Ylx.of ?_ ?_ ?_ ?_), (Mi.Ylx.of ?_ ?_ ?_ ?_), (Mi.Ylx.of ?_ ?_ ?_ ?_), ?_, ?_, ?_, ?_, ?_, ?_, ?_, ?_, ?_, ?_, ?_, ?_⟩
  any_goals (first | k_is | k_exc | kit_is)
  all_goals kernel_rfl
#print axioms PySem.Challenge.cw_gapwords_k53_ties_and_no_answer_holds
