import PyProof.Rows.All
import Wide.All
import OpenK.AllK
import Wide.FinOn
import PyProof.EqAt
import PyProof.EqKinds
import PyProof.TupleCall
import Lean
import PySem.Challenge.RW_gapwords_k07_whole_texts_read
set_option Elab.async false
set_option linter.all false
set_option maxRecDepth 100000
section
set_option hygiene false
local macro_rules
|`(tactic|show 140)=>`(tactic|walk_at "ev")
|`(tactic|show 141)=>`(tactic|rfl)
|`(tactic|show 142)=>`(tactic|exact h.elim)
|`(tactic|show 143)=>`(tactic|dsimp only)
|`(tactic|show 144)=>`(tactic|cases h)
|`(tactic|show 145)=>`(tactic|split)
|`(tactic|show 146)=>`(tactic|exact rfl)
|`(tactic|show 147)=>`(tactic|subst e)
|`(tactic|show 148)=>`(tactic|exact Ye)
|`(tactic|show 149)=>`(tactic|exact Yb)
|`(tactic|show 150)=>`(tactic|exact ⟨rfl, rfl, rfl, by decide +kernel, rfl, by decide +kernel, by decide +kernel⟩)
|`(tactic|show 151)=>`(tactic|rw [q] at h; exact h)
|`(tactic|show 152)=>`(tactic|rw [q] at h)
|`(tactic|show 153)=>`(tactic|refine Ya ?_ ?_)
|`(tactic|show 154)=>`(tactic|intro pins s σ H Q I h)
|`(tactic|show 155)=>`(tactic|exact Yk)
|`(tactic|show 156)=>`(tactic|cases rx)
|`(tactic|show 157)=>`(tactic|exact (jv 0))
|`(tactic|show 158)=>`(tactic|exact (jv 1))
|`(tactic|show 159)=>`(tactic|rw [e])
local macro_rules
|`(tactic|show 160)=>`(tactic|exact (fun _ _ => rfl))
|`(tactic|show 161)=>`(tactic|exact h'.elim)
|`(tactic|show 162)=>`(tactic|rw [q] at h; cases h)
|`(tactic|show 163)=>`(tactic|obtain ⟨t, rfl⟩ := rx)
|`(tactic|show 164)=>`(tactic|exact (jv 2))
|`(tactic|show 165)=>`(tactic|refine YB ?_ ?_ ?_ ?_)
|`(tactic|show 166)=>`(tactic|rw [q] at h; exact h.elim)
|`(tactic|show 167)=>`(tactic|exact False.elim hq)
|`(tactic|show 168)=>`(tactic|refine ZAA ?_)
|`(tactic|show 169)=>`(tactic|exact Yy)
|`(tactic|show 170)=>`(tactic|refine Yd ?_)
|`(tactic|show 171)=>`(tactic|subst hP hw hK)
|`(tactic|show 172)=>`(tactic|simpa using this)
|`(tactic|show 173)=>`(tactic|intro pins s σ H D I h)
|`(tactic|show 174)=>`(tactic|exact (nomark _))
|`(tactic|show 175)=>`(tactic|refine Zr ?_)
|`(tactic|show 176)=>`(tactic|subst q1; subst q2)
|`(tactic|show 177)=>`(tactic|exact (fun _ => rfl))
|`(tactic|show 178)=>`(tactic|refine Yc ?_ ?_)
|`(tactic|show 179)=>`(tactic|obtain ⟨vs, h1, h2⟩ := ob)
local macro_rules
|`(tactic|show 180)=>`(tactic|exact XOk.ext x h)
|`(tactic|show 181)=>`(tactic|have z_len := O.z_len)
|`(tactic|show 182)=>`(tactic|cases h; exact absurd ht (by decide))
|`(tactic|show 183)=>`(tactic|rw [e1])
|`(tactic|show 184)=>`(tactic|exact Wo)
|`(tactic|show 185)=>`(tactic|intro pins s σ H x y v u Q I rx ry h)
|`(tactic|show 186)=>`(tactic|obtain ⟨t, rfl⟩ := r; rfl)
|`(tactic|show 187)=>`(tactic|rw [z] at h1; exact h1.elim)
|`(tactic|show 188)=>`(tactic|rw [z] at h; cases h)
|`(tactic|show 189)=>`(tactic|have hl := rv.length)
|`(tactic|show 190)=>`(tactic|cases ry)
|`(tactic|show 191)=>`(tactic|rw [q] at e; cases e)
|`(tactic|show 192)=>`(tactic|by_cases hb : b = a)
|`(tactic|show 193)=>`(tactic|exact (jv 3))
|`(tactic|show 194)=>`(tactic|obtain ⟨o', e1⟩ := I.base.there b o e hx)
|`(tactic|show 195)=>`(tactic|by_cases e : p.1 = k)
|`(tactic|show 196)=>`(tactic|have hn := line63)
|`(tactic|show 197)=>`(tactic|rw [ZAF z] at h'; exact h'.elim)
|`(tactic|show 198)=>`(tactic|exact (jv 4))
|`(tactic|show 199)=>`(tactic|rw [q2] at h; exact h)
local macro_rules
|`(tactic|show 200)=>`(tactic|have z_tuple := O.z_tuple)
|`(tactic|show 201)=>`(tactic|obtain ⟨f0, f1, f2, f3, f4, f5⟩ := hf it (by simp))
|`(tactic|show 202)=>`(tactic|simp only [List.mem_cons, List.not_mem_nil, or_false] at hb)
|`(tactic|show 203)=>`(tactic|exact Wn)
|`(tactic|show 204)=>`(tactic|obtain ⟨t, rfl⟩ := r)
|`(tactic|show 205)=>`(tactic|refine ⟨_, rfl, ?_⟩)
|`(tactic|show 206)=>`(tactic|exact (show False from r).elim)
|`(tactic|show 207)=>`(tactic|obtain ⟨sl, e1⟩ := I.base.slot b o e n hb hx)
|`(tactic|show 208)=>`(tactic|obtain ⟨e, n, ne, nf, d⟩ := I.pin p hp)
|`(tactic|show 209)=>`(tactic|exact PySem.F.plainAttrs_str)
|`(tactic|show 210)=>`(tactic|rw [q] at h'; exact h'.elim)
|`(tactic|show 211)=>`(tactic|refine Zj ?_ ?_)
|`(tactic|show 212)=>`(tactic|obtain ⟨oc, od, kV, doc, pm, an, cdv, ct, osl, rfl, lk, hcd⟩ := F.ex)
|`(tactic|show 213)=>`(tactic|refine Yp ?_ ?_ ?_)
|`(tactic|show 214)=>`(tactic|refine YX ?_)
|`(tactic|show 215)=>`(tactic|obtain ⟨hp, g, d, tk, os⟩ := s)
|`(tactic|show 216)=>`(tactic|intro wh pins s σ H Q I h)
|`(tactic|show 217)=>`(tactic|intro pins s σ H xs us Q I r h)
|`(tactic|show 218)=>`(tactic|exact (jv 7))
|`(tactic|show 219)=>`(tactic|obtain ⟨env, he, hf⟩ := ZAu.mp hb)
local macro_rules
|`(tactic|show 220)=>`(tactic|intro pins s σ H x v R I rx h)
|`(tactic|show 221)=>`(tactic|rw [q2] at h2; exact h2.elim)
|`(tactic|show 222)=>`(tactic|have z_isinstance := O.z_isinstance)
|`(tactic|show 223)=>`(tactic|intro pins s σ H x v vl vu lo hi sl Q I rx hs pl pu h)
|`(tactic|show 224)=>`(tactic|rw [h1] at k1; cases k1; rw [h2] at k2; exact absurd k2 (by decide))
|`(tactic|show 225)=>`(tactic|refine Ybg ?_ ?_)
|`(tactic|show 226)=>`(tactic|exact PySem.F.plainAttrs_list)
|`(tactic|show 227)=>`(tactic|obtain ⟨hh, g, d, t, os⟩ := s)
|`(tactic|show 228)=>`(tactic|rw [ZAF hz] at h'; exact h'.elim)
|`(tactic|show 229)=>`(tactic|rcases ZAx.mp hc with hc | hc)
|`(tactic|show 230)=>`(tactic|simp only [List.mem_cons, List.not_mem_nil, or_false] at hc)
|`(tactic|show 231)=>`(tactic|exact Option.some.inj h1)
|`(tactic|show 232)=>`(tactic|refine YW (ps := ["letter"]) (k := 1) ?_ ?_ ?_ ?_)
|`(tactic|show 233)=>`(tactic|exact hQ h' s.toks fun b o hb e => b' b o (fun z => hb (by simp [z])) e)
|`(tactic|show 234)=>`(tactic|exact absurd (show false = true from fx) ZAU)
|`(tactic|show 235)=>`(tactic|obtain ⟨h1, h2⟩ := h)
|`(tactic|show 236)=>`(tactic|obtain ⟨as, ρ, st, en, rp, h⟩ := h)
|`(tactic|show 237)=>`(tactic|intro value slice pins s σ H x y v u Q I rx ry h hs)
|`(tactic|show 238)=>`(tactic|intro pins s σ H Q I ⟨as, ρ, st, en, rp, h⟩)
|`(tactic|show 239)=>`(tactic|rcases hc with rfl | hc)
local macro_rules
|`(tactic|show 240)=>`(tactic|refine Yf ?_ ?_ ?_)
|`(tactic|show 241)=>`(tactic|exact hu)
|`(tactic|show 242)=>`(tactic|refine YT ?_ ?_)
|`(tactic|show 243)=>`(tactic|rw [e2])
|`(tactic|show 244)=>`(tactic|refine ZV ?_)
|`(tactic|show 245)=>`(tactic|exact (hr.mono (by decide)))
|`(tactic|show 246)=>`(tactic|refine Y0 ?_ ?_ ?_)
|`(tactic|show 247)=>`(tactic|exact (jv 8))
|`(tactic|show 248)=>`(tactic|refine VV ?_ ?_)
|`(tactic|show 249)=>`(tactic|exact ⟨s1, g1, rfl⟩)
|`(tactic|show 250)=>`(tactic|exact ⟨s2, g1.trans g2, rfl⟩)
|`(tactic|show 251)=>`(tactic|intro X hP hw hK hc i pins s σ H E I hf st hg)
|`(tactic|show 252)=>`(tactic|refine Wz ?_ ?_ ?_ ?_ ?_ ?_ ?_ ?_)
|`(tactic|show 253)=>`(tactic|obtain ⟨t', rfl⟩ := ry)
|`(tactic|show 254)=>`(tactic|exact sc.nd)
|`(tactic|show 255)=>`(tactic|cases (show u = Value.ref b from ry))
|`(tactic|show 256)=>`(tactic|refine Y6 ?_)
|`(tactic|show 257)=>`(tactic|exact (Zz Z8))
|`(tactic|show 258)=>`(tactic|obtain ⟨z, hd, vs, rel, dd⟩ := J4 I.hok e)
|`(tactic|show 259)=>`(tactic|refine wpAny_bind (wpAny_setField_rec hI (by simp) fun h1 g1 b1 => ?_))
local macro_rules
|`(tactic|show 260)=>`(tactic|refine Z9 ?_)
|`(tactic|show 261)=>`(tactic|rw [hc])
|`(tactic|show 262)=>`(tactic|exact PassesOwn.never)
|`(tactic|show 263)=>`(tactic|exact (Ws hu8))
|`(tactic|show 264)=>`(tactic|subst ey)
|`(tactic|show 265)=>`(tactic|exact YaW)
|`(tactic|show 266)=>`(tactic|exact Zv)
|`(tactic|show 267)=>`(tactic|refine L2.PW.pt ?_)
|`(tactic|show 268)=>`(tactic|refine ZU ?_ ?_ ?_ ?_ ?_)
|`(tactic|show 269)=>`(tactic|exact i_NoText)
|`(tactic|show 270)=>`(tactic|refine YS ?_ ?_ ?_)
|`(tactic|show 271)=>`(tactic|refine ZT ?_)
|`(tactic|show 272)=>`(tactic|exact YJ)
|`(tactic|show 273)=>`(tactic|exact z_tuple)
|`(tactic|show 274)=>`(tactic|exact Wa)
|`(tactic|show 275)=>`(tactic|refine YV ?_ ?_ ?_ ?_)
|`(tactic|show 276)=>`(tactic|refine Wt ?_)
|`(tactic|show 277)=>`(tactic|refine je_B (id := "len") ?_ ?_ ?_ ?_ ?_)
|`(tactic|show 278)=>`(tactic|refine Yr ?_ ?_ ?_ ?_)
|`(tactic|show 279)=>`(tactic|first | exact Or.inl rfl | exact Or.inr rfl)
local macro_rules
|`(tactic|show 280)=>`(tactic|refine ZA ?_ ?_ ?_ ?_)
|`(tactic|show 281)=>`(tactic|exact z_len)
|`(tactic|show 282)=>`(tactic|intro C s₀ H₀ ex)
|`(tactic|show 283)=>`(tactic|rw [ZAH])
|`(tactic|show 284)=>`(tactic|exact (Y3 (by decide)))
|`(tactic|show 285)=>`(tactic|exact YY)
|`(tactic|show 286)=>`(tactic|refine Yo ?_)
|`(tactic|show 287)=>`(tactic|refine ⟨?_, ?_, ?_⟩)
|`(tactic|show 288)=>`(tactic|obtain ⟨i, j, rfl, rfl, q⟩ := h)
|`(tactic|show 289)=>`(tactic|exact z_isinstance)
|`(tactic|show 290)=>`(tactic|exact ZC)
|`(tactic|show 291)=>`(tactic|exact T)
|`(tactic|show 292)=>`(tactic|have hu8 := YL hr)
|`(tactic|show 293)=>`(tactic|exact YC)
|`(tactic|show 294)=>`(tactic|have e : b = it := by simpa using hb)
|`(tactic|show 295)=>`(tactic|intro f cdv A outer s H E hr)
|`(tactic|show 296)=>`(tactic|exact Yh)
|`(tactic|show 297)=>`(tactic|refine Zb ?_ ?_ ?_ ?_ ?_ ?_ ?_ ?_)
|`(tactic|show 298)=>`(tactic|exact Zl)
|`(tactic|show 299)=>`(tactic|exact z_range)
local macro_rules
|`(tactic|show 300)=>`(tactic|exact YK)
|`(tactic|show 301)=>`(tactic|have hu := YZ hr)
local macro_rules|`(tactic|show $n:num)=>do
 let some l:=("178 122;295 123;170 286;240 293;6 18;7 158;245 71;275 241;178 270;143 140;169 2;148 160;129 125;17 266;277 300 146 281 272 153;146 289 296 146;146 146;146 279;157 149;158 149;165 263;284 126 213;163 253;14 19;140 283;159 141;148 148;193 149;280 146 299 153;124 149;213 70;240 285;148 174;256 124;251 171;32 2;170 122;148 149;261 140;178 128;294 147;77 267;8 165;271 211;246 218;149 169;75 153;43 252;2 184;243 140;170 128;178 260;214 148;214 3;185 288 22;146 131;149 153;164 153;164 148;157 158;177 170;144 179;132 158;80 157;79 248;0 3;6 19;34 201;8 267;14 18;254 17;146 153;157 153;291 15;240 298;244 276;240 274;170 270;33 153;193 153;74 148;175 157;146 71;140 249;264 258;264 255;183 140;170 260;225 47;153 134;246 157;222 181;146 130;241 158;155 174;149 149;265 265;198 153;177 48;257 21;257 30;143 145;143 259;156 190;136 78;7 164;7 157 137;82 155 45;81 21;3 3;46 125;44 203 133;36 78;9 250;16 146 254 16;31 31 74;8 20;14 218;14 164;6 72 37;139 157;138 23 135;278 70;301 292;153 155;297 269;282 287;242 30;268 262 146;73 72;273 290;127 127;31 76;214 247;256 153;148 32;149 35;164 160;20 31;15 130".splitOn ";")[n.getNat]?|Lean.Macro.throwUnsupported
 let a:=(l.splitOn " ").toArray.map fun s=>Lean.Syntax.mkNumLit s
 `(tactic|($[show $a:num];*))
set_option hygiene true
abbrev VSP := PySem.Value -> PySem.Shared -> Prop
abbrev LAO := List (PySem.Addr × PySem.Obj)
abbrev SOV := PySem.Str -> Option PySem.Value
open PySem.W (Frag fnOf nsIn)
section
open PySem PySem.Spec PyProof.Rows
def ZAA := @wpAny_bind
def ZAB := @Heap.get?_push_of_some
def ZAC := @wpAny_pure
def ZAD := @List.length_append
def ZAE := @if_pos
def ZAF := @if_neg
def ZAG := @Heap.lt_size
def ZAH := @List.length_map
def ZAI := @Nat.le_refl
def ZAJ := @List.getElem?_eq_getElem
def ZAK := @Heap.get?_push_size
def ZAL := @List.getElem?_eq_some_iff
def ZAM := @Nat.lt_of_lt_of_le
def ZAN := @decide_eq_false
def ZAO := @Nat.le_trans
def ZAP := @Nat.ne_of_lt
def ZAQ := @List.length_cons
def ZAR := @decide_eq_true
def ZAS := @List.forall_mem_cons
def ZAT := @List.mem_cons
def ZAU := @Bool.false_ne_true
def ZAV := @List.map_cons
def ZAW := @List.mem_cons_of_mem
def ZAX := @List.mem_append_right
def ZAY := @Heap.get?_update_other
def ZAZ := @List.append_nil
def ZAa := @List.getElem?_map
def ZAb := @Bool.and_eq_true
def ZAc := @List.mem_cons_self
def ZAd := @List.size_toArray
def ZAe := @List.append_assoc
def ZAf := @List.map_append
def ZAg := @List.length_singleton
def ZAh := @wpAny_holding
def ZAi := @wpAny_mono
def ZAj := @List.mem_map
def ZAk := @congrArg
def ZAl := @List.getElem?_append_left
def ZAm := @List.length_take
def ZAn := @List.flatten_cons
def ZAo := @List.take_of_length_le
def ZAq := @Heap.get?_update_self
def ZAr := @List.length_drop
def ZAs := @List.getElem_mem
def ZAt := @wpAny_newObj_type
def ZAu := @List.mem_filterMap
def ZAv := @List.drop_of_length_le
def ZAw := @Heap.size_push
def ZAx := @List.mem_append
def ZAy := @List.map_map
def ZAz := @List.flatMap_cons
def ZA0 := @List.getElem?_set_ne
def ZA1 := @List.mem_singleton
def ZA2 := @wpAny_call_entry
def ZA3 := @of_decide_eq_true
def ZA4 := @List.mem_append_left
def ZA5 := @Nat.lt_succ_self
def ZA6 := @List.lookup_cons
def ZA7 := @List.all_eq_true
def ZA8 := @List.getElem?_set_self
def ZA9 := @List.take_add_one
def ZBA := @Ne.symm
def ZBB := @List.getElem?_eq_none
def ZBC := @List.all_cons
def ZBD := @wpAny_truthy_bool
def ZBE := @Int.toNat_natCast
def ZBF := @wpAny_loadPart_at
def ZBG := @List.flatMap_append
def ZBH := @Nat.lt_irrefl
def ZBI := @List.getElem?_append_right
def ZBJ := @Array.getElem?_eq_some_iff
def ZBK := @Nat.min_eq_right
def ZBL := @wpAny_Call_Name_kw
def ZBM := @List.mem_of_getElem?
def ZBN := @Bool.and_eq_true_iff
def ZBO := @Nat.lt_succ_of_lt
def ZBP := @List.length_pos_iff
def ZBQ := @List.drop_drop
def ZBR := @wpAny_field
def ZBS := @wpAny_passesOwn
def ZBT := @List.any_cons
def ZBU := @wpAny_setState_of
def ZBV := @Nat.ne_of_gt
def ZBW := @wpAny_askSetting
def ZBX := @wpAny_attempt
def ZBY := @wpAny_execs_nil
def ZBZ := @wpAny_call
def ZBa := @Nat.min_eq_left
def ZBb := @Nat.zero_le
def ZBc := @Array.getElem?_eq_none
def ZBd := @Nat.le_of_lt
def ZBe := @wpAny_typeOf
def ZBf := @Array.getElem?_toList
def ZBg := @List.drop_left
def ZBh := @Heap.get?_none_of_le
def ZBi := @List.take_length
def ZBj := @List.flatMap_nil
def ZBk := @wpAny_newFunctionEnv_cells
def ZBl := @wpAny_standAt
def ZBm := @List.getD_eq_getElem?_getD
def ZBn := @Value.isStrOf_shape
def ZBo := @wpAny_isSubtype_exc
def ZBp := @List.filter_eq_self
def ZBq := @List.of_mem_zip
def ZBr := @List.getElem?_eq_none_iff
def ZBs := @List.drop_eq_getElem_cons
def ZBt := @Nat.lt_of_le_of_lt
def ZBu := @List.set_eq_of_length_le
def ZBv := @List.filter_append
def ZBw := @Int.emod_lt_of_pos
def ZBx := @beq_iff_eq
def ZBy := @List.mem_range
def ZBz := @List.length_eq_zero_iff
def ZB0 := @List.mem_singleton_self
def ZB1 := @List.reverse_cons
def ZB2 := @wpAny_pyIter_list
def ZB3 := @wpAny_execs_cons
def ZB4 := @List.countP_cons
def ZB5 := @List.foldl_cons
def ZB6 := @List.map_nil
def ZB7 := @wpAny_rule
def ZB8 := @Bool.or_eq_true
def ZB9 := @List.filter_nil
def ZCA := @Int.emod_nonneg
def ZCB := @Nat.add_le_add_left
def ZCC := @Heap.get?_update_ne
def ZCD := @List.drop_zero
def ZCE := @wpAny_seqItems
def ZCF := @List.take_left
def ZCG := @wpAny_pyIter_tuple
def ZCH := @List.contains_cons
def ZCI := @List.length_eraseIdx_of_lt
def ZCJ := @List.ext_getElem?
def ZCK := @Bool.eq_false_iff
def ZCL := @wpAny_load
def ZCM := @Array.getElem?_eq_getElem
def ZCN := @List.filter_cons
def ZCO := @wpAny_isInstance
def ZCP := @Option.bind_some
def ZCQ := @List.mem_zipIdx'
def ZCR := @List.filter_cons_of_neg
def ZCS := @List.filter_cons_of_pos
def ZCT := @Nat.add_sub_cancel_left
def ZCU := @StrLaws.partsBetween_eq
def ZCV := @List.mem_filter
def ZCW := @List.nodup_cons
def ZCX := @List.length_set
def ZCY := @List.length_nil
def ZCZ := @wpAny_ite_split
def ZCa := @Option.map_eq_some_iff
def ZCb := @Nat.le_succ
def ZCc := @wpAny_runValue
def ZCd := @wpAny_loadPart
def ZCe := @StrLaws.glued_eq_join
def ZCf := @List.length_filter_le
def ZCg := @List.take_append_drop
def ZCh := @Nat.not_lt
def ZCi := @wpAny_nameGoes_keeps
def ZCj := @List.mem_of_mem_drop
def ZCk := @List.mem_of_mem_take
def ZCl := @Bool.false_or
def ZCm := @List.take_nil
def ZCn := @Bool.or_true
end
set_option Elab.async false
set_option linter.all false
set_option maxRecDepth 100000
namespace L2
open PySem PySem.Spec PyProof.Rows
abbrev Key := Sum Int Str
def YnH : Key -> Value -> Bool
 | .inl k, v => Value.isInt k v
 | .inr x, v => Value.isStrOf x v
def YpU (w : World) : Key -> Int
 | .inl k => hashInt k
 | .inr x => hashStr w x
theorem YI : ∀ {k : Key} {v : Value}, YnH k v = true -> (∃ i t, k = Sum.inl i /\ v = Value.int i t) \/ (∃ x t, k = Sum.inr x /\ v = Value.str x t)
 | .inl i, v, h => by
  obtain ⟨t, e⟩ := Value.isInt_shape (k := i) (v := v) h
  exact .inl ⟨i, t, rfl, e⟩
 | .inr x, v, h => by
  obtain ⟨t, e⟩ := ZBn (x := x) (v := v) h
  exact .inr ⟨x, t, rfl, e⟩
theorem YfF (i : Int) (t : Tok) : YnH (.inl i) (.int i t) = true := by simp [YnH, Value.isInt]
theorem YfB (x : Str) (t : Tok) : YnH (.inr x) (.str x t) = true := by simp [YnH, Value.isStrOf]
theorem Yj3 (a b : Int) : decide ((Sum.inl a : Key) = Sum.inl b) = (a == b) := by
 by_cases e : a = b
 ·subst e; simp
 ·have h : ¬ (Sum.inl a : Key) = Sum.inl b := fun q => e (Sum.inl.inj q)
  rw [ZAN h]
  exact (beq_eq_false_iff_ne.mpr e).symm
theorem Yke (a b : Str) : decide ((Sum.inr a : Key) = Sum.inr b) = decide (a = b) := by
 by_cases e : a = b
 ·subst e; simp
 ·have h : ¬ (Sum.inr a : Key) = Sum.inr b := fun q => e (Sum.inr.inj q)
  rw [ZAN h, ZAN e]
theorem Yjt (a : Int) (b : Str) : decide ((Sum.inl a : Key) = Sum.inr b) = false := ZAN (fun q => nomatch q)
theorem Ykl (a : Str) (b : Int) : decide ((Sum.inr a : Key) = Sum.inl b) = false := ZAN (fun q => nomatch q)
def Yl0 (prog : Program) (w : World) : PySem.KeyKind prog w Key where
 is := YnH
 hash := YpU w
 inj := fun v a b ha hb => by
  rcases YI ha with ⟨i, t, rfl, rfl⟩ | ⟨x, t, rfl, rfl⟩
  ·rcases YI hb with ⟨j, u, rfl, e⟩ | ⟨y, u, rfl, e⟩
   ·injection e with e1 _; rw [e1]
   ·exact nomatch e
  ·rcases YI hb with ⟨j, u, rfl, e⟩ | ⟨y, u, rfl, e⟩
   ·exact nomatch e
   ·injection e with e1 _; rw [e1]
 byValue := fun k v h => by
  rcases YI h with ⟨i, t, rfl, rfl⟩ | ⟨x, t, rfl, rfl⟩ <;> rfl
 pyHash := fun hv h => by
  rcases YI hv with ⟨i, t, rfl, rfl⟩ | ⟨x, t, rfl, rfl⟩
  ·exact wpAny_pyHash_int h
  ·exact wpAny_pyHash_str h
 eqBool := fun hu hv h => by
  rcases YI hu with ⟨i, t, rfl, rfl⟩ | ⟨x, t, rfl, rfl⟩
  ·rcases YI hv with ⟨j, u, rfl, rfl⟩ | ⟨y, u, rfl, rfl⟩
   ·rw [Yj3] at h; exact wpAny_eqBool_int h
   ·rw [Yjt] at h; exact SeqAt.EqAt.int_str i t y u _ _ _ _ h
  ·rcases YI hv with ⟨j, u, rfl, rfl⟩ | ⟨y, u, rfl, rfl⟩
   ·rw [Ykl] at h; exact SeqAt.EqAt.str_int x t j u _ _ _ _ h
   ·rw [Yke] at h; exact wpAny_eqBool_str h
 «strs» := fun k x t v h => by
  rcases YI h with ⟨i, u, rfl, e⟩ | ⟨y, u, rfl, e⟩
  ·exact nomatch e
  ·injection e with e1 _
   subst e1
   cases v <;> rfl
theorem YcO (prog : Program) (w : World) (i : Int) (t : Tok) : (Yl0 prog w).is (.inl i) (.int i t) = true := YfF i t
theorem Yco (prog : Program) (w : World) (x : Str) (t : Tok) : (Yl0 prog w).is (.inr x) (.str x t) = true := YfB x t
end L2
namespace L2
open PySem PySem.Spec PyProof.Rows
inductive V where
 | non | bl (b : Bool) | int (i : Int) | str (x : Str) | byt (b : Array UInt8) | flt (b : UInt64) | ref (a : Addr) | ty (n : String)
 deriving DecidableEq
def RelV : V -> Value -> Prop
 | .non, u => u = Value.none
 | .bl b, u => u = Value.bool b
 | .int i, u => ∃ t, u = Value.int i t
 | .str x, u => ∃ t, u = Value.str x t
 | .byt b, u => ∃ t, u = Value.bytes b t
 | .flt b, u => ∃ t, u = Value.float b t
 | .ref a, u => u = Value.ref a
 | .ty n, u => u = Value.type n
abbrev Vals : List V -> List Value -> Prop := Paired RelV
theorem Vals.length {xs : List V} {us : List Value} (r : Vals xs us) : xs.length = us.length := Paired.length r
theorem Vals.get : ∀ {xs : List V} {us : List Value} {i : Nat} {x : V}, Vals xs us -> xs[i]? = some x -> ∃ u, us[i]? = some u /\ RelV x u
 | _, _, _, _, .nil, e => by simp at e
 | _, _, 0, _, .cons r _, e => by simp at e; subst e; exact ⟨_, rfl, r⟩
 | _, _, i + 1, x, .cons _ t, e => by
  obtain ⟨u, h1, h2⟩ := Vals.get (i := i) (x := x) t (by simpa using e)
  exact ⟨u, by simpa using h1, h2⟩
theorem Vals.set {x : V} {u : Value} (r : RelV x u) : ∀ {xs : List V} {us : List Value} (i : Nat), Vals xs us -> Vals (xs.set i x) (us.set i u)
 | _, _, _, .nil => .nil
 | _, _, 0, .cons _ t => .cons r t
 | _, _, i + 1, .cons q t => .cons q (Vals.set r i t)
theorem Vals.append : ∀ {xs ys : List V} {us ws : List Value}, Vals xs us -> Vals ys ws -> Vals (xs ++ ys) (us ++ ws)
 | _, _, _, _, .nil, s => s
 | _, _, _, _, .cons r t, s => .cons r (Vals.append t s)
theorem Vals.take : ∀ {xs : List V} {us : List Value} (n : Nat), Vals xs us -> Vals (xs.take n) (us.take n)
 | _, _, 0, _ => .nil
 | _, _, _ + 1, .nil => .nil
 | _, _, n + 1, .cons r t => .cons r (Vals.take n t)
theorem Vals.drop : ∀ {xs : List V} {us : List Value} (n : Nat), Vals xs us -> Vals (xs.drop n) (us.drop n)
 | _, _, 0, r => r
 | _, _, _ + 1, .nil => .nil
 | _, _, n + 1, .cons _ t => Vals.drop n t
def Ym0 : Option V -> Option Value -> Prop
 | some v, some u => RelV v u
 | none, none => True
 | _, _ => False
def KV {κ : Type} : List (κ × V) -> List (κ × Value) -> Prop := Paired fun (p : κ × V) (q : κ × Value) => p.1 = q.1 /\ RelV p.2 q.2
def kV : Key -> V
 | .inl i => .int i
 | .inr x => .str x
inductive HO where
 /-- a list -/
 | lst (xs : List V)
 /-- a tuple (never changes) -/
 | tup (xs : List V)
 /-- a dict whose keys are ints and texts; one whose keys are tuples of ints and texts (the empty one is both) -/
 | dK (kvs : List (Key × V)) | dT (kvs : List (List Key × V))
 /-- a set of ints: its members, its size -/
 | set (S : Int -> Bool) (n : Nat)
 /-- an instance of the class at C, its dict at dx, its attributes -/
 | ins (C dx : Addr) (fs : List (Str × V))
 /-- the dict of the instance at x -/
 | own (x : Addr)
 /-- the dict of an exception -/
 | xd (fs : List (Str × V))
 /-- a bound method, f of x -/
 | met (f x : Addr)
 /-- a range object lo, lo + 1, .. below hi -/
 | rng (lo hi : Int)
 /-- a thing that is known to the object (the script; a dict while a loop walks it): read, never written while it is so -/
 | frz (o : Obj) (u : HO)
 /-- a code object's table -/
 | tbl (ps : Array Value)
 /-- any other thing, by what is true of its one object (a def of one's own: SetO a S n := HO.ext fun h => ..) -/
 | ext (φ : Heap -> Prop)
abbrev Hp := Addr -> Option HO
def upd (H : Hp) (a : Addr) (o : HO) : Hp := fun b => if b = a then some o else H b
theorem Ym {H : Hp} {a : Addr} {o : HO} : upd H a o a = some o := by unfold upd; rw [if_pos rfl]
theorem Yi {H : Hp} {a b : Addr} {o : HO} (h : b ≠ a) : upd H a o b = H b := by unfold upd; rw [if_neg h]
theorem YkY {H : Hp} {a b : Addr} {o u : HO} (h : H a = some o) (h' : H b = some u) (d : o ≠ u) : a ≠ b := by
 intro e; subst e; rw [h] at h'; exact d (Option.some.inj h')
theorem Yg {H : Hp} {a b : Addr} {o : HO} (h : H a = some o) (h' : H b = none) : a ≠ b := by
 intro e; subst e; rw [h] at h'; cases h'
section
variable (P : Program) (w : World)
def Yme (H : Hp) (h : Heap) (a : Addr) : HO -> Prop
 | .lst xs => xs.length <= sizeLine /\ ∃ (its : List Value) (n : Nat), Vals xs its /\ h.get? a = some { cls := .type "list", data := .seq its.toArray n }
 | .tup xs => xs.length <= sizeLine /\ ∃ its : List Value, Vals xs its /\ IsTup h a its.toArray
 | .dK kvs => kvs.length <= sizeLine /\ (a == sysModules) = false /\ ∃ vs, KV kvs vs /\ h.DictOf (Yl0 P w) a vs
 | .dT kvs => kvs.length <= sizeLine /\ (a == sysModules) = false /\ ∃ xs : List (List Key × Addr × Value),
  Paired (fun (p : List Key × V) (q : List Key × Addr × Value) => p.1 = q.1 /\ H q.2.1 = some (.tup (p.1.map kV)) /\ RelV p.2 q.2.2) kvs xs /\
  ∃ o es ep, h.get? a = some o /\ o.ExactDict /\ o.data = .dict es ep /\ es.toList = xs.map (entryOfKey (tupleKind (Yl0 P w))) /\ (xs.map (·.1)).Nodup
 | .set S n => h.SetOf (intKind P w) a S n
 | .ins C dx fs => H dx = some (.own a) /\ fs.length <= 1000 /\ dx ≠ a /\ h.get? a = some (PySem.W.instObj C dx) /\
  ∃ mA, h.Ns1 dx mA /\ (∀ f, Ym0 (fs.lookup f) (mA f)) /\ PySem.Within mA (fs.map (·.1))
 | .own _ => ∃ o, h.get? a = some o
 | .xd fs => ∃ mA, h.Ns1 a mA /\ ∀ f, Ym0 (fs.lookup f) (mA f)
 | .rng lo hi => ∃ t u v, h.get? a = some { cls := .type "range", data := .fields #[.int lo t, .int hi u, .int 1 v] }
 | .frz o u => h.get? a = some o /\ Yme H h a u
 | .tbl ps => h.get? a = some { cls := .none, data := .fields ps }
 | .met f x => h.get? a = some (PySem.W.methodObj (.ref f) (.ref x))
 | .ext φ => φ h /\ (∃ o, h.get? a = some o) /\ ∀ h1 h2 : Heap, φ h1 -> (∀ o, h1.get? a = some o -> h2.get? a = some o) -> φ h2
def HOk (H : Hp) (h : Heap) : Prop := ∀ a o, H a = some o -> Yme P w H h a o
end
section
variable {P : Program} {w : World} {H H' : Hp} {h h' : Heap} {a : Addr} {o : HO}
theorem Yme.lt (x : Yme P w H h a o) : a < h.objs.size := by
 cases o with
 | lst xs => obtain ⟨_, _, _, _, e⟩ := x; exact ZAG e
 | tup xs => obtain ⟨_, _, _, p⟩ := x; exact p.lt
 | dK kvs => obtain ⟨_, _, _, _, o, _, _, e, _⟩ := x; exact ZAG e
 | dT kvs => obtain ⟨_, _, _, _, o, _, _, e, _⟩ := x; exact ZAG e
 | set S n => obtain ⟨o, _, _, _, e, _⟩ := x; exact ZAG e
 | ins C dx fs => obtain ⟨_, _, _, e, _⟩ := x; exact ZAG e
 | own y => obtain ⟨_, e⟩ := x; exact ZAG e
 | xd fs => obtain ⟨_, ⟨_, _, _, e, _⟩, _⟩ := x; exact ZAG e
 | rng lo hi => obtain ⟨_, _, _, e⟩ := x; exact ZAG e
 | frz ob u => obtain ⟨e, _⟩ := x; exact ZAG e
 | tbl ps => exact ZAG (show h.get? a = some _ from x)
 | met f y => exact ZAG (show h.get? a = some _ from x)
 | ext φ => obtain ⟨_, ⟨_, e⟩, _⟩ := x; exact ZAG e
theorem Paired.mapP {α β : Type} {F G : α -> β -> Prop} : ∀ {l₁ : List α} {l₂ : List β}, Paired F l₁ l₂ -> (∀ a b, F a b -> G a b) -> Paired G l₁ l₂
 | _, _, .nil, _ => .nil
 | _, _, .cons r t, f => .cons (f _ _ r) (Paired.mapP t f)
theorem Yme.stay (x : Yme P w H h a o) (k : ∀ b u, (b = a \/ H b = some (.own a)) -> h.get? b = some u -> h'.get? b = some u)
 (ho : ∀ b, H b = some (.own a) -> H' b = some (.own a)) (ht : ∀ b xs, H b = some (.tup xs) -> H' b = some (.tup xs)) : Yme P w H' h' a o := by
 induction o with
 | lst xs => obtain ⟨z, its, n, r, e⟩ := x; exact ⟨z, its, n, r, k _ _ (.inl rfl) e⟩
 | tup xs => obtain ⟨z, its, r, ob, e, c⟩ := x; exact ⟨z, its, r, ob, k _ _ (.inl rfl) e, c⟩
 | dK kvs => obtain ⟨z, y, vs, r, ob, es, ep, e, c⟩ := x; exact ⟨z, y, vs, r, ob, es, ep, k _ _ (.inl rfl) e, c⟩
 | dT kvs =>
  obtain ⟨z, y, xs, r, ob, es, ep, e, c⟩ := x
  exact ⟨z, y, xs, Paired.mapP r fun p q z => ⟨z.1, ht _ _ z.2.1, z.2.2⟩, ob, es, ep, k _ _ (.inl rfl) e, c⟩
 | set S n => obtain ⟨ob, es, ep, t, e, c⟩ := x; exact ⟨ob, es, ep, t, k _ _ (.inl rfl) e, c⟩
 | ins C dx fs =>
  obtain ⟨d, z, ne, e, mA, ⟨od, es, ep, e2, c⟩, r⟩ := x
  exact ⟨ho _ d, z, ne, k _ _ (.inl rfl) e, mA, ⟨od, es, ep, k _ _ (.inr d) e2, c⟩, r⟩
 | own y => obtain ⟨ob, e⟩ := x; exact ⟨ob, k _ _ (.inl rfl) e⟩
 | xd fs => obtain ⟨mA, ⟨od, es, ep, e, c⟩, r⟩ := x; exact ⟨mA, ⟨od, es, ep, k _ _ (.inl rfl) e, c⟩, r⟩
 | rng lo hi => obtain ⟨t, u, v, e⟩ := x; exact ⟨t, u, v, k _ _ (.inl rfl) e⟩
 | frz ob u ih => obtain ⟨e, q⟩ := x; exact ⟨k _ _ (.inl rfl) e, ih q⟩
 | tbl ps =>
  have e : h.get? a = some { cls := .none, data := .fields ps } := x
  show h'.get? a = some { cls := .none, data := .fields ps }
  exact k a _ (.inl rfl) e
 | met f y =>
  have e : h.get? a = some (PySem.W.methodObj (.ref f) (.ref y)) := x
  show h'.get? a = some (PySem.W.methodObj (.ref f) (.ref y))
  exact k a _ (.inl rfl) e
 | ext φ => obtain ⟨p, ⟨o, e⟩, st⟩ := x; exact ⟨st _ _ p fun o q => k _ _ (.inl rfl) q, ⟨o, k _ _ (.inl rfl) e⟩, st⟩
theorem HOk.lt (x : HOk P w H h) (e : H a = some o) : a < h.objs.size := (x a o e).lt
theorem HOk.fresh (x : HOk P w H h) (e : h.objs.size <= a) : H a = none := by
 cases q : H a with
 | none => rfl
 | some u => exact absurd (ZAM (x.lt q) e) (ZBH _)
theorem HOk.kept (x : HOk P w H h) (k : ∀ b u, h.get? b = some u -> h'.get? b = some u) : HOk P w H h' := fun a o e =>
 (x a o e).stay (fun b u _ q => k b u q) (fun _ q => q) fun _ _ q => q
theorem HOk.laid (x : HOk P w H h) (k : ∀ b u, h.get? b = some u -> h'.get? b = some u) (hp : h.objs.size <= a) (new : Yme P w (upd H a o) h' a o) : HOk P w (upd H a o) h' := fun b u e => by
 have hn := x.fresh hp
 show 192
 ·subst hb; rw [Ym] at e; cases e; exact new
 ·rw [Yi hb] at e
  exact (x b u e).stay (fun c v _ q => k c v q) (fun c q => by rw [Yi (Yg q hn)]; exact q) fun c xs q => by rw [Yi (Yg q hn)]; exact q
end
def Rd (H : Hp) (a : Addr) (u : HO) : Prop := H a = some u \/ ∃ o, H a = some (.frz o u)
theorem Rd.ok {P : Program} {w : World} {H : Hp} {h : Heap} {a : Addr} {u : HO} (r : Rd H a u) (x : HOk P w H h) : Yme P w H h a u := by
 rcases r with r | ⟨o, r⟩
 ·exact x a u r
 ·obtain ⟨_, q⟩ := x a _ r
  exact q
def Mut : Option HO -> Prop
 | some (.lst _) => True
 | some (.dK _) => True
 | some (.dT _) => True
 | some (.set _ _) => True
 | some (.ins _ _ _) => True
 | some (.ext _) => True
 | _ => False
section
variable {P : Program} {w : World} {H : Hp} {h h' : Heap} {x e : Addr} {o' : HO}
theorem HOk.write (ok : HOk P w H h) (mu : Mut (H x)) (he : e = x \/ H e = some (.own x)) (k : ∀ b u, b ≠ e -> h.get? b = some u -> h'.get? b = some u) (heo : ∃ u, h'.get? e = some u)
 (new : Yme P w (upd H x o') h' x o') : HOk P w (upd H x o') h' := fun b u q => by
 have nown : ∀ c y, H c = some (.own y) -> c ≠ x := fun c y r z => by subst z; rw [r] at mu; exact mu
 have ntup : ∀ c xs, H c = some (.tup xs) -> c ≠ x := fun c xs r z => by subst z; rw [r] at mu; exact mu
 by_cases hb : b = x
 ·subst hb; rw [Ym] at q; cases q; exact new
 ·rw [Yi hb] at q
  by_cases hbe : b = e
  ·have q' : H b = some (.own x) := by
    rcases he with z | z
    ·exact absurd (hbe.trans z) hb
    ·rw [hbe]; exact z
   rw [q] at q'; cases q'
   obtain ⟨v, hv⟩ := heo
   exact ⟨v, by rw [hbe]; exact hv⟩
  ·refine (ok b u q).stay (fun c v hc r => k c v ?_ r) (fun c r => by rw [Yi (nown c b r)]; exact r) fun c xs r => by rw [Yi (ntup c xs r)]; exact r
   show 239
   ·exact hbe
   ·rintro rfl
    rcases he with z | z
    ·exact nown c b hc z
    ·rw [hc] at z; cases z; exact hb rfl
end
structure Un (fs ex : List Addr) (H H' : Hp) (h h' : Heap) : Prop where
 keep : ∀ b o, h.get? b = some o -> H b = none -> b ∉ fs -> b ∉ ex -> h'.get? b = some o
 slot : ∀ b o, h.get? b = some o -> H b = none -> b ∈ fs -> b ∉ ex -> ∃ sl, h'.get? b = some { o with slots := sl }
 free : ∀ b o, h.get? b = some o -> H b = none -> b ∉ ex -> H' b = none
 there : ∀ b o, h.get? b = some o -> b ∉ ex -> ∃ o', h'.get? b = some o'
 tups : ∀ b xs, H b = some (.tup xs) -> H' b = some (.tup xs)
 frzs : ∀ b o u, H b = some (.frz o u) -> H' b = some (.frz o u)
 tbls : ∀ b ps, H b = some (.tbl ps) -> ∃ more, H' b = some (.tbl (ps ++ more))
section
variable {fs fs' ex ex' : List Addr} {H H1 H2 : Hp} {h h1 h2 h' : Heap} {a x e : Addr} {o : HO}
theorem Un.any (u : Un fs ex H H1 h h1) {b : Addr} {ob : Obj} (q : h.get? b = some ob) (n : H b = none) (hx : b ∉ ex) : ∃ sl, h1.get? b = some { ob with slots := sl } := by
 by_cases hb : b ∈ fs
 ·exact u.slot b ob q n hb hx
 ·exact ⟨ob.slots, u.keep b ob q n hb hx⟩
theorem Un.trans (a : Un fs ex H H1 h h1) (b : Un fs ex H1 H2 h1 h2) : Un fs ex H H2 h h2 where
 keep := fun c ob q n hc hx => b.keep c ob (a.keep c ob q n hc hx) (a.free c ob q n hx) hc hx
 slot := fun c ob q n hc hx => by
  obtain ⟨sl, e1⟩ := a.slot c ob q n hc hx
  obtain ⟨sl', e2⟩ := b.slot c _ e1 (a.free c ob q n hx) hc hx
  exact ⟨sl', e2⟩
 free := fun c ob q n hx => by
  obtain ⟨o', e1⟩ := a.there c ob q hx
  exact b.free c o' e1 (a.free c ob q n hx) hx
 there := fun c ob q hx => by
  obtain ⟨o', e1⟩ := a.there c ob q hx
  exact b.there c o' e1 hx
 tups := fun c xs q => b.tups c xs (a.tups c xs q)
 frzs := fun c ob xs q => b.frzs c ob xs (a.frzs c ob xs q)
 tbls := fun c ps q => by
  obtain ⟨m1, e1⟩ := a.tbls c ps q
  obtain ⟨m2, e2⟩ := b.tbls c _ e1
  exact ⟨m1 ++ m2, by rw [e2, Array.append_assoc]⟩
theorem Un.kept (k : ∀ b u, h.get? b = some u -> h'.get? b = some u) : Un fs ex H H h h' :=
 ⟨fun b ob q _ _ _ => k b ob q, fun b ob q _ _ _ => ⟨ob.slots, k b ob q⟩, fun _ _ _ n _ => n, fun b ob q _ => ⟨ob, k b ob q⟩, fun _ _ q => q, fun _ _ _ q => q, fun _ ps q => ⟨#[], by rw [q]; simp⟩⟩
theorem Un.refl : Un fs ex H H h h := Un.kept fun _ _ q => q
theorem Un.laid (k : ∀ b u, h.get? b = some u -> h'.get? b = some u) (hp : h.objs.size <= a) (hn : H a = none) : Un fs ex H (upd H a o) h h' where
 keep := fun b u q _ _ _ => k b u q
 slot := fun b u q _ _ _ => ⟨u.slots, k b u q⟩
 free := fun b u q n _ => by rw [Yi (ZAP (ZAM (ZAG q) hp))]; exact n
 there := fun b u q _ => ⟨u, k b u q⟩
 tups := fun b xs q => by rw [Yi (Yg q hn)]; exact q
 frzs := fun b u xs q => by rw [Yi (Yg q hn)]; exact q
 tbls := fun b ps q => ⟨#[], by rw [Yi (Yg q hn), q]; simp⟩
theorem Un.write (mu : Mut (H x)) (he : e = x \/ H e = some (.own x)) (k : ∀ b u, b ≠ e -> h.get? b = some u -> h'.get? b = some u) (heo : ∃ u, h'.get? e = some u) : Un fs ex H (upd H x o) h h' := by
 have hx : ∀ b, H b = none -> b ≠ x := fun b n z => by subst z; rw [n] at mu; exact mu
 have hb : ∀ b, H b = none -> b ≠ e := fun b n z => by
  subst z
  rcases he with r | r
  ·exact hx b n r
  ·rw [n] at r; cases r
 have hm : ∀ b u, H b = some u -> ¬ Mut (some u) -> b ≠ x := fun b u q nm z => by subst z; rw [q] at mu; exact nm mu
 refine ⟨fun b u q n _ _ => k b u (hb b n) q, fun b u q n _ _ => ⟨u.slots, k b u (hb b n) q⟩, fun b u q n _ => by rw [Yi (hx b n)]; exact n, fun b u q _ => ?_,
  fun b xs q => by rw [Yi (hm b _ q fun z => z)]; exact q, fun b u xs q => by rw [Yi (hm b _ q fun z => z)]; exact q, fun b ps q => ⟨#[], by rw [Yi (hm b _ q fun z => z), q]; simp⟩⟩
 by_cases hbe : b = e
 ·subst hbe; exact heo
 ·exact ⟨u, k b u hbe q⟩
theorem Un.mono (u : Un fs ex H H1 h h1) (hs : ∀ b ∈ fs, b ∈ fs') (hx : ∀ b ∈ ex, b ∈ ex') : Un fs' ex' H H1 h h1 :=
 ⟨fun b ob q n hb he => u.keep b ob q n (fun z => hb (hs b z)) fun z => he (hx b z), fun _ _ q n _ he => u.any q n fun z => he (hx _ z), fun b ob q n he => u.free b ob q n fun z => he (hx b z), fun b ob q he => u.there b ob q fun z => he (hx b z), u.tups, u.frzs, u.tbls⟩
end
def trk (h : Heap) (H : Hp) : List Addr := (List.range h.objs.size).filter fun a => (H a).isSome
def YnN (h : Heap) (H : Hp) : Heap := PySem.W.hideAll h (trk h H)
theorem YfA (h : Heap) (H : Hp) : (YnN h H).objs.size = h.objs.size := PySem.W.hideAll_size _ _
theorem Yhm {h : Heap} {H : Hp} {b : Addr} {o : Obj} (e : h.get? b = some o) (n : H b = none) : (YnN h H).get? b = some o :=
 PySem.W.hideAll_get _ e fun hm => by
  have q : (H b).isSome = true := (ZCV.mp hm).2
  rw [n] at q; simp at q
theorem YhY {h : Heap} {H : Hp} {b : Addr} {o : Obj} (e : (YnN h H).get? b = some o) : h.get? b = some o /\ H b = none := by
 have e' : h.get? b = some o := PySem.W.of_hideAll (trk h H) e
 refine ⟨e', ?_⟩
 cases q : H b with
 | none => rfl
 | some x =>
  have hm : b ∈ trk h H := List.mem_filter.mpr ⟨List.mem_range.mpr (Heap.lt_size e'), by simp [q]⟩
  have z : (YnN h H).get? b = none := PySem.W.hideAll_none (trk h H) hm
  rw [z] at e; cases e
def Yo1 (g h : Heap) (L : Addr) : List (Addr × Obj) := (List.range h.objs.size).filterMap fun a => if a = L \/ (g.get? a).isSome = true then none else (h.get? a).map fun o => (a, o)
def rest (g h : Heap) (L d : Addr) : List (Addr × Obj) := (Yo1 g h L).filter fun p => decide (p.1 ≠ d)
end L2
namespace L2
open PySem PySem.Spec PyProof.Rows
structure Mod (K : Frag) (mg : SOV) (base : Heap) : Prop where
 kin : K.In base
 glob : base.Ns mainGlobals mg
 blt : ∃ mb, base.Ns builtinsNs mb /\ ∀ x : Str, x ≠ "__name__" -> mb x = bootBuiltins x
 nolimit : base.NoLimit
structure Cx where
 prog : Program
 w : World
 K : Frag
 mg : Str -> Option Value
 base : Heap
 A : Around
 N : List Str
 s₀ : Shared
 H₀ : Hp
 env : Env
 outer : List Env
 stack : List Env
 ex : List Addr
 fn : Str -> Bool
 calm : Bool
 pn : List (Addr × Obj)
 xe : Value -> Shared -> Prop
def frs (l : List Env) : List Addr := l.filterMap (·.frame)
abbrev Cx.fs (X : Cx) : List Addr := frs X.outer
def Vis (sc : Scope) (x : Str) : Prop := sc.names.lookup x = some .local \/ sc.names.lookup x = some .cell \/ sc.names.lookup x = some .free
def Loc (sc : Scope) (x : Str) : Prop := sc.names.lookup x = some .local \/ sc.names.lookup x = some .cell
def Look (env : Env) (h : Heap) (m : SOV) (x : Str) (u : Value) : Prop :=
 (env.kindOf x = some .local /\ m x = some u) \/ ((env.kindOf x = some .cell \/ env.kindOf x = some .free) /\ ∃ c, env.cells.lookup x = some c /\ h.IsCell c (some u))
structure Cx.Ok (X : Cx) : Prop where
 mod : Mod X.K X.mg X.base
 kind : X.env.scope.kind = .function
 glob : X.env.globals = mainGlobals
 blt : X.env.builtins = builtinsNs
 above : X.s₀.heap.objs.size <= X.env.locals
 inj : ∀ x y c, X.env.cells.lookup x = some c -> X.env.cells.lookup y = some c -> x = y
 has : ∀ x, (X.env.kindOf x = some .cell \/ X.env.kindOf x = some .free) -> ∃ c, X.env.cells.lookup x = some c
 cab : ∀ x c, X.fn x = true -> X.env.cells.lookup x = some c -> X.s₀.heap.objs.size <= c
 hd : X.calm = true -> X.A.handled = none
 frames : X.A.frames = some X.stack
 stk : X.stack = X.outer \/ (X.stack = X.env :: X.outer /\ X.env.frame = some X.env.locals)
 exf : ∀ b ∈ X.ex, b ≠ X.env.locals /\ ∀ x c, X.env.cells.lookup x = some c -> c ≠ b
 bs : ∀ b o, X.base.get? b = some o -> X.s₀.heap.get? b = some o /\ X.H₀ b = none
 bsz : X.base.objs.size <= X.s₀.heap.objs.size
 noex : ∀ b o, X.base.get? b = some o -> b ∉ X.ex
 exfs : ∀ b ∈ X.ex, b ∉ X.fs
 funs : X.s₀.heap.FunFrames X.base X.outer
 frf : ∀ b ∈ X.fs, X.H₀ b = none
structure Inv (X : Cx) (pins : LAO) (σ : List (Option V)) (H : Hp) (s : Shared) : Prop where
 ok : X.Ok
 os : s.os = X.s₀.os
 bare : AllBare s.gens
 base : Un X.fs X.ex X.H₀ H X.s₀.heap s.heap
 loc : ∃ m, s.heap.Ns X.env.locals m /\ ∀ (i : Nat) (x : Str) (v : V), X.N[i]? = some x -> σ[i]? = some (some v) -> Vis X.env.scope x -> ∃ u, RelV v u /\ Look X.env s.heap m x u
 cell : ∀ x c, X.env.cells.lookup x = some c -> ∃ v, s.heap.IsCell c v
 free : H X.env.locals = none
 freeC : ∀ x c, X.env.cells.lookup x = some c -> H c = none
 pin : ∀ p ∈ X.pn ++ pins, s.heap.get? p.1 = some p.2 /\ H p.1 = none /\ p.1 ≠ X.env.locals /\ p.1 ∉ X.fs /\ ∀ v, p.2.data ≠ .cell v
 hok : HOk X.prog X.w H s.heap
 len : σ.length = X.N.length
section
variable {X : Cx} {pins : LAO} {σ : List (Option V)} {H H' : Hp} {s : Shared} {h' : Heap}
theorem Cx.Ok.nofr (ok : X.Ok) {b : Addr} {o : Obj} (e : X.base.get? b = some o) : b ∉ X.fs := fun hb => by
 have := (ok.funs.mem hb).1
 rw [e] at this; cases this
theorem Inv.bs (I : Inv X pins σ H s) : ∀ b o, X.base.get? b = some o -> s.heap.get? b = some o /\ H b = none := fun b o e =>
 ⟨I.base.keep b o (I.ok.bs b o e).1 (I.ok.bs b o e).2 (I.ok.nofr e) (I.ok.noex b o e), I.base.free b o (I.ok.bs b o e).1 (I.ok.bs b o e).2 (I.ok.noex b o e)⟩
theorem Inv.bk (I : Inv X pins σ H s) : ∀ b o, X.base.get? b = some o -> s.heap.get? b = some o := fun b o e => (I.bs b o e).1
theorem Inv.mod (I : Inv X pins σ H s) : Mod X.K X.mg X.base := I.ok.mod
theorem Inv.kIn (I : Inv X pins σ H s) : X.K.In s.heap := I.ok.mod.kin.keeps I.bk
theorem Inv.nolimit (I : Inv X pins σ H s) : s.heap.NoLimit := I.ok.mod.nolimit.keeps I.bk
theorem Inv.lt (I : Inv X pins σ H s) : X.env.locals < s.heap.objs.size := let ⟨_, hn, _⟩ := I.loc; hn.lt
theorem Inv.sz (I : Inv X pins σ H s) : X.s₀.heap.objs.size <= s.heap.objs.size := ZAO I.ok.above (ZBd I.lt)
theorem Inv.nofs (I : Inv X pins σ H s) {a : Addr} (h : s.heap.objs.size <= a) : a ∉ X.fs := fun hb => by
 obtain ⟨_, o, ho, _⟩ := I.ok.funs.mem hb
 exact absurd (ZAM (ZAG ho) (ZAO I.sz h)) (ZBH _)
theorem Inv.cne (I : Inv X pins σ H s) : ∀ x c, X.env.cells.lookup x = some c -> c ≠ X.env.locals := fun x c e z => by
 obtain ⟨v, o, ho, hd⟩ := I.cell x c e
 obtain ⟨m, ⟨o', es, ep, ho', hd', _⟩, _⟩ := I.loc
 rw [z, ho'] at ho; cases ho; rw [hd'] at hd; cases hd
theorem Inv.funs (I : Inv X pins σ H s) : s.heap.FunFrames X.base X.outer := by
 have all : ∀ (l : List Env), (∀ b ∈ frs l, b ∈ X.fs) -> X.s₀.heap.FunFrames X.base l -> s.heap.FunFrames X.base l := by
  intro l
  induction l with
  | nil => intro _ _; trivial
  | cons env r ih =>
   intro hs hl
   obtain ⟨hk, ⟨L, o, hf, hn, ho, hd⟩, hr⟩ := hl
   have hL : L ∈ X.fs := hs L (by unfold frs; rw [List.filterMap_cons, hf]; exact List.mem_cons_self)
   obtain ⟨sl, e⟩ := I.base.slot L o ho (I.ok.frf L hL) hL fun z => I.ok.exfs L z hL
   exact ⟨hk, ⟨L, _, hf, hn, e, hd⟩, ih (fun b hb => hs b (by unfold frs; rw [List.filterMap_cons, hf]; exact List.mem_cons_of_mem _ hb)) hr⟩
 exact all X.outer (fun _ hb => hb) I.ok.funs
theorem Inv.stack (I : Inv X pins σ H s) : s.heap.FunFrames X.base X.stack := by
 rcases I.ok.stk with e | ⟨e, hf⟩
 ·rw [e]; exact I.funs
 ·rw [e]
  obtain ⟨m, hn, _⟩ := I.loc
  refine .cons (by rw [I.ok.kind]; decide) hf hn ?_ I.funs
  exact ZBh (ZAO I.ok.bsz I.ok.above)
theorem Inv.stkSub (I : Inv X pins σ H s) : ∀ b ∈ frs X.stack, b ∈ X.env.locals :: X.fs := fun b hb => by
 rcases I.ok.stk with e | ⟨e, hf⟩
 ·rw [e] at hb; exact ZAW _ hb
 ·rw [e] at hb
  unfold frs at hb
  rw [List.filterMap_cons, hf] at hb
  exact hb
theorem Inv.stkFree (I : Inv X pins σ H s) : ∀ b ∈ frs X.stack, H b = none := fun b hb => by
 rcases ZAT.mp (I.stkSub b hb) with e | hb
 ·rw [e]; exact I.free
 ·obtain ⟨_, o, ho, _⟩ := I.ok.funs.mem hb
  exact I.base.free b o ho (I.ok.frf b hb) fun z => I.ok.exfs b z hb
theorem Inv.step {g' : Array GenState} {t' : Nat} {d' : Drawn} {ch : List Addr} (I : Inv X pins σ H s)
 (hch : ∀ b ∈ ch, (b ∈ X.ex \/ X.s₀.heap.objs.size <= b) /\ b ≠ X.env.locals /\ (∀ x c, X.env.cells.lookup x = some c -> c ≠ b) /\ ∀ p ∈ X.pn ++ pins, p.1 ≠ b)
 (keep : ∀ b o, b ≠ X.env.locals -> b ∉ X.fs -> b ∉ ch -> s.heap.get? b = some o -> H b = none -> h'.get? b = some o)
 (slot : ∀ b o, b ≠ X.env.locals -> b ∈ X.fs -> b ∉ ch -> s.heap.get? b = some o -> H b = none -> ∃ sl, h'.get? b = some { o with slots := sl }) (free : ∀ b o, b ∉ ch -> s.heap.get? b = some o -> H b = none -> H' b = none)
 (there : ∀ b o, b ∉ ch -> s.heap.get? b = some o -> ∃ o', h'.get? b = some o')
 (tups : ∀ b xs, H b = some (.tup xs) -> H' b = some (.tup xs)) (frzs : ∀ b o u, H b = some (.frz o u) -> H' b = some (.frz o u)) (tbls : ∀ b ps, H b = some (.tbl ps) -> ∃ more, H' b = some (.tbl (ps ++ more)))
 (ns : ∀ m, s.heap.Ns X.env.locals m -> h'.Ns X.env.locals m) (hok : HOk X.prog X.w H' h') (hg : AllBare g') :
 Inv X pins σ H' { s with heap := h', gens := g', drawn := d', toks := t' } := by
 have neL : ∀ b o, X.s₀.heap.get? b = some o -> b ≠ X.env.locals := fun b o e => ZAP (ZAM (ZAG e) I.ok.above)
 have neC : ∀ b o, X.s₀.heap.get? b = some o -> b ∉ X.ex -> b ∉ ch := fun b o e hx hb => by
  rcases (hch b hb).1 with z | z
  ·exact hx z
  ·exact absurd (ZAM (ZAG e) z) (ZBH _)
 have cellK : ∀ x c, X.env.cells.lookup x = some c -> ∀ v, s.heap.IsCell c v -> h'.IsCell c v := fun x c e v ⟨o, ho, hd⟩ => by
  have nch : c ∉ ch := fun z => (hch c z).2.2.1 x c e rfl
  by_cases hc : c ∈ X.fs
  ·obtain ⟨sl, q⟩ := slot c o (I.cne x c e) hc nch ho (I.freeC x c e)
   exact ⟨_, q, hd⟩
  ·exact ⟨o, keep c o (I.cne x c e) hc nch ho (I.freeC x c e), hd⟩
 refine ⟨I.ok, I.os, hg, ⟨fun b o e n hb hx => ?_, fun b o e n hb hx => ?_, fun b o e n hx => ?_, fun b o e hx => ?_, fun b xs e => tups b xs (I.base.tups b xs e), fun b o xs e => frzs b o xs (I.base.frzs b o xs e), fun b ps e => ?_⟩, ?_, fun x c e => ?_, ?_, fun x c e => ?_, fun p hp => ?_, hok, I.len⟩
 ·exact keep b o (neL b o e) hb (neC b o e hx) (I.base.keep b o e n hb hx) (I.base.free b o e n hx)
 ·show 207
  obtain ⟨sl', e2⟩ := slot b _ (neL b o e) hb (neC b o e hx) e1 (I.base.free b o e n hx)
  exact ⟨sl', e2⟩
 ·show 194
  exact free b o' (neC b o e hx) e1 (I.base.free b o e n hx)
 ·show 194
  exact there b o' (neC b o e hx) e1
 ·obtain ⟨m1, e1⟩ := I.base.tbls b ps e
  obtain ⟨m2, e2⟩ := tbls b _ e1
  exact ⟨m1 ++ m2, by rw [e2, Array.append_assoc]⟩
 ·obtain ⟨m, hn, hl⟩ := I.loc
  refine ⟨m, ns m hn, fun i x v e1 e2 e3 => ?_⟩
  obtain ⟨u, r, l⟩ := hl i x v e1 e2 e3
  refine ⟨u, r, ?_⟩
  rcases l with l | ⟨k, c, e, z⟩
  ·exact .inl l
  ·exact .inr ⟨k, c, e, cellK x c e _ z⟩
 ·obtain ⟨v, z⟩ := I.cell x c e
  exact ⟨v, cellK x c e v z⟩
 ·obtain ⟨m, ⟨o, _, _, ho, _⟩, _⟩ := I.loc
  exact free _ o (fun z => (hch _ z).2.1 rfl) ho I.free
 ·obtain ⟨v, o, ho, hd⟩ := I.cell x c e
  exact free c o (fun z => (hch c z).2.2.1 x c e rfl) ho (I.freeC x c e)
 ·show 208
  have nch : p.1 ∉ ch := fun z => (hch p.1 z).2.2.2 p hp rfl
  exact ⟨keep p.1 p.2 ne nf nch e n, free p.1 p.2 nch e n, ne, nf, d⟩
theorem Inv.un {t' : Nat} (I : Inv X pins σ H s) (u : Un X.fs [] H H' s.heap h') (hok : HOk X.prog X.w H' h') : Inv X pins σ H' { s with heap := h', toks := t' } := by
 obtain ⟨m, ⟨o, es, ep, ho, r⟩, _⟩ := id I.loc
 obtain ⟨sl, hL⟩ := u.any ho I.free (by simp)
 exact I.step (g' := s.gens) (d' := s.drawn) (ch := []) (fun _ z => nomatch z) (fun b o _ hb _ e n => u.keep b o e n hb (by simp)) (fun b o _ hb _ e n => u.slot b o e n hb (by simp)) (fun b o _ e n => u.free b o e n (by simp)) (fun b o _ e => u.there b o e (by simp)) u.tups u.frzs u.tbls (fun m' hm => by
  obtain ⟨o', es', ep', ho', r'⟩ := hm
  rw [ho] at ho'; cases ho'
  exact ⟨_, es', ep', hL, r'⟩) hok I.bare
theorem Inv.call {g' : Array GenState} {t' : Nat} {d' : Drawn} {ch : List Addr} (I : Inv X pins σ H s) (u : Un (frs X.stack) ch H H' s.heap h') (hok : HOk X.prog X.w H' h') (hg : AllBare g')
 (hch : ∀ b ∈ ch, (b ∈ X.ex \/ X.s₀.heap.objs.size <= b) /\ b ≠ X.env.locals /\ (∀ x c, X.env.cells.lookup x = some c -> c ≠ b) /\ ∀ p ∈ X.pn ++ pins, p.1 ≠ b) :
 Inv X pins σ H' { s with heap := h', gens := g', drawn := d', toks := t' } := by
 obtain ⟨m, ⟨o, es, ep, ho, r⟩, _⟩ := id I.loc
 obtain ⟨sl, hL⟩ := u.any ho I.free fun z => (hch _ z).2.1 rfl
 exact I.step (ch := ch) hch (fun b o hL hb hc e n => u.keep b o e n (fun z => (ZAT.mp (I.stkSub b z)).elim hL hb) hc) (fun b o _ _ hc e n => u.any e n hc) (fun b o hc e n => u.free b o e n hc) (fun b o hc e => u.there b o e hc) u.tups u.frzs u.tbls (fun m' hm => by
  obtain ⟨o', es', ep', ho', r'⟩ := hm
  rw [ho] at ho'; cases ho'
  exact ⟨_, es', ep', hL, r'⟩) hok hg
theorem Inv.turned {t' : Nat} {it : Addr} (I : Inv X pins σ H s) (k : ∀ b o, b ≠ it -> s.heap.get? b = some o -> h'.get? b = some o) (hn : H it = none) (hL : it ≠ X.env.locals)
 (h1 : it ∈ X.ex \/ X.s₀.heap.objs.size <= it) (h2 : ∀ x c, X.env.cells.lookup x = some c -> c ≠ it) (h3 : ∀ p ∈ X.pn ++ pins, p.1 ≠ it) : Inv X pins σ H { s with heap := h', toks := t' } := by
 have nit : ∀ b u, H b = some u -> b ≠ it := fun b u e z => by rw [z, hn] at e; cases e
 refine I.step (g' := s.gens) (d' := s.drawn) (ch := [it]) (fun b hb => ?_) (fun b o _ _ hc e _ => k b o (fun z => hc (by simp [z])) e) (fun b o _ _ hc e _ => ⟨o.slots, k b o (fun z => hc (by simp [z])) e⟩) (fun _ _ _ _ n => n)
  (fun b o hc e => ⟨o, k b o (fun z => hc (by simp [z])) e⟩) (fun _ _ e => e) (fun _ _ _ e => e) (fun b ps e => ⟨#[], by rw [e]; simp⟩) (fun m hm => ?_) (fun b u e => ?_) I.bare
 ·show 40
  exact ⟨h1, hL, h2, h3⟩
 ·obtain ⟨o, es, ep, ho, r⟩ := hm
  exact ⟨o, es, ep, k _ o (ZBA hL) ho, r⟩
 ·refine (I.hok b u e).stay (fun c v hc q => k c v ?_ q) (fun _ q => q) fun _ _ q => q
  rcases hc with z | z
  ·rw [z]; exact nit b u e
  ·exact nit c _ z
theorem Inv.tok (I : Inv X pins σ H s) (t : Nat) : Inv X pins σ H { s with toks := t } := I.un (h' := s.heap) (t' := t) Un.refl I.hok
theorem Inv.kept {t' : Nat} (I : Inv X pins σ H s) (k : ∀ b u, s.heap.get? b = some u -> h'.get? b = some u) : Inv X pins σ H { s with heap := h', toks := t' } := I.un (Un.kept k) (I.hok.kept k)
theorem Inv.laid {a : Addr} {o : HO} {t' : Nat} (I : Inv X pins σ H s) (k : ∀ b u, s.heap.get? b = some u -> h'.get? b = some u) (hp : s.heap.objs.size <= a) (new : Yme X.prog X.w (upd H a o) h' a o) :
 Inv X pins σ (upd H a o) { s with heap := h', toks := t' } := I.un (Un.laid k hp (I.hok.fresh hp)) (I.hok.laid k hp new)
theorem Inv.write {x e : Addr} {o : HO} {t' : Nat} (I : Inv X pins σ H s) (mu : Mut (H x)) (he : e = x \/ H e = some (.own x)) (k : ∀ b u, b ≠ e -> s.heap.get? b = some u -> h'.get? b = some u) (heo : ∃ u, h'.get? e = some u)
 (new : Yme X.prog X.w (upd H x o) h' x o) : Inv X pins σ (upd H x o) { s with heap := h', toks := t' } := I.un (Un.write mu he k heo) (I.hok.write mu he k heo new)
theorem Inv.pins_of {pins' : LAO} (I : Inv X pins σ H s) (h : ∀ p ∈ pins', s.heap.get? p.1 = some p.2 /\ H p.1 = none /\ p.1 ≠ X.env.locals /\ p.1 ∉ X.fs /\ ∀ v, p.2.data ≠ .cell v) : Inv X pins' σ H s :=
 ⟨I.ok, I.os, I.bare, I.base, I.loc, I.cell, I.free, I.freeC, fun p hp => (ZAx.mp hp).elim (fun z => I.pin p (ZA4 _ z)) (h p), I.hok, I.len⟩
theorem Yaa {N : List Str} (hN : N.Nodup) {i j : Nat} {x : Str} (a : N[i]? = some x) (b : N[j]? = some x) : i = j := by
 obtain ⟨h1, e1⟩ := ZAL.mp a
 obtain ⟨h2, e2⟩ := ZAL.mp b
 exact (List.getElem_inj hN).mp (e1.trans e2.symm)
theorem Yba {M : Model} {A : Around} {E : VSP} {i : Nat} {x : Str} {v : V} {u : Value} {Q : Unit -> Shared -> Prop} (I : Inv X pins σ H s) (hN : X.N.Nodup) (hi : X.N[i]? = some x) (hx : Loc X.env.scope x) (r : RelV v u)
 (h : ∀ s', Inv X pins (σ.set i (some v)) H s' -> (∃ a, Heap.SameBut a s.heap s'.heap /\ (a = X.env.locals \/ X.env.cells.lookup x = some a)) -> Q () s') (hf : X.fn x = true \/ X.env.scope.names.lookup x = some .local := by first | exact .inl rfl | exact .inr rfl | assumption) : wpAny M A (storeName X.env x u) Q E s := by
 obtain ⟨m, hn, hl⟩ := id I.loc
 have hcls : (X.env.scope.kind == .class || (X.env.scope.kind == .module && X.env.locals != X.env.globals)) = false := by rw [I.ok.kind]; rfl
 have hiσ : i < σ.length := by rw [I.len]; exact (ZAL.mp hi).1
 have cne := I.cne
 have tracked : ∀ {a : Addr} {h' : Heap}, (∃ o, s.heap.get? a = some o /\ H a = none) -> Heap.SameBut a s.heap h' -> HOk X.prog X.w H h' := fun {a h'} ha hs b ob e => by
  obtain ⟨_, _, hfree⟩ := ha
  refine (I.hok b ob e).stay (fun c w' hc q => (hs.2 c ?_).trans q) (fun _ q => q) fun _ _ q => q
  rintro rfl
  show 239
  ·rw [hfree] at e; cases e
  ·rw [hfree] at hc; cases hc
 rcases hx with hk | hk
 ·refine wpAny_storeName_local hk hn (fun h' hn' hs => ?_) hcls
  obtain ⟨oL, _, _, hoL, _⟩ := id hn
  refine h _ ⟨I.ok, I.os, I.bare, ⟨fun b o e n hb hx => ?_, fun b o e n hb hx => ?_, I.base.free, fun b o e hx => ?_, I.base.tups, I.base.frzs, I.base.tbls⟩, ⟨_, hn', fun j y v' e1 e2 e3 => ?_⟩, fun y c e => ?_, I.free, I.freeC, fun p hp => ?_, tracked ⟨oL, hoL, I.free⟩ hs, by simpa using I.len⟩ ⟨_, hs, .inl rfl⟩
  ·exact (hs.2 b (ZAP (ZAM (ZAG e) I.ok.above))).trans (I.base.keep b o e n hb hx)
  ·show 207
   exact ⟨sl, (hs.2 b (ZAP (ZAM (ZAG e) I.ok.above))).trans e1⟩
  ·show 194
   exact ⟨o', (hs.2 b (ZAP (ZAM (ZAG e) I.ok.above))).trans e1⟩
  ·by_cases hj : j = i
   ·subst hj
    rw [hi] at e1; cases e1
    rw [ZA8 hiσ] at e2
    cases e2
    exact ⟨u, r, .inl ⟨hk, by simp⟩⟩
   ·rw [ZA0 (ZBA hj)] at e2
    obtain ⟨u', r', q⟩ := hl j y v' e1 e2 e3
    refine ⟨u', r', ?_⟩
    rcases q with ⟨k, e⟩ | ⟨k, c, e, z⟩
    ·refine .inl ⟨k, ?_⟩
     have : y ≠ x := fun e => hj (Yaa hN e1 (e ▸ hi))
     simp [this, e]
    ·exact .inr ⟨k, c, e, z.sameBut hs (cne y c e)⟩
  ·obtain ⟨w', z⟩ := I.cell y c e
   exact ⟨w', z.sameBut hs (cne y c e)⟩
  ·show 208
   exact ⟨(hs.2 p.1 ne).trans e, n, ne, nf, d⟩
 ·have hfn : X.fn x = true := by
   rcases hf with z | z
   ·exact z
   ·rw [z] at hk; cases hk
  obtain ⟨c, hc⟩ := I.ok.has x (.inl hk)
  obtain ⟨w', z⟩ := I.cell x c hc
  refine wpAny_storeName_cell I.ok.kind hk hc z (fun h' hc' hs => ?_)
  obtain ⟨oc, hoc, hocd⟩ := id z
  refine h { s with heap := h' } ⟨I.ok, I.os, I.bare, ⟨fun b o e n hb hx => ?_, fun b o e n hb hx => ?_, I.base.free, fun b o e hx => ?_, I.base.tups, I.base.frzs, I.base.tbls⟩, ⟨m, hn.sameBut hs (Ne.symm (cne x c hc)), fun j y v' e1 e2 e3 => ?_⟩, fun y c' e => ?_, I.free, I.freeC, fun p hp => ?_, tracked ⟨oc, hoc, I.freeC x c hc⟩ hs, by simpa using I.len⟩ ⟨c, hs, .inr hc⟩
  ·exact (hs.2 b (ZAP (ZAM (ZAG e) (I.ok.cab x c hfn hc)))).trans (I.base.keep b o e n hb hx)
  ·show 207
   exact ⟨sl, (hs.2 b (ZAP (ZAM (ZAG e) (I.ok.cab x c hfn hc)))).trans e1⟩
  ·show 194
   exact ⟨o', (hs.2 b (ZAP (ZAM (ZAG e) (I.ok.cab x c hfn hc)))).trans e1⟩
  ·by_cases hj : j = i
   ·subst hj
    rw [hi] at e1; cases e1
    rw [ZA8 hiσ] at e2
    cases e2
    exact ⟨u, r, .inr ⟨.inl hk, c, hc, hc'⟩⟩
   ·rw [ZA0 (ZBA hj)] at e2
    obtain ⟨u', r', q⟩ := hl j y v' e1 e2 e3
    refine ⟨u', r', ?_⟩
    rcases q with q | ⟨k, c', e, z'⟩
    ·exact .inl q
    ·refine .inr ⟨k, c', e, z'.sameBut hs ?_⟩
     rintro rfl
     exact hj (Yaa hN e1 (I.ok.inj _ _ _ e hc ▸ hi))
  ·by_cases hcc : c' = c
   ·subst hcc; exact ⟨_, hc'⟩
   ·obtain ⟨w2, z2⟩ := I.cell y c' e
    exact ⟨w2, z2.sameBut hs hcc⟩
  ·show 208
   refine ⟨(hs.2 p.1 ?_).trans e, n, ne, nf, d⟩
   intro q
   rw [q, hoc] at e
   have q' : oc = p.2 := Option.some.inj e
   exact d w' (by rw [<- q']; exact hocd)
theorem Yaz {M : Model} {A : Around} {E : VSP} {i : Nat} {x : Str} {v : V} {u : Value} {Q : Unit -> Shared -> Prop} (I : Inv X pins σ H s) (hN : X.N.Nodup) (hi : X.N[i]? = some x) (hx : Loc X.env.scope x) (r : RelV v u)
 (h : ∀ s', Inv X pins (σ.set i (some v)) H s' -> Q () s') (hf : X.fn x = true \/ X.env.scope.names.lookup x = some .local := by first | exact .inl rfl | exact .inr rfl | assumption) : wpAny M A (storeName X.env x u) Q E s :=
 Yba I hN hi hx r (fun s' I' _ => h s' I') hf
theorem Inv.call' {s' : Shared} {ch : List Addr} (I : Inv X pins σ H s) (ho : s'.os = s.os) (u : Un (frs X.stack) ch H H' s.heap s'.heap) (hok : HOk X.prog X.w H' s'.heap) (hg : AllBare s'.gens)
 (hch : ∀ b ∈ ch, (b ∈ X.ex \/ X.s₀.heap.objs.size <= b) /\ b ≠ X.env.locals /\ (∀ x c, X.env.cells.lookup x = some c -> c ≠ b) /\ ∀ p ∈ X.pn ++ pins, p.1 ≠ b) : Inv X pins σ H' s' := by
 obtain ⟨h', g', d', t', o'⟩ := s'
 have e : o' = s.os := ho
 subst e
 exact I.call (g' := g') (t' := t') (d' := d') u hok hg hch
end
abbrev XK := Value -> Option Addr -> Hp -> Prop
abbrev St := List (Option V)
abbrev VK := V -> Hp -> Prop
abbrev TE := St -> Hp -> VK -> Prop
abbrev TT := St -> Hp -> (Bool -> Hp -> Prop) -> Prop
abbrev TA := St -> Hp -> (List V -> Hp -> Prop) -> Prop
structure Ends where
 nx : St -> Hp -> Prop
 rt : VK
 bk : St -> Hp -> Prop := fun _ _ => False
 ct : St -> Hp -> Prop := fun _ _ => False
abbrev TS := Ends -> St -> Hp -> Prop
def EP (X : Cx) (pins : LAO) (σ : St) (Q : VK) (u : Value) (s' : Shared) : Prop := ∃ v H', Inv X pins σ H' s' /\ RelV v u /\ Q v H'
def TP (X : Cx) (pins : LAO) (σ : St) (Q : Bool -> Hp -> Prop) (b : Bool) (s' : Shared) : Prop := ∃ H', Inv X pins σ H' s' /\ Q b H'
def AP (X : Cx) (pins : LAO) (σ : St) (Q : List V -> Hp -> Prop) (us : List Value) (s' : Shared) : Prop := ∃ vs H', Inv X pins σ H' s' /\ Vals vs us /\ Q vs H'
def SP (X : Cx) (pins : LAO) (D : Ends) (f : Flow) (s' : Shared) : Prop :=
 match f with
 | .next => ∃ σ' H', Inv X pins σ' H' s' /\ D.nx σ' H'
 | .brk => ∃ σ' H', Inv X pins σ' H' s' /\ D.bk σ' H'
 | .cont => ∃ σ' H', Inv X pins σ' H' s' /\ D.ct σ' H'
 | .ret u => ∃ v σ' H', Inv X pins σ' H' s' /\ RelV v u /\ D.rt v H'
def PE (X : Cx) (e : Expr) (t : TE) : Prop :=
 ∀ (pins : LAO) (s : Shared) (σ : St) (H : Hp) (Q : VK), Inv X pins σ H s -> t σ H Q -> wpAny (model X.prog X.w) X.A (eval e X.env) (EP X pins σ Q) X.xe s
def PT (X : Cx) (e : Expr) (t : TT) : Prop :=
 ∀ (pins : LAO) (s : Shared) (σ : St) (H : Hp) (Q : Bool -> Hp -> Prop), Inv X pins σ H s -> t σ H Q -> wpAny (model X.prog X.w) X.A (isTrue e X.env (eval e X.env)) (TP X pins σ Q) X.xe s
def PW (X : Cx) (e : Expr) (t : TT) : Prop :=
 ∀ (whole : Sem Value) (pins : LAO) (s : Shared) (σ : St) (H : Hp) (Q : Bool -> Hp -> Prop), Inv X pins σ H s -> t σ H Q -> wpAny (model X.prog X.w) X.A (isTrue e X.env whole) (TP X pins σ Q) X.xe s
theorem PW.pt {X : Cx} {e : Expr} {t : TT} (h : PW X e t) : PT X e t := h _
def PA (X : Cx) (es : List Expr) (t : TA) : Prop :=
 ∀ (pos : Pos) (pins : LAO) (s : Shared) (σ : St) (H : Hp) (Q : List V -> Hp -> Prop), Inv X pins σ H s -> t σ H Q -> wpAny (model X.prog X.w) X.A (spliced (backTo pos (starEach es X.env))) (AP X pins σ Q) X.xe s
def PS (X : Cx) (st : Stmt) (t : TS) : Prop :=
 ∀ (pins : LAO) (s : Shared) (σ : St) (H : Hp) (D : Ends), Inv X pins σ H s -> t D σ H -> wpAny (model X.prog X.w) X.A (exec st X.env) (SP X pins D) X.xe s
def PSs (X : Cx) (st : List Stmt) (t : TS) : Prop :=
 ∀ (pins : LAO) (s : Shared) (σ : St) (H : Hp) (D : Ends), Inv X pins σ H s -> t D σ H -> wpAny (model X.prog X.w) X.A (execs st X.env) (SP X pins D) X.xe s
theorem thn {α : Type} {t : Sem α} {Q Q' : α -> Shared -> Prop} {M : Model} {A : Around} {E : VSP} {s : Shared} (h : wpAny M A t Q E s) (hQ : ∀ a s, Q a s -> Q' a s) : wpAny M A t Q' E s := ZAi h hQ fun _ _ x => x
end L2
namespace L2
open PySem PySem.Spec PyProof.Rows
section
variable {X : Cx}
theorem bin {a b : Expr} {ta tb : TE} (ha : PE X a ta) (hb : PE X b tb) {pins : LAO} {s : Shared} {σ : St} {H : Hp} {R : V -> V -> Hp -> Prop} (I : Inv X pins σ H s) (h : ta σ H fun x H1 => tb σ H1 fun y H2 => R x y H2)
 {α : Type} {Q : α -> Shared -> Prop} {f : Value -> Value -> Sem α}
 (hf : ∀ v u s2 x y H2, Inv X pins σ H2 s2 -> RelV x v -> RelV y u -> R x y H2 -> wpAny (model X.prog X.w) X.A (f v u) Q X.xe s2) :
 wpAny (model X.prog X.w) X.A (eval a X.env) (fun v s₁ => wpAny (model X.prog X.w) X.A (eval b X.env) (fun u s₂ => wpAny (model X.prog X.w) X.A (f v u) Q X.xe s₂) X.xe s₁) X.xe s := by
 refine thn (ha pins s σ H _ I h) fun v s1 ⟨x, H1, I1, r1, q1⟩ => ?_
 refine thn (hb pins s1 σ H1 _ I1 q1) fun u s2 ⟨y, H2, I2, r2, q2⟩ => ?_
 exact hf v u s2 x y H2 I2 r1 r2 q2
def Yo8 (i : Nat) : TE := fun σ H Q => ∃ v, σ[i]? = some (some v) /\ Q v H
def tC (v : V) : TE := fun _ H Q => Q v H
theorem VW {i : Nat} {x : Str} {pos : Pos} (hN : X.N[i]? = some x) (hv : Vis X.env.scope x) (hd : (x == ("__debug__" : Str)) = false := by decide) (hcd : (x == ("__classdict__" : Str)) = false := by decide) : PE X (.Name x pos) (Yo8 i) := by
 show 154
 obtain ⟨v, e, h⟩ := h
 obtain ⟨m, hn, hl⟩ := I.loc
 obtain ⟨u, r, l⟩ := hl i x v hN e hv
 have fin : EP X pins σ Q u s := ⟨v, H, I, r, h⟩
 rcases l with ⟨hk, hm⟩ | ⟨hk, c, hc, hcell⟩
 ·exact wpAny_Name (wpAny_loadName_local I.ok.kind hk hn hm fin) hd
 ·rcases hk with hk | hk
  ·exact wpAny_Name (wpAny_loadName_cell I.ok.kind hk hc hcell fin) hd
  ·exact wpAny_Name (wpAny_loadName_free I.ok.kind hk hc hcell fin hcd) hd
theorem Yjb {i j pos} : PE X (.Constant (.int i) j pos) (tC (.int i)) := fun _ _ _ H _ I h => wpAny_Constant_int ⟨.int i, H, I.tok _, ⟨_, rfl⟩, h⟩
theorem Ylg {b j pos} : PE X (.Constant (.bool b) j pos) (tC (.bl b)) := fun _ _ _ H _ I h => Constant_bool ⟨.bl b, H, I, rfl, h⟩
theorem Ykj {j pos} : PE X (.Constant .none j pos) (tC .non) := fun _ _ _ H _ I h => Constant_none ⟨.non, H, I, rfl, h⟩
theorem Yj7 {x j pos} : PE X (.Constant (.str x) j pos) (tC (.str x)) := fun _ _ _ H _ I h => Calls.Constant_str ⟨.str x, H, I.tok _, ⟨_, rfl⟩, h⟩
def Gl (X : Cx) (x : Str) : Prop := X.env.kindOf x = some .globalImplicit
theorem ZS {E : VSP} {pins : LAO} {s : Shared} {σ : St} {H : Hp} {x : Str} {u : Value} {pos : Pos} {Q : VSP} (I : Inv X pins σ H s) (hg : Gl X x) (hm : X.mg x = some u) (h : Q u s)
 (hd : (x == ("__debug__" : Str)) = false := by decide) : wpAny (model X.prog X.w) X.A (eval (.Name x pos) X.env) Q E s :=
 Calls.Name_function_global I.ok.kind hg (Calls.loadGlobal_global (by rw [I.ok.glob]; exact I.mod.glob.keeps I.bk) hm h) hd
theorem Va {E : VSP} {pins : LAO} {s : Shared} {σ : St} {H : Hp} {x : Str} {u : Value} {pos : Pos} {Q : VSP} (I : Inv X pins σ H s) (hg : Gl X x) (hm : X.mg x = none) (hv : bootBuiltins x = some u) (h : Q u s)
 (hn : x ≠ "__name__" := by decide) (hd : (x == ("__debug__" : Str)) = false := by decide) : wpAny (model X.prog X.w) X.A (eval (.Name x pos) X.env) Q E s := by
 obtain ⟨mb, h1, h2⟩ := I.mod.blt
 exact Calls.Name_function_global I.ok.kind hg (Calls.loadGlobal_builtin (by rw [I.ok.glob]; exact I.mod.glob.keeps I.bk) hm (by rw [I.ok.blt]; exact h1.keeps I.bk) ((h2 x hn).trans hv) h) hd
theorem Yea {x : Str} {v : V} {u : Value} {pos : Pos} (hg : Gl X x) (hm : X.mg x = some u) (r : RelV v u) (hd : (x == ("__debug__" : Str)) = false := by decide) : PE X (.Name x pos) (tC v) :=
 fun _ _ _ H _ I h => ZS I hg hm ⟨v, H, I, r, h⟩ hd
theorem YdV {x : Str} {v : V} {u : Value} {pos : Pos} (hg : Gl X x) (hm : X.mg x = none) (hv : bootBuiltins x = some u) (r : RelV v u) (hn : x ≠ "__name__" := by decide) (hd : (x == ("__debug__" : Str)) = false := by decide) : PE X (.Name x pos) (tC v) :=
 fun _ _ _ H _ I h => Va I hg hm hv ⟨v, H, I, r, h⟩ hn hd
variable {a b : Expr} {ta tb : TE} {pos : Pos}
variable {tA tB' : TT} {rest : List Expr}
def YpS (t u : TT) : TT := fun σ H Q => t σ H fun c H1 => if c = true then u σ H1 Q else Q false H1
def tOr (t u : TT) : TT := fun σ H Q => t σ H fun c H1 => if c = true then Q true H1 else u σ H1 Q
def YpQ (t : TT) : TT := fun σ H Q => t σ H fun c H1 => Q (!c) H1
theorem Yh2 (ha : PT X a tA) : PW X (.BoolOp .And [a] pos) tA := by
 show 216
 refine isTrue_and (thn (ha pins s σ H Q I h) fun c s1 e => ?_)
 cases c with
 | true => exact isTrue_and_nil e
 | false => exact e
theorem Ykd (ha : PT X a tA) : PW X (.BoolOp .Or [a] pos) tA := by
 show 216
 refine isTrue_or (thn (ha pins s σ H Q I h) fun c s1 e => ?_)
 cases c with
 | false => exact isTrue_or_nil e
 | true => exact e
theorem YjX (ha : PT X a tA) (hb : PW X (.BoolOp .And (b :: rest) pos) tB') : PW X (.BoolOp .And (a :: b :: rest) pos) (YpS tA tB') := by
 show 216
 refine isTrue_and (thn (ha pins s σ H _ I h) fun c s1 ⟨H1, I1, q1⟩ => ?_)
 cases c with
 | true => exact hb wh pins s1 σ H1 Q I1 q1
 | false => exact ⟨H1, I1, q1⟩
theorem YkZ (ha : PT X a tA) (hb : PW X (.BoolOp .Or (b :: rest) pos) tB') : PW X (.BoolOp .Or (a :: b :: rest) pos) (tOr tA tB') := by
 show 216
 refine isTrue_or (thn (ha pins s σ H _ I h) fun c s1 ⟨H1, I1, q1⟩ => ?_)
 cases c with
 | true => exact ⟨H1, I1, q1⟩
 | false => exact hb wh pins s1 σ H1 Q I1 q1
theorem Yj9 (ha : PT X a tA) : PT X (.UnaryOp .Not a pos) (YpQ tA) := by
 show 154
 exact isTrue_not (ha pins s σ H (fun c H1 => Q (!c) H1) I h)
def Ypy (ta tb : TE) : TE := fun σ H Q => ta σ H fun x H1 => ∃ c, x = .bl c /\ if c = true then tb σ H1 Q else Q (.bl false) H1
def Yp2 (ta tb : TE) : TE := fun σ H Q => ta σ H fun x H1 => ∃ c, x = .bl c /\ if c = true then Q (.bl true) H1 else tb σ H1 Q
theorem Yj5 {op} {t : TE} (h : PE X a t) : PE X (.BoolOp op [a] pos) t := fun pins s σ H Q I hw => BoolOp_one (h pins s σ H Q I hw)
theorem Ykm (ha : PE X a ta) (hb : PE X (.BoolOp .And (b :: rest) pos) tb) : PE X (.BoolOp .And (a :: b :: rest) pos) (Ypy ta tb) := by
 show 154
 refine BoolOp_and (thn (ha pins s σ H _ I h) fun v s1 ⟨x, H1, I1, r1, q1⟩ => ?_)
 obtain ⟨c, rfl, q1⟩ := q1
 cases r1
 refine ZBD ?_
 cases c with
 | true => exact hb pins s1 σ H1 Q I1 q1
 | false => exact ⟨.bl false, H1, I1, rfl, q1⟩
theorem Yla (ha : PE X a ta) (hb : PE X (.BoolOp .Or (b :: rest) pos) tb) : PE X (.BoolOp .Or (a :: b :: rest) pos) (Yp2 ta tb) := by
 show 154
 refine BoolOp_or (thn (ha pins s σ H _ I h) fun v s1 ⟨x, H1, I1, r1, q1⟩ => ?_)
 obtain ⟨c, rfl, q1⟩ := q1
 cases r1
 refine ZBD ?_
 cases c with
 | false => exact hb pins s1 σ H1 Q I1 q1
 | true => exact ⟨.bl true, H1, I1, rfl, q1⟩
end
end L2
namespace L2
open PySem PySem.Spec PyProof.Rows
def SqL (K : Frag) (H : Hp) (a : Addr) (xs : List V) : Prop :=
 Rd H a (.lst xs) \/
  ∃ (o : Obj) (its : Array Value) (n : Nat), K.lookup a = some o /\ o.cls = .type "list" /\ o.dict = none /\ o.data = .seq its n /\ its.size <= sizeLine /\ Vals xs its.toList
def SqT (K : Frag) (H : Hp) (a : Addr) (xs : List V) : Prop :=
 Rd H a (.tup xs) \/
  ∃ (o : Obj) (its : Array Value) (n : Nat), K.lookup a = some o /\ o.cls = .type "tuple" /\ o.data = .seq its n /\ its.size <= sizeLine /\ Vals xs its.toList
def YpJ : Value -> Option V
 | .none => some .non
 | .bool b => some (.bl b)
 | .int i _ => some (.int i)
 | .str x _ => some (.str x)
 | .bytes b _ => some (.byt b)
 | .float b _ => some (.flt b)
 | .ref a => some (.ref a)
 | .type n => some (.ty n)
 | _ => none
theorem RelV.abs {x : V} {u : Value} (r : RelV x u) : YpJ u = some x := by
 cases x with
 | non => cases r; rfl
 | bl _ => cases r; rfl
 | int _ => show 186
 | str _ => show 186
 | byt _ => show 186
 | flt _ => show 186
 | ref _ => cases r; rfl
 | ty _ => cases r; rfl
theorem RelV.inj {x y : V} {u : Value} (r : RelV x u) (q : RelV y u) : x = y := Option.some.inj (r.abs.symm.trans q.abs)
theorem Vals.inj : ∀ {xs ys : List V} {us : List Value}, Vals xs us -> Vals ys us -> xs = ys
 | _, _, _, .nil, .nil => rfl
 | _, _, _, .cons r t, .cons r' t' => by rw [r.inj r', Vals.inj t t']
section
variable {X : Cx} {pins : LAO} {σ : St} {H : Hp} {s : Shared} {a : Addr} {xs ys : List V}
theorem SqL.of {K : Frag} (h : H a = some (.lst xs)) : SqL K H a xs := .inl (.inl h)
theorem SqT.of {K : Frag} (h : H a = some (.tup xs)) : SqT K H a xs := .inl (.inl h)
theorem Inv.list (I : Inv X pins σ H s) (h : SqL X.K H a xs) : ∃ its : List Value, Vals xs its /\ PlainL s.heap a its.toArray /\ xs.length <= sizeLine := by
 rcases h with h | ⟨o, its, n, hk, hc, hd, hs, hz, r⟩
 ·obtain ⟨z, its, n, r, e⟩ := h.ok I.hok
  exact ⟨its, r, ⟨_, n, e, rfl, rfl, rfl⟩, z⟩
 ·refine ⟨its.toList, r, ⟨o, n, I.kIn a o hk, hc, hd, by simpa using hs⟩, ?_⟩
  have e := r.length
  simp only [Array.length_toList] at e
  omega
theorem Inv.tuple (I : Inv X pins σ H s) (h : SqT X.K H a xs) : ∃ its : List Value, Vals xs its /\ IsTup s.heap a its.toArray /\ xs.length <= sizeLine := by
 rcases h with h | ⟨o, its, n, hk, hc, hs, hz, r⟩
 ·obtain ⟨z, its, r, p⟩ := h.ok I.hok
  exact ⟨its, r, p, z⟩
 ·refine ⟨its.toList, r, ⟨o, I.kIn a o hk, hc, n, by simpa using hs⟩, ?_⟩
  have e := r.length
  simp only [Array.length_toList] at e
  omega
theorem Inv.list_inj (I : Inv X pins σ H s) (h : SqL X.K H a xs) (h' : SqL X.K H a ys) : xs = ys := by
 obtain ⟨its, r, ⟨o, n, e, _, _, d⟩, _⟩ := I.list h
 obtain ⟨its', r', ⟨o', n', e', _, _, d'⟩, _⟩ := I.list h'
 rw [e] at e'; cases e'
 rw [d] at d'
 injection d' with d1 _
 have : its = its' := by simpa using congrArg Array.toList d1
 subst this
 exact r.inj r'
theorem Inv.tuple_inj (I : Inv X pins σ H s) (h : SqT X.K H a xs) (h' : SqT X.K H a ys) : xs = ys := by
 obtain ⟨its, r, ⟨o, e, _, n, d⟩, _⟩ := I.tuple h
 obtain ⟨its', r', ⟨o', e', _, n', d'⟩, _⟩ := I.tuple h'
 rw [e] at e'; cases e'
 rw [d] at d'
 injection d' with d1 _
 have : its = its' := by simpa using congrArg Array.toList d1
 subst this
 exact r.inj r'
end
abbrev Cx.wish (X : Cx) (E : VSP) : Cx := { X with xe := E }
abbrev Cx.nox (X : Cx) : Cx := X.wish fun _ _ => False
theorem Cx.Ok.wish {X : Cx} (ok : X.Ok) (E : VSP) : (X.wish E).Ok :=
 ⟨ok.mod, ok.kind, ok.glob, ok.blt, ok.above, ok.inj, ok.has, ok.cab, ok.hd, ok.frames, ok.stk, ok.exf, ok.bs, ok.bsz, ok.noex, ok.exfs, ok.funs, ok.frf⟩
theorem Cx.Ok.unwish {X : Cx} {E : VSP} (ok : (X.wish E).Ok) : X.Ok :=
 ⟨ok.mod, ok.kind, ok.glob, ok.blt, ok.above, ok.inj, ok.has, ok.cab, ok.hd, ok.frames, ok.stk, ok.exf, ok.bs, ok.bsz, ok.noex, ok.exfs, ok.funs, ok.frf⟩
section
variable {X : Cx} {pins : LAO} {σ : St} {H : Hp} {s : Shared} {E : VSP}
theorem Inv.wish (I : Inv X pins σ H s) (E : VSP) : Inv (X.wish E) pins σ H s := ⟨I.ok.wish E, I.os, I.bare, I.base, I.loc, I.cell, I.free, I.freeC, I.pin, I.hok, I.len⟩
theorem Inv.unwish (I : Inv (X.wish E) pins σ H s) : Inv X pins σ H s := ⟨I.ok.unwish, I.os, I.bare, I.base, I.loc, I.cell, I.free, I.freeC, I.pin, I.hok, I.len⟩
theorem SP.unwish {D : Ends} {f : Flow} {s' : Shared} (h : SP (X.wish E) pins D f s') : SP X pins D f s' := by
 cases f with
 | next => obtain ⟨σ', H', I, q⟩ := h; exact ⟨σ', H', I.unwish, q⟩
 | brk => obtain ⟨σ', H', I, q⟩ := h; exact ⟨σ', H', I.unwish, q⟩
 | cont => obtain ⟨σ', H', I, q⟩ := h; exact ⟨σ', H', I.unwish, q⟩
 | ret u => obtain ⟨v, σ', H', I, r, q⟩ := h; exact ⟨v, σ', H', I.unwish, r, q⟩
theorem PSs.nox {st : List Stmt} {t : TS} (h : PSs X.nox st t) : PSs X st t := fun pins s σ H D I hw =>
 ZAi (h pins s σ H D (I.wish _) hw) (fun _ _ q => q.unwish) fun _ _ z => False.elim z
end
section
variable {X : Cx} {st : Stmt} {rest : List Stmt} {t u : TS} {e : Expr} {te : TE} {pos : Pos}
def Ypn : TS := fun D σ H => D.nx σ H
def YpG (t u : TS) : TS := fun D σ H => t { D with nx := u D } σ H
theorem Yio : PSs X [] Ypn := fun _ _ σ H _ I h => ZBY ⟨σ, H, I, h⟩
theorem YhI (h1 : PS X st t) (h2 : PSs X rest u) : PSs X (st :: rest) (YpG t u) := by
 show 173
 refine ZB3 (thn (h1 pins s σ H { D with nx := u D } I h) fun f s1 q => ?_)
 cases f with
 | next =>
  obtain ⟨σ', H', I', q⟩ := q
  exact h2 pins s1 σ' H' D I' q
 | ret v => exact q
 | brk => exact q
 | cont => exact q
theorem YiA (h1 : PS X st t) : PSs X [st] t := by
 show 173
 refine ZB3 (thn (h1 pins s σ H D I h) fun f s1 q => ?_)
 cases f with
 | next => exact ZBY q
 | ret v => exact q
 | brk => exact q
 | cont => exact q
theorem Inv.quiet {pins : LAO} {σ : St} {H : Hp} {s : Shared} (I : Inv X pins σ H s) : interactive X.env = false := by simp [interactive, I.ok.kind]
def Ypo (te : TE) : TS := fun D σ H => te σ H fun _ H1 => D.nx σ H1
theorem YiI (he : PE X e te) (hs : swapsWith e none pos.line X.env = pure false := by rfl) : PS X (.Expr e pos) (Ypo te) := by
 show 173
 exact wpAny_Expr_any (thn (he pins s σ H _ I h) fun v s1 ⟨x, H1, I1, r1, q1⟩ => ⟨σ, H1, I1, q1⟩) I.quiet hs
def Yp1 (te : TE) : TS := fun D σ H => te σ H D.rt
theorem Yky (he : PE X e te) : PS X (.Return (some e) pos) (Yp1 te) := by
 show 173
 exact wpAny_Return_some (thn (he pins s σ H _ I h) fun v s1 ⟨x, H1, I1, r1, q1⟩ => ⟨x, σ, H1, I1, r1, q1⟩)
def YpO (c : TT) (t u : TS) : TS := fun D σ H => c σ H fun b H1 => if b = true then t D σ H1 else u D σ H1
theorem Yk7 {c : Expr} {a b : List Stmt} {tc : TT} (hc : PT X c tc) (ha : PSs X a t) (hb : PSs X b u) : PS X (.If c a b pos) (YpO tc t u) := by
 show 173
 refine wpAny_If (thn (hc pins s σ H _ I h) fun d s1 ⟨H1, I1, q1⟩ => ?_)
 cases d with
 | true => exact ha pins s1 σ H1 D I1 q1
 | false => exact hb pins s1 σ H1 D I1 q1
end
abbrev TG := V -> St -> Hp -> (St -> Hp -> Prop) -> Prop
abbrev TGs := List V -> St -> Hp -> (St -> Hp -> Prop) -> Prop
def PG (X : Cx) (target : Expr) (t : TG) : Prop :=
 ∀ (pins : LAO) (s : Shared) (σ : St) (H : Hp) (v : V) (u : Value) (Q : St -> Hp -> Prop), Inv X pins σ H s -> RelV v u -> t v σ H Q ->
  wpAny (model X.prog X.w) X.A (assign target X.env u) (fun _ s' => ∃ σ' H', Inv X pins σ' H' s' /\ Q σ' H') X.xe s
def PGs (X : Cx) (ts : List Expr) (t : TGs) : Prop :=
 ∀ (pins : LAO) (s : Shared) (σ : St) (H : Hp) (vs : List V) (us : List Value) (Q : St -> Hp -> Prop), Inv X pins σ H s -> Vals vs us -> t vs σ H Q ->
  wpAny (model X.prog X.w) X.A (assignInOrder ((assignEach ts X.env).map (·.2)) us) (fun _ s' => ∃ σ' H', Inv X pins σ' H' s' /\ Q σ' H') X.xe s
abbrev YpZ := V -> V -> V -> Hp -> (Hp -> Prop) -> Prop
def YpF (X : Cx) (t : YpZ) : Prop :=
 ∀ (pins : LAO) (s : Shared) (σ : St) (H : Hp) (o i v : V) (ov iv u : Value) (Q : Hp -> Prop), Inv X pins σ H s -> RelV o ov -> RelV i iv -> RelV v u -> t o i v H Q ->
  wpAny (model X.prog X.w) X.A (setItem ov iv u) (fun _ s' => ∃ H', Inv X pins σ H' s' /\ Q H') X.xe s
section
variable {X : Cx} {pos : Pos}
def Yo2 (i : Nat) : TG := fun v σ H Q => Q (σ.set i (some v)) H
theorem Yh8 {i : Nat} {x : Str} (hN : X.N.Nodup) (hi : X.N[i]? = some x) (hx : Loc X.env.scope x) (hf : X.fn x = true \/ X.env.scope.names.lookup x = some .local := by first | exact .inl rfl | exact .inr rfl | assumption) : PG X (.Name x pos) (Yo2 i) := by
 intro pins s σ H v u Q I r h
 exact wpAny_assign_Name (Yaz I hN hi hx r (fun s' I' => ⟨_, H, I', h⟩) hf)
def YpN : TGs := fun vs σ H Q => vs = [] /\ Q σ H
def YpB (t : TG) (u : TGs) : TGs := fun vs σ H Q => ∃ v r, vs = v :: r /\ t v σ H fun σ' H' => u r σ' H' Q
theorem YiK : PGs X [] YpN := by
 intro pins s σ H vs us Q I r h
 obtain ⟨e, h⟩ := h
 subst e
 cases r
 exact assignInOrder_nil ⟨σ, H, I, h⟩
theorem YfM {e : Expr} {es : List Expr} {t : TG} {u : TGs} (h1 : PG X e t) (h2 : PGs X es u)
 (hs : (assignEach (e :: es) X.env).map (·.2) = assign e X.env :: (assignEach es X.env).map (·.2) := by rfl) : PGs X (e :: es) (YpB t u) := by
 intro pins s σ H vs us Q I r h
 obtain ⟨v, vr, e1, h⟩ := h
 subst e1
 cases r with
 | cons r rr =>
  rw [hs]
  refine assignInOrder_cons (thn (h1 pins s σ H _ _ _ I r h) fun _ s1 ⟨σ1, H1, I1, q1⟩ => ?_)
  exact h2 pins s1 σ1 H1 _ _ Q I1 rr q1
def YpL (K : Frag) (n : Nat) (t : TGs) : TG := fun v σ H Q => ∃ a xs, v = .ref a /\ SqT K H a xs /\ xs.length = n /\ t xs σ H Q
theorem Ykv {es : List Expr} {k : Nat} {t : TGs} {n : Nat} (hc : X.calm = true) (h : PGs X es t)
 (hn : (assignEach es X.env).length = n := by rfl) (hst : (assignEach es X.env).findIdx? (·.1) = none := by rfl) : PG X (.Tuple es k pos) (YpL X.K n t) := by
 intro pins s σ H v u Q I r hw
 obtain ⟨a, xs, e1, hq, hl, hw⟩ := hw
 subst e1
 cases r
 obtain ⟨its, rv, ht, hz⟩ := I.tuple hq
 refine assign_Tuple_tuple (I.ok.hd hc) ht (by simp [hn, <- hl, rv.length]) hst fun h' hx => ?_
 have I1 : Inv X pins σ H { s with heap := h' } := I.kept (t' := s.toks) fun b o e => hx b o (ZAP (ZAG e)) e
 exact h pins _ σ H xs _ Q I1 (by simpa using rv) hw
def YpY (te : TE) (g : TG) : TS := fun D σ H => te σ H fun x H1 => g x σ H1 D.nx
theorem Ykp {i : Nat} {x : Str} {e : Expr} {te : TE} {pos' : Pos} (hN : X.N.Nodup) (hi : X.N[i]? = some x) (hx : Loc X.env.scope x) (he : PE X e te) (hs : swapsWith e (some (.Name x pos')) pos.line X.env = pure false := by rfl) (hf : X.fn x = true \/ X.env.scope.names.lookup x = some .local := by first | exact .inl rfl | exact .inr rfl | assumption) :
 PS X (.Assign [.Name x pos'] e pos) (YpY te (Yo2 i)) := by
 show 173
 refine wpAny_Assign_Name (thn (he pins s σ H _ I h) fun v s1 ⟨y, H1, I1, r1, q1⟩ => ?_) hs
 exact Yaz I1 hN hi hx r1 (fun s2 I2 => ⟨_, H1, I2, q1⟩) hf
end
section
variable {X : Cx} {pos : Pos}
def Yph (c : TT) (tb : TS) : TS := fun D σ H => ∃ W : Nat -> St -> Hp -> Prop, (∃ m, W m σ H) /\ ∀ m σ H, W m σ H ->
 c σ H fun b H1 => if b = true then ∃ N : St -> Hp -> Prop, (∀ σ' H', N σ' H' -> ∃ m', m' < m /\ W m' σ' H') /\ tb { D with nx := N, ct := N, bk := D.nx } σ H1 else D.nx σ H1
theorem Yg0 {c : Expr} {body : List Stmt} {tc : TT} {tb : TS} (hp : PassesOwn (model X.prog X.w) X.A X.env X.xe) (hc : PT X c tc) (hb : PSs X body tb) : PS X (.While c body [] pos) (Yph tc tb) := by
 show 173
 obtain ⟨W, ⟨m0, w0⟩, turn⟩ := h
 refine wpAny_While (codeAny_whileLoop (fun n s' => ∃ σ' H', Inv X pins σ' H' s' /\ W n σ' H') ?_ m0 ⟨σ, H, I, w0⟩)
 rintro n s1 ⟨σ1, H1, I1, w1⟩
 refine ZBS hp (thn (hc pins s1 σ1 H1 _ I1 (turn n σ1 H1 w1)) fun b s2 ⟨H2, I2, q2⟩ => ?_)
 cases b with
 | true =>
  obtain ⟨N, hN, q2⟩ := q2
  rw [ZAE rfl]
  refine ZBS hp (thn (hb pins s2 σ1 H2 _ I2 q2) fun f s3 q3 => ?_)
  cases f with
  | next =>
   obtain ⟨σ3, H3, I3, n3⟩ := q3
   obtain ⟨m', hm, w3⟩ := hN σ3 H3 n3
   exact ⟨m', hm, σ3, H3, I3, w3⟩
  | cont =>
   obtain ⟨σ3, H3, I3, n3⟩ := q3
   obtain ⟨m', hm, w3⟩ := hN σ3 H3 n3
   exact ⟨m', hm, σ3, H3, I3, w3⟩
  | brk => exact q3
  | ret v => exact q3
 | false =>
  rw [ZAF ZAU]
  exact ZBY ⟨σ1, H2, I2, q2⟩
end
structure It where
 go : Nat -> Hp -> Prop
 yld : Nat -> Hp -> V -> Hp -> Prop
 stop : Nat -> Hp -> Prop
def YmR (X : Cx) (pins : LAO) (H : Hp) (b : Addr) : Prop :=
 H b = none /\ b ≠ X.env.locals /\ b ∉ X.fs /\ (b ∈ X.ex \/ X.s₀.heap.objs.size <= b) /\ (∀ x c, X.env.cells.lookup x = some c -> c ≠ b) /\ ∀ p ∈ X.pn ++ pins, p.1 ≠ b
theorem Inv.fpOk {X : Cx} {pins : LAO} {σ : St} {H H' : Hp} {s : Shared} {b : Addr} (I : Inv X pins σ H s) (hb : s.heap.objs.size <= b) (hn : H' b = none) : YmR X pins H' b := by
 refine ⟨hn, ZBV (ZAM I.lt hb), I.nofs hb, .inr (ZAO I.sz hb), fun x c e z => ?_, fun p hp z => ?_⟩
 ·obtain ⟨v, q⟩ := I.cell x c e
  exact absurd (ZAM q.lt (by rw [z]; exact hb)) (ZBH _)
 ·exact absurd (ZAM (ZAG (I.pin p hp).1) (by rw [z]; exact hb)) (ZBH _)
structure Turn (P : Program) (w : World) (K : Frag) (tg : Expr) (J : It) (fp : List Addr) (it : Addr) (tn : Nat -> Heap -> Prop) : Prop where
 mem : it ∈ fp
 obj : ∀ i h, tn i h -> ∀ b ∈ fp, ∃ o, h.get? b = some o /\ ∀ v, o.data ≠ .cell v
 keep : ∀ i h h', tn i h -> (∀ b ∈ fp, ∀ o, h.get? b = some o -> h'.get? b = some o) -> tn i h'
 item : ∀ (X : Cx), X.prog = P -> X.w = w -> X.K = K -> X.calm = true -> ∀ (i : Nat) (pins : LAO) (s : Shared) (σ : St) (H : Hp) (E : VSP), Inv X pins σ H s -> (∀ b ∈ fp, YmR X pins H b) -> tn i s.heap -> J.go i H ->
  wpAny (model P w) X.A (pyNext (.ref it)) (fun r s1 => ∃ u, r = some u /\
   wpAny (model P w) X.A (letOwnedTupleGo tg (.ref it) u) (fun _ s2 => ∃ x H', Inv X pins σ H' s2 /\ RelV x u /\ J.yld i H x H' /\ tn (i + 1) s2.heap /\ ∀ b ∈ fp, H' b = none) E s1) E s
 done : ∀ (X : Cx), X.prog = P -> X.w = w -> X.K = K -> X.calm = true -> ∀ (i : Nat) (pins : LAO) (s : Shared) (σ : St) (H : Hp) (E : VSP), Inv X pins σ H s -> (∀ b ∈ fp, YmR X pins H b) -> tn i s.heap -> J.stop i H ->
  wpAny (model P w) X.A (pyNext (.ref it)) (fun r s1 => r = none /\ Inv X pins σ H s1) E s
 self : ∀ (A : Around) (i : Nat) (s : Shared) (Q : VSP) (E : VSP), tn i s.heap -> Q (.ref it) s -> wpAny (model P w) A (pyIter (.ref it)) Q E s
abbrev TI := St -> Hp -> (It -> Hp -> Prop) -> Prop
def PIE (X : Cx) (pins : LAO) (σ : St) (tg : Expr) (R : It -> Hp -> Prop) (itv : Value) (s2 : Shared) : Prop :=
 ∃ (it : Addr) (fp : List Addr) (tn : Nat -> Heap -> Prop) (J : It) (H' : Hp), itv = .ref it /\ Inv X pins σ H' s2 /\ Turn X.prog X.w X.K tg J fp it tn /\ tn 0 s2.heap /\ (∀ b ∈ fp, YmR X pins H' b) /\ R J H'
def PI (X : Cx) (tg iter : Expr) (wi : TI) : Prop :=
 ∀ (pins : LAO) (s : Shared) (σ : St) (H : Hp) (R : It -> Hp -> Prop), Inv X pins σ H s -> wi σ H R ->
  wpAny (model X.prog X.w) X.A (eval iter X.env) (fun v s1 => wpAny (model X.prog X.w) X.A (pyIter v) (PIE X pins σ tg R) X.xe s1) X.xe s
theorem Yej {M : Model} {A : Around} {E : VSP} {s : Shared} {tg : Expr} {it : Addr} {u : Value} {o : Obj} {n : String} {vs : Array Value} {Q : Unit -> Shared -> Prop} (ho : s.heap.get? it = some o) (hc : o.cls = .type n) (hd : o.data = .fields vs)
 (hn : ["enumerate", "zip", "dict_itemiterator", "dict_reverseitemiterator", "odict_iterator", "itertools.zip_longest", "itertools.pairwise"].contains n = false) (hQ : Q () s) : wpAny M A (letOwnedTupleGo tg (.ref it) u) Q E s := by
 unfold letOwnedTupleGo
 cases tg <;> first
  | exact ZAC hQ
  | (cases u <;> first
   | exact ZAC hQ
   | (refine ZAA (ZCL ho ?_)
      rw [hc, hd]
      show wpAny M A (if (["enumerate", "zip", "dict_itemiterator", "dict_reverseitemiterator", "odict_iterator", "itertools.zip_longest", "itertools.pairwise"].contains n && vs[0]? == some (rawInt _)) = true then _ else _) Q E s
      rw [ZAF (by intro h; rw [hn, Bool.false_and] at h; cases h)]
      exact ZAC hQ))
def Itl (K : Frag) (a : Addr) : It :=
 ⟨fun i H => ∃ xs x, SqL K H a xs /\ xs[i]? = some x, fun i H x H' => H' = H /\ ∀ xs, SqL K H a xs -> xs[i]? = some x, fun i H => ∃ xs, SqL K H a xs /\ xs.length <= i⟩
def Itt (K : Frag) (a : Addr) : It :=
 ⟨fun i H => ∃ xs x, SqT K H a xs /\ xs[i]? = some x, fun i H x H' => H' = H /\ ∀ xs, SqT K H a xs -> xs[i]? = some x, fun i H => ∃ xs, SqT K H a xs /\ xs.length <= i⟩
def Itr (lo : Int) (n : Nat) : It := ⟨fun i _ => i < n, fun i H x H' => H' = H /\ x = .int (lo + i), fun i _ => n <= i⟩
theorem YeR {P : Program} {w : World} {K : Frag} {tg : Expr} (a it : Addr) : Turn P w K tg (Itl K a) [it] it (fun i h => h.IsListIter it a i) where
 mem := by simp
 obj := fun i h st b hb => by
  show 40
  obtain ⟨o, e, c, d⟩ := st
  exact ⟨o, e, fun v z => by rw [d] at z; cases z⟩
 keep := fun i h h' st k => st.at fun o e => k it (by simp) o e
 item := by
  show 34
  obtain ⟨xs, x, hq, hx⟩ := hg
  obtain ⟨its, rv, p, hz⟩ := I.list hq
  obtain ⟨u, hu, ru⟩ := rv.get hx
  show 201
  refine wpAny_pyNext_list_item st p.isList (x := u) (by simpa using hu) fun h' st' sb => ?_
  have I1 : Inv X pins σ H { s with heap := h' } := I.turned (t' := s.toks) (fun b o hb e => (sb.2 b hb).trans e) f0 f1 f3 f4 f5
  obtain ⟨o, e, c, d⟩ := id st'
  exact ⟨u, rfl, Yej (s := { s with heap := h' }) e c d (by decide) ⟨x, H, I1, ru, ⟨rfl, fun ys hy => by rw [I.list_inj hy hq]; exact hx⟩, st', fun b hb => (hf b hb).1⟩⟩
 done := by
  show 34
  obtain ⟨xs, hq, hx⟩ := hg
  obtain ⟨its, rv, p, hz⟩ := I.list hq
  show 201
  show 189
  exact wpAny_pyNext_list_end (I.ok.hd hc) st p.isList (by simp; omega) fun h' eb => ⟨rfl, I.turned (t' := s.toks) (fun b o hb e => eb b o hb e) f0 f1 f3 f4 f5⟩
 self := fun _ _ _ _ _ st h => wpAny_pyIter_listiter st h
theorem Ydx {P : Program} {w : World} {K : Frag} {tg : Expr} (a it : Addr) : Turn P w K tg (Itt K a) [it] it (fun i h => h.IsTupleIter it a i) where
 mem := by simp
 obj := fun i h st b hb => by
  show 40
  obtain ⟨o, e, c, d⟩ := st
  exact ⟨o, e, fun v z => by rw [d] at z; cases z⟩
 keep := fun i h h' st k => st.at fun o e => k it (by simp) o e
 item := by
  show 34
  obtain ⟨xs, x, hq, hx⟩ := hg
  obtain ⟨its, rv, p, hz⟩ := I.tuple hq
  obtain ⟨u, hu, ru⟩ := rv.get hx
  show 201
  refine wpAny_pyNext_tuple_item st (show s.heap.IsTuple a its.toArray from p) (x := u) (by simpa using hu) fun h' st' sb => ?_
  have I1 : Inv X pins σ H { s with heap := h' } := I.turned (t' := s.toks) (fun b o hb e => (sb.2 b hb).trans e) f0 f1 f3 f4 f5
  obtain ⟨o, e, c, d⟩ := id st'
  exact ⟨u, rfl, Yej (s := { s with heap := h' }) e c d (by decide) ⟨x, H, I1, ru, ⟨rfl, fun ys hy => by rw [I.tuple_inj hy hq]; exact hx⟩, st', fun b hb => (hf b hb).1⟩⟩
 done := by
  show 34
  obtain ⟨xs, hq, hx⟩ := hg
  obtain ⟨its, rv, p, hz⟩ := I.tuple hq
  show 201
  show 189
  exact wpAny_pyNext_tuple_end (I.ok.hd hc) st (show s.heap.IsTuple a its.toArray from p) (by simp; omega) fun h' eb => ⟨rfl, I.turned (t' := s.toks) (fun b o hb e => eb b o hb e) f0 f1 f3 f4 f5⟩
 self := fun _ _ _ _ _ st h => wpAny_pyIter_tupleiter st h
theorem Ydm {P : Program} {w : World} {K : Frag} {tg : Expr} (it : Addr) (lo : Int) (n : Nat) : Turn P w K tg (Itr lo n) [it] it (fun i h => IsRangeIter h it (lo + (i : Nat) * 1) ((n : Int) - (i : Nat)) 1) where
 mem := by simp
 obj := fun i h st b hb => by
  show 40
  exact ⟨_, st, fun v z => by
   have z' : Data.fields _ = Data.cell v := z
   cases z'⟩
 keep := fun i h h' st k => k it (by simp) _ st
 item := by
  show 67
  have W := Walks.range (prog := X.prog) (w := X.w) (I.ok.hd hc) it lo 1 n
  refine W.item i s _ _ hg st fun v h' tk hv st' kk => ?_
  obtain ⟨t, rfl⟩ := hv
  have I1 : Inv X pins σ H { s with heap := h', toks := tk } := I.turned (fun b o hb e => kk b o (by simpa using hb) e) f0 f1 f3 f4 f5
  refine ⟨_, rfl, Yej (s := { s with heap := h', toks := tk }) (n := "range_iterator") st' rfl rfl (by decide) ⟨.int (lo + i), H, I1, ⟨t, ?_⟩, ⟨rfl, rfl⟩, st', fun b hb => (hf b hb).1⟩⟩
  rw [Int.mul_one]
 done := by
  show 67
  exact wpAny_pyNext_range_end (I.ok.hd hc) st (by have : n <= i := hg; omega) fun h' eb => ⟨rfl, I.turned (t' := s.toks) (fun b o hb e => eb b o hb e) f0 f1 f3 f4 f5⟩
 self := fun _ _ _ _ _ st h => wpAny_pyIter_rangeiter st h
end L2
namespace L2
open PySem PySem.Spec PyProof.Rows
section
variable {X : Cx} {tg : Expr}
theorem Yg9 {pins : LAO} {σ : St} {H : Hp} {s : Shared} {R : It -> Hp -> Prop} {E : VSP} {lo hi : Int} {t u v : Tok} {tk : Nat} (I : Inv X pins σ H s) (h1 : -(2 ^ 62) <= lo) (h2 : lo < 2 ^ 62) (h3 : -(2 ^ 62) <= hi) (h4 : hi < 2 ^ 62)
 (q : R (Itr lo (hi - lo).toNat) H) : wpAny (model X.prog X.w) X.A (pyIter (.ref s.heap.objs.size)) (PIE X pins σ tg R) E { s with heap := s.heap.push { cls := .type "range", data := .fields #[.int lo t, .int hi u, .int 1 v] }, toks := tk } := by
 refine wpAny_pyIter_range (IsRange.new ..) (small_one h1 h2 h3 h4) ?_
 have I1 : Inv X pins σ H { s with heap := s.heap.push { cls := .type "range", data := .fields #[.int lo t, .int hi u, .int 1 v] }, toks := tk } := I.kept fun b o e => ZAB _ e
 refine ⟨(s.heap.push { cls := .type "range", data := .fields #[.int lo t, .int hi u, .int 1 v] }).objs.size, [(s.heap.push { cls := .type "range", data := .fields #[.int lo t, .int hi u, .int 1 v] }).objs.size], _, _, H, rfl,
  I1.kept (t' := tk) fun b o e => ZAB _ e, Ydm _ lo (hi - lo).toNat, ?_, fun b hb => ?_, q⟩
 ·have e1 : lo + ((0 : Nat) : Int) * 1 = lo := by simp
  have e2 : (((hi - lo).toNat : Nat) : Int) - ((0 : Nat) : Int) = Builtin.Range.rangeSize lo hi 1 := by rw [rangeSize_one]; split <;> omega
  show IsRangeIter _ _ (lo + ((0 : Nat) : Int) * 1) ((((hi - lo).toNat : Nat) : Int) - ((0 : Nat) : Int)) 1
  rw [e1, e2]
  exact ZAK _ rfl
 ·have e : b = (s.heap.push { cls := .type "range", data := .fields #[.int lo t, .int hi u, .int 1 v] }).objs.size := by simpa using hb
  subst e
  exact I1.fpOk (ZAI _) (I1.hok.fresh (ZAI _))
def Ypq (ta : TA) : TI := fun σ H R => ta σ H fun vs H1 => ∃ j : Int, vs = [.int j] /\ -(2 ^ 62) <= j /\ j < 2 ^ 62 /\ R (Itr 0 j.toNat) H1
theorem YeK {a : Expr} {ta : TA} {p pos : Pos} (hg : Gl X "range") (hm : X.mg "range" = none) (ha : PA X [a] ta) (hs : starEach [a] X.env = [(false, eval a X.env)] := by rfl) : PI X tg (.Call (.Name "range" p) [a] [] pos) (Ypq ta) := by
 intro pins s σ H R I h
 refine Call_ (Va I hg hm boot_range (PyProof.Rows.callWith_type1 (thn (ha pos pins s σ H _ I h) fun us s1 ⟨vs, H1, I1, r1, q1⟩ => ?_) hs rfl))
 obtain ⟨j, e, q1, q2, q⟩ := q1
 subst e
 cases r1 with
 | cons r rr =>
  cases rr
  show 204
  exact call_range_1 (Yg9 I1 (by omega) (by omega) q1 q2 (by simpa using q))
def YpR (wi : TI) (g : TG) (tb : TS) : TS := fun D σ H => wi σ H fun J H1 => ∃ W : Nat -> Nat -> St -> Hp -> Prop, (∃ m, W 0 m σ H1) /\ ∀ i m σ H, W i m σ H ->
 (J.stop i H /\ D.nx σ H) \/ (J.go i H /\ ∃ N : St -> Hp -> Prop, (∀ σ' H', N σ' H' -> ∃ m', m' < m /\ W (i + 1) m' σ' H') /\ ∀ x H', J.yld i H x H' -> g x σ H' fun σ2 H2 => tb { D with nx := N, ct := N, bk := D.nx } σ2 H2)
def Ynw (fp : List Addr) (h : Heap) : List (Addr × Obj) := fp.filterMap fun b => (h.get? b).map fun o => (b, o)
theorem Wi {fp : List Addr} {h : Heap} {b : Addr} {o : Obj} (hb : b ∈ fp) (e : h.get? b = some o) : (b, o) ∈ Ynw fp h := ZAu.mpr ⟨b, hb, by rw [e]; rfl⟩
theorem YeT {fp : List Addr} {h : Heap} {p : Addr × Obj} (hp : p ∈ Ynw fp h) : p.1 ∈ fp /\ h.get? p.1 = some p.2 := by
 obtain ⟨b, hb, e⟩ := ZAu.mp hp
 cases q : h.get? b with
 | none => show 191
 | some o =>
  rw [q] at e
  have e' : (b, o) = p := Option.some.inj e
  subst e'
  exact ⟨hb, q⟩
theorem Inv.pinned {pins : LAO} {σ : St} {H : Hp} {s : Shared} {fp : List Addr} (I : Inv X pins σ H s) (hf : ∀ b ∈ fp, YmR X pins H b) (ho : ∀ b ∈ fp, ∃ o, s.heap.get? b = some o /\ ∀ v, o.data ≠ .cell v) : Inv X (pins ++ Ynw fp s.heap) σ H s :=
 I.pins_of fun p hp => (ZAx.mp hp).elim (fun z => I.pin p (ZAX _ z)) fun z => by
  obtain ⟨hb, e⟩ := YeT z
  obtain ⟨f0, f1, f2, _⟩ := hf p.1 hb
  obtain ⟨o, e', d⟩ := ho p.1 hb
  rw [e] at e'; cases e'
  exact ⟨e, f0, f1, f2, d⟩
theorem Inv.unpinned {pins pl : LAO} {σ : St} {H : Hp} {s : Shared} (I : Inv X (pins ++ pl) σ H s) : Inv X pins σ H s := I.pins_of fun p hp => I.pin p (ZAX _ (ZA4 _ hp))
theorem Ykt {iter : Expr} {body : List Stmt} {wi : TI} {g : TG} {tb : TS} {pos : Pos} (hp : PassesOwn (model X.prog X.w) X.A X.env X.xe) (hc : X.calm = true) (hi : PI X tg iter wi) (hg : PG X tg g) (hb : PSs X body tb)
 (hs : ∀ x, foldedSetIterable iter X.env x = pure x := by intro _; rfl) : PS X (.For tg iter body [] pos) (YpR wi g tb) := by
 show 173
 refine wpAny_For (thn (hi pins s σ H _ I h) fun v s1 h1 => thn h1 fun itv s2 h2 => ?_) hs
 obtain ⟨it, fp, tn, J, H2, e, I2, T, st2, f2, W, ⟨m0, w0⟩, turn⟩ := h2
 subst e
 have stat : ∀ {H' : Hp}, (∀ b ∈ fp, H' b = none) -> ∀ b ∈ fp, YmR X pins H' b := fun hn b hb => ⟨hn b hb, (f2 b hb).2⟩
 refine codeAny_forLoop_any (fun n s' => ∃ i σ' H', Inv X pins σ' H' s' /\ tn i s'.heap /\ (∀ b ∈ fp, H' b = none) /\ W i n σ' H') ?_ m0 ⟨0, σ, H2, I2, st2, fun b hb => (f2 b hb).1, w0⟩
 rintro n s3 ⟨i, σ3, H3, I3, st3, fr3, w3⟩
 rcases turn i n σ3 H3 w3 with ⟨stop, qn⟩ | ⟨go, N, hN, step⟩
 ·refine ZBS hp (thn (T.done X rfl rfl rfl hc i pins s3 σ3 H3 X.xe I3 (stat fr3) st3 stop) fun r s4 ⟨hr, I4⟩ => ?_)
  subst hr
  exact ZBY ⟨σ3, H3, I4, qn⟩
 ·refine ZBS hp (thn (T.item X rfl rfl rfl hc i pins s3 σ3 H3 X.xe I3 (stat fr3) st3 go) fun r s4 ⟨u, hr, h4⟩ => ?_)
  subst hr
  refine ZBS hp (thn h4 fun _ s5 ⟨x, H5, I5, r5, y5, st5, fr5⟩ => ?_)
  have I5' := I5.pinned (stat fr5) (T.obj _ _ st5)
  refine ZBS hp (thn (hg _ s5 σ3 H5 x u _ I5' r5 (step x H5 y5)) fun _ s6 ⟨σ6, H6, I6, q6⟩ => ?_)
  refine ZBS hp (thn (hb _ s6 σ6 H6 _ I6 q6) fun f s7 q7 => ?_)
  have again : ∀ {σ7 : St} {H7 : Hp}, Inv X (pins ++ Ynw fp s5.heap) σ7 H7 s7 -> N σ7 H7 -> ∃ m, m < n /\ ∃ i σ' H', Inv X pins σ' H' s7 /\ tn i s7.heap /\ (∀ b ∈ fp, H' b = none) /\ W i m σ' H' := fun {σ7 H7} I7 n7 => by
   obtain ⟨m', hm, w7⟩ := hN σ7 H7 n7
   refine ⟨m', hm, i + 1, σ7, H7, I7.unpinned, T.keep _ _ _ st5 fun b hb o e => (I7.pin (b, o) (ZAX _ (ZAX _ (Wi hb e)))).1, fun b hb => ?_, w7⟩
   obtain ⟨o, e, d⟩ := T.obj _ _ st5 b hb
   exact (I7.pin (b, o) (ZAX _ (ZAX _ (Wi hb e)))).2.1
  cases f with
  | next => obtain ⟨σ7, H7, I7, n7⟩ := q7; exact again I7 n7
  | cont => obtain ⟨σ7, H7, I7, n7⟩ := q7; exact again I7 n7
  | brk => obtain ⟨σ7, H7, I7, q7⟩ := q7; exact ⟨σ7, H7, I7.unpinned, q7⟩
  | ret v => obtain ⟨x7, σ7, H7, I7, r7, q7⟩ := q7; exact ⟨x7, σ7, H7, I7.unpinned, r7, q7⟩
end
end L2
namespace L2
open PySem PySem.Spec PyProof.Rows
abbrev R2 := V -> V -> Hp -> VK -> Prop
def OpR (X : Cx) (f : Value -> Value -> Sem Value) (r : R2) : Prop :=
 ∀ (pins : LAO) (s : Shared) (σ : St) (H : Hp) (x y : V) (v u : Value) (Q : VK), Inv X pins σ H s -> RelV x v -> RelV y u -> r x y H Q ->
  wpAny (model X.prog X.w) X.A (f v u) (EP X pins σ Q) X.xe s
def UnR (X : Cx) (f : Value -> Sem Value) (r : V -> Hp -> VK -> Prop) : Prop :=
 ∀ (pins : LAO) (s : Shared) (σ : St) (H : Hp) (x : V) (v : Value) (Q : VK), Inv X pins σ H s -> RelV x v -> r x H Q ->
  wpAny (model X.prog X.w) X.A (f v) (EP X pins σ Q) X.xe s
def Ymw (X : Cx) (f : Value) (r : List V -> Hp -> VK -> Prop) : Prop :=
 ∀ (pins : LAO) (s : Shared) (σ : St) (H : Hp) (xs : List V) (us : List Value) (Q : VK), Inv X pins σ H s -> Vals xs us -> r xs H Q ->
  wpAny (model X.prog X.w) X.A (call f us) (EP X pins σ Q) X.xe s
def YpM (X : Cx) (r : V -> Hp -> (Bool -> Hp -> Prop) -> Prop) : Prop :=
 ∀ (pins : LAO) (s : Shared) (σ : St) (H : Hp) (x : V) (v : Value) (Q : Bool -> Hp -> Prop), Inv X pins σ H s -> RelV x v -> r x H Q ->
  wpAny (model X.prog X.w) X.A (truthy v) (TP X pins σ Q) X.xe s
def tOp (r : R2) (ta tb : TE) : TE := fun σ H Q => ta σ H fun x H1 => tb σ H1 fun y H2 => r x y H2 Q
def tUn (r : V -> Hp -> VK -> Prop) (ta : TE) : TE := fun σ H Q => ta σ H fun x H1 => r x H1 Q
def rI (C : Int -> Int -> Prop) (g : Int -> Int -> V) : R2 := fun x y H Q => ∃ i j, x = .int i /\ y = .int j /\ C i j /\ Q (g i j) H
def rI0 (g : Int -> Int -> V) : R2 := fun x y H Q => ∃ i j, x = .int i /\ y = .int j /\ Q (g i j) H
def rU (g : Int -> V) : V -> Hp -> VK -> Prop := fun x H Q => ∃ i, x = .int i /\ Q (g i) H
section
variable {X : Cx} {a b c : Expr} {ta tb tc : TE} {pos : Pos}
theorem Ype (ha : PE X a ta) (hb : PE X b tb) {pins : LAO} {s : Shared} {σ : St} {H : Hp} {R : V -> V -> Hp -> Prop} (I : Inv X pins σ H s)
 (h : ta σ H fun x H1 => tb σ H1 fun y H2 => R x y H2) {Q : VSP} {f : Value -> Value -> Sem Value}
 (hf : ∀ v u s2 x y H2, Inv X pins σ H2 s2 -> RelV x v -> RelV y u -> R x y H2 -> wpAny (model X.prog X.w) X.A (f v u) Q X.xe s2) :
 wpAny (model X.prog X.w) X.A (eval a X.env) (fun v s₁ => wpAny (model X.prog X.w) X.A (eval b X.env) (fun u s₂ => wpAny (model X.prog X.w) X.A (f v u) Q X.xe s₂) X.xe s₁) X.xe s := by
 refine thn (ha pins s σ H _ I h) fun v s1 ⟨x, H1, I1, r1, q1⟩ => ?_
 refine thn (hb pins s1 σ H1 _ I1 q1) fun u s2 ⟨y, H2, I2, r2, q2⟩ => ?_
 exact hf v u s2 x y H2 I2 r1 r2 q2
theorem Yk4 {op : Operator} {r : R2} (ho : OpR X (binaryOp op) r) (ha : PE X a ta) (hb : PE X b tb) : PE X (.BinOp a op b pos) (tOp r ta tb) := by
 show 154
 exact wpAny_BinOp (Ype ha hb I h fun v u s2 x y H2 I2 rx ry q => ho pins s2 σ H2 x y v u Q I2 rx ry q)
theorem Yk3 {op : UnaryOp} {r : V -> Hp -> VK -> Prop} (ho : UnR X (unaryOp op) r) (ha : PE X a ta) : PE X (.UnaryOp op a pos) (tUn r ta) := by
 show 154
 exact UnaryOp_ (thn (ha pins s σ H _ I h) fun v s1 ⟨x, H1, I1, r1, q1⟩ => ho pins s1 σ H1 x v Q I1 r1 q1)
theorem opI {f : Value -> Value -> Sem Value} {C : Int -> Int -> Prop} {g : Int -> Int -> Int}
 (rule : ∀ (i j : Int) (t u : Tok) (s : Shared) (Q : VSP) (E : VSP), C i j -> Q (.int (g i j) s.toks) { s with toks := s.toks + 1 } -> wpAny (model X.prog X.w) X.A (f (.int i t) (.int j u)) Q E s) :
 OpR X f (rI C fun i j => .int (g i j)) := by
 show 185
 obtain ⟨i, j, rfl, rfl, hc, q⟩ := h
 show 22
 exact rule i j t t' s _ _ hc ⟨.int (g i j), H, I.tok _, ⟨_, rfl⟩, q⟩
theorem YpE {f : Value -> Value -> Sem Value} {g : Int -> Int -> Int}
 (rule : ∀ (i j : Int) (t u : Tok) (s : Shared) (Q : VSP) (E : VSP), Q (.int (g i j) s.toks) { s with toks := s.toks + 1 } -> wpAny (model X.prog X.w) X.A (f (.int i t) (.int j u)) Q E s) :
 OpR X f (rI0 fun i j => .int (g i j)) := by
 show 54
 exact rule i j t t' s _ _ ⟨.int (g i j), H, I.tok _, ⟨_, rfl⟩, q⟩
theorem Ypc {f : Value -> Value -> Sem Value} {g : Int -> Int -> Bool}
 (rule : ∀ (i j : Int) (t u : Tok) (s : Shared) (Q : VSP) (E : VSP), Q (.bool (g i j)) s -> wpAny (model X.prog X.w) X.A (f (.int i t) (.int j u)) Q E s) :
 OpR X f (rI0 fun i j => .bl (g i j)) := by
 show 54
 exact rule i j t t' s _ _ ⟨.bl (g i j), H, I, rfl, q⟩
def Yp4 (i j : Int) : Prop := 0 < j /\ j < 1073741824
def Ypj (i j : Int) : Prop := (-(2 ^ 64) < i /\ i < 2 ^ 64) \/ (-(2 ^ 64) < j /\ j < 2 ^ 64)
theorem Ypj.ok {i j : Int} (h : Ypj i j) : IntMulOk i j := by
 rcases h with ⟨h1, h2⟩ | ⟨h1, h2⟩
 ·exact .of_left (intBits_le_64 h1 h2)
 ·exact .of_right (intBits_le_64 h1 h2)
theorem Yjc : OpR X (binaryOp .Add) (rI0 fun i j => .int (i + j)) := YpE fun _ _ _ _ _ _ _ q => add_int q
theorem YjP : OpR X (binaryOp .Mult) (rI Ypj fun i j => .int (i * j)) := opI fun _ _ _ _ _ _ _ hc q => mul_int q hc.ok
theorem Yis : OpR X (binaryOp .FloorDiv) (rI Yp4 fun i j => .int (i / j)) := opI fun i j _ _ _ _ _ hc q => by
 have h1 : (0 : Int) < j := hc.1
 have h2 : j < 1073741824 := hc.2
 exact floordiv_int (by omega) (by rw [Int.fdiv_eq_ediv_of_nonneg i (by omega)]; exact q) (.inl (PyProof.noPylong_small (by omega)))
theorem Ykn : OpR X (binaryOp .Mod) (rI (fun _ j => 0 < j) fun i j => .int (i % j)) := opI fun i j _ _ _ _ _ hc q => by
 have h1 : (0 : Int) < j := hc
 exact mod_int' (by omega) (by rw [Int.fmod_eq_emod_of_nonneg i (by omega)]; exact q)
theorem unI {f : Value -> Sem Value} {g : Int -> Int}
 (rule : ∀ (i : Int) (t : Tok) (s : Shared) (Q : VSP) (E : VSP), Q (.int (g i) s.toks) { s with toks := s.toks + 1 } -> wpAny (model X.prog X.w) X.A (f (.int i t)) Q E s) :
 UnR X f (rU fun i => .int (g i)) := by
 intro pins s σ H x v Q I rx h
 obtain ⟨i, rfl, q⟩ := h
 show 163
 exact rule i t s _ _ ⟨.int (g i), H, I.tok _, ⟨_, rfl⟩, q⟩
theorem Ykz : UnR X (unaryOp .USub) (rU fun i => .int (-i)) := unI fun _ _ _ _ _ q => neg_int q
end
section
variable {X : Cx} {a b c : Expr} {ta tb tc : TE} {pos : Pos}
theorem YdD {pins : LAO} {σ : St} {H : Hp} {s : Shared} {Q : VK} {k k' : Bool} (I : Inv X pins σ H s) (q : Q (.bl k) H) (e : k = k') : EP X pins σ Q (.bool k') s := by
 subst e
 exact ⟨.bl k, H, I, rfl, q⟩
theorem YkI : OpR X (compareOp .Lt) (rI0 fun i j => .bl (decide (i < j))) := Ypc fun _ _ _ _ _ _ _ q => lt_int q
theorem YkU : OpR X (compareOp .LtE) (rI0 fun i j => .bl (decide (i <= j))) := Ypc fun _ _ _ _ _ _ _ q => le_int q
theorem Ylf : OpR X (compareOp .Gt) (rI0 fun i j => .bl (decide (j < i))) := Ypc fun _ _ _ _ _ _ _ q => gt_int q
theorem Yfp : OpR X (compareOp .Lt) (fun x y H Q => ∃ i j, x = .str i /\ y = .str j /\ Q (.bl (decide (i.cps.toList < j.cps.toList))) H) := by
 show 54
 exact lt_str (YdD I q rfl)
theorem YeB : OpR X (compareOp .In) (fun x y H Q => ∃ i j, x = .str i /\ y = .str j /\ Q (.bl (!(Builtin.Str.occurrences j i 0 j.length 1).isEmpty)) H) := by
 show 54
 exact in_str (YdD I q rfl)
theorem Yjs : OpR X (compareOp .Is) (fun x y H Q => y = .non /\ Q (.bl (decide (x = .non))) H) := by
 show 185
 obtain ⟨rfl, q⟩ := h
 cases ry
 refine is_none_gen (YdD I q ?_)
 cases x <;> first
  | (cases rx; rfl)
  | (obtain ⟨t, rfl⟩ := rx; rfl)
theorem nomark (b : Expr) {op : CmpOp} (h : op ≠ .In := by decide) (h2 : op ≠ .NotIn := by decide) : behindInMarks op b = false := by
 have e1 : (op == CmpOp.In) = false := by cases op <;> first | rfl | exact absurd rfl h
 have e2 : (op == CmpOp.NotIn) = false := by cases op <;> first | rfl | exact absurd rfl h2
 cases b <;> simp [behindInMarks, e1, e2]
theorem Yh6 {op : CmpOp} {r : R2} (ho : OpR X (compareOp op) r) (ha : PE X a ta) (hb : PE X b tb) (hm : behindInMarks op b = false) : PE X (.Compare a [op] [b] pos) (tOp r ta tb) := by
 show 154
 exact wpAny_Compare1 (Ype ha hb I h fun v u s2 x y H2 I2 rx ry q => ho pins s2 σ H2 x y v u Q I2 rx ry q) hm
def YoD (t : TE) : TT := fun σ H Q => t σ H fun x H' => ∃ k, x = .bl k /\ Q k H'
theorem YhP {op : CmpOp} {r : R2} (ho : OpR X (compareOp op) r) (ha : PE X a ta) (hb : PE X b tb) (hm : behindInMarks op b = false) : PT X (.Compare a [op] [b] pos) (YoD (tOp r ta tb)) := by
 show 154
 refine wpAny_isTrue_Compare1 (thn (ha pins s σ H _ I h) fun v s1 ⟨x, H1, I1, r1, q1⟩ => thn (hb pins s1 σ H1 _ I1 q1) fun u s2 ⟨y, H2, I2, r2, q2⟩ =>
  thn (ho pins s2 σ H2 x y v u _ I2 r1 r2 q2) fun c s3 ⟨z, H3, I3, r3, k, e, q3⟩ => ?_) hm
 subst e
 cases r3
 exact ZBD ⟨H3, I3, q3⟩
def Yon (r r' : R2) (ta tb tc : TE) : TE := fun σ H Q => ta σ H fun x H1 => tb σ H1 fun y H2 => r x y H2 fun z H3 => ∃ k, z = .bl k /\
 (if k = true then tc σ H3 fun w' H4 => r' y w' H4 Q else Q (.bl false) H3)
theorem YgS {op op' : CmpOp} {r r' : R2} (ho : OpR X (compareOp op) r) (ho' : OpR X (compareOp op') r') (ha : PE X a ta) (hb : PE X b tb) (hc : PE X c tc)
 (hm : lastMarks [op, op'] [b, c] = false := by with_unfolding_all rfl) : PE X (.Compare a [op, op'] [b, c] pos) (Yon r r' ta tb tc) := by
 show 154
 refine Compare_chain (thn (ha pins s σ H _ I h) fun v s1 ⟨x, H1, I1, r1, q1⟩ => chain_link (thn (hb pins s1 σ H1 _ I1 q1) fun u s2 ⟨y, H2, I2, r2, q2⟩ =>
  thn (ho pins s2 σ H2 x y v u _ I2 r1 r2 q2) fun d s3 ⟨z, H3, I3, r3, k, e, q3⟩ => ?_)) hm
 subst e
 cases r3
 refine ZBD ?_
 cases k with
 | false => exact ite_ff ⟨.bl false, H3, I3, rfl, q3⟩
 | true => exact ite_tt (chain_last (thn (hc pins s3 σ H3 _ I3 q3) fun w' s4 ⟨z', H4, I4, r4, q4⟩ => ho' pins s4 σ H4 y z' u w' Q I4 r2 r4 q4))
theorem Yhw {op op' : CmpOp} {r r' : R2} (ho : OpR X (compareOp op) r) (ho' : OpR X (compareOp op') r') (ha : PE X a ta) (hb : PE X b tb) (hc : PE X c tc)
 (hm : lastMarks [op, op'] [b, c] = false := by with_unfolding_all rfl) : PT X (.Compare a [op, op'] [b, c] pos) (YoD (Yon r r' ta tb tc)) := by
 show 154
 refine isTrue_chain (thn (ha pins s σ H _ I h) fun v s1 ⟨x, H1, I1, r1, q1⟩ => test_link (thn (hb pins s1 σ H1 _ I1 q1) fun u s2 ⟨y, H2, I2, r2, q2⟩ =>
  thn (ho pins s2 σ H2 x y v u _ I2 r1 r2 q2) fun d s3 ⟨z, H3, I3, r3, k, e, q3⟩ => ?_)) hm
 subst e
 cases r3
 refine ZBD ?_
 cases k with
 | false =>
  obtain ⟨k', e', q'⟩ := q3
  cases e'
  exact ite_ff ⟨H3, I3, q'⟩
 | true =>
  refine ite_tt (test_last (thn (hc pins s3 σ H3 _ I3 q3) fun w' s4 ⟨z', H4, I4, r4, q4⟩ => thn (ho' pins s4 σ H4 y z' u w' _ I4 r2 r4 q4) fun d' s5 ⟨z2, H5, I5, r5, k2, e2, q5⟩ => ?_))
  subst e2
  cases r5
  exact ZBD ⟨H5, I5, q5⟩
def Ypb (K : Frag) (x : V) (H : Hp) (k : Bool) : Prop :=
 match x with
 | .non => k = false
 | .bl b => k = b
 | .int i => k = (i != 0)
 | .str y => y.length <= sizeLine /\ k = ((y.length : Int) != 0)
 | .byt y => y.size <= sizeLine /\ k = ((y.size : Int) != 0)
 | .ref p => (∃ xs, SqL K H p xs /\ k = !xs.isEmpty) \/ (∃ xs, SqT K H p xs /\ k = !xs.isEmpty) \/ ∃ kvs, H p = some (.dK kvs) /\ k = !kvs.isEmpty
 | _ => False
theorem YdJ {κ : Type} {kvs : List (κ × V)} {vs : List (κ × Value)} (r : KV kvs vs) : (!vs.isEmpty) = !kvs.isEmpty := by
 cases r <;> rfl
theorem Yas {xs : List V} {its : List Value} (r : Vals xs its) : (!its.toArray.isEmpty) = !xs.isEmpty := by
 cases r <;> simp
theorem line63 : (sizeLine : Nat) < 2 ^ 63 := by rw [sizeLine_eq]; decide
theorem Yji : YpM X (fun x H Q => ∃ k, Ypb X.K x H k /\ Q k H) := by
 intro pins s σ H x v Q I rx h
 obtain ⟨k, e, q⟩ := h
 have hl := line63
 have hs : sizeLine = 16777216 := sizeLine_eq
 cases x with
 | non =>
  cases rx
  have e' : k = false := e
  subst e'
  exact truthy_none ⟨H, I, q⟩
 | bl b =>
  cases rx
  have e' : k = b := e
  subst e'
  exact ZBD ⟨H, I, q⟩
 | int i =>
  show 163
  have e' : k = (i != 0) := e
  subst e'
  exact PySem.P.truthy_int ⟨H, I, q⟩
 | str y =>
  show 163
  obtain ⟨hy, e'⟩ : y.length <= sizeLine /\ k = ((y.length : Int) != 0) := e
  subst e'
  exact PySem.P.truthy_str (by omega) ⟨H, I.tok _, q⟩
 | byt y =>
  show 163
  obtain ⟨hy, e'⟩ : y.size <= sizeLine /\ k = ((y.size : Int) != 0) := e
  subst e'
  exact PySem.W.truthy_bytes (by omega) ⟨H, I.tok _, q⟩
 | ref p =>
  cases rx
  have e' : (∃ xs, SqL X.K H p xs /\ k = !xs.isEmpty) \/ (∃ xs, SqT X.K H p xs /\ k = !xs.isEmpty) \/ ∃ kvs, H p = some (.dK kvs) /\ k = !kvs.isEmpty := e
  rcases e' with ⟨xs, hx, e'⟩ | ⟨xs, hx, e'⟩ | ⟨kvs, hx, e'⟩
  ·subst e'
   obtain ⟨its, r, pl, hz⟩ := I.list hx
   have hlen := r.length
   exact wpAny_truthy_list pl.isList (by simp only [List.size_toArray]; omega) ⟨H, I.tok _, by rw [Yas r]; exact q⟩
  ·subst e'
   obtain ⟨its, r, pl, hz⟩ := I.tuple hx
   have hlen := r.length
   exact truthy_tuple pl (by simp only [List.size_toArray]; omega) ⟨H, I.tok _, by rw [Yas r]; exact q⟩
  ·subst e'
   obtain ⟨hz, hS, vs, r, m⟩ : kvs.length <= sizeLine /\ (p == sysModules) = false /\ ∃ vs, KV kvs vs /\ s.heap.DictOf (Yl0 X.prog X.w) p vs := I.hok p _ hx
   have hlen : kvs.length = vs.length := Paired.length r
   exact wpAny_truthy_dict hS m (by omega) ⟨H, I.tok _, by rw [YdJ r]; exact q⟩
 | _ => exact (show False from e).elim
theorem Yf1 (ha : PE X a ta) (he : ∀ whole, isTrue a X.env whole = (do let v <- whole; standAt a.pos; holding [v] (truthy v))) :
 PT X a (fun σ H Q => ta σ H fun x H' => ∃ k, Ypb X.K x H' k /\ Q k H') := by
 show 154
 exact isTrue_plain (thn (ha pins s σ H _ I h) fun v s1 ⟨x, H1, I1, r1, q1⟩ => Yji pins s1 σ H1 x v Q I1 r1 q1) (he _)
theorem YdG : OpR X (binaryOp .Add) (fun x y H Q => ∃ i j, x = .str i /\ y = .str j /\ i.length + j.length <= sizeLine /\ Q (.str (i ++ j)) H) := by
 show 185
 obtain ⟨i, j, rfl, rfl, hz, q⟩ := h
 show 22
 exact add_str (fun t' tk => ⟨.str (i ++ j), H, I.tok _, ⟨_, rfl⟩, q⟩) hz
theorem vals1 {x : V} {us : List Value} (r : Vals [x] us) : ∃ u, us = [u] /\ RelV x u := by
 cases r with
 | cons r1 r2 => cases r2; exact ⟨_, rfl, r1⟩
end
end L2
namespace L2
open PySem PySem.Spec PyProof.Rows
structure Yp7 (h : Heap) (x dx C : Addr) (mA : SOV) : Prop where
 obj : h.get? x = some (PySem.W.instObj C dx)
 ns : h.Ns1 dx mA
 ne : dx ≠ x
theorem Ye5 {h : Heap} {dx : Addr} {mA : SOV} (n : h.Ns1 dx mA) : ∃ od, h.get? dx = some od /\ ∀ name, PySem.W.lookIn name od = some (mA name) := by
 obtain ⟨o, es, ep, ho, hd, hk, _, hm⟩ := n
 refine ⟨o, ho, fun name => ?_⟩
 have e := hm name
 unfold nsFind findBy at e
 rw [<- Array.find?_toList] at e
 unfold PySem.W.lookIn
 rw [hd]
 show 101
 ·rename_i y q
  rw [q] at e
  exact ZAk some e
 ·rename_i q
  rw [q] at e
  have a : es.toList.any (·.refKey) = false := by
   rw [List.any_eq_false]
   intro y hy
   obtain ⟨z, t, hkey⟩ := hk y (Array.mem_toList_iff.mp hy)
   simp [DictEntry.refKey, hkey]
  have a' : ¬ es.toList.any (·.refKey) = true := by rw [a]; exact ZAU
  rw [ZAF a']
  exact ZAk some e
section
variable {prog : Program} {w : World} {A : Around} {E : VSP} {s : Shared} {K : Frag} {x dx C f : Addr} {mA : SOV} {name : Str} {v : Value}
end
theorem Ym0.some_of {v : V} {o : Option Value} (r : Ym0 (some v) o) : ∃ u, o = some u /\ RelV v u := by
 cases o with
 | none => show 206
 | some u => exact ⟨u, rfl, r⟩
theorem Yfz {v : V} {u : Value} (r : RelV v u) : PySem.W.handedIn u = true := by
 cases v with
 | non => cases (show u = Value.none from r); rfl
 | bl b => cases (show u = Value.bool b from r); rfl
 | int i => obtain ⟨t, e⟩ := (show ∃ t, u = Value.int i t from r); cases e; rfl
 | str x => obtain ⟨t, e⟩ := (show ∃ t, u = Value.str x t from r); cases e; rfl
 | byt b => obtain ⟨t, e⟩ := (show ∃ t, u = Value.bytes b t from r); cases e; rfl
 | flt b => obtain ⟨t, e⟩ := (show ∃ t, u = Value.float b t from r); cases e; rfl
 | ref a => cases (show u = Value.ref a from r); rfl
 | ty n => cases (show u = Value.type n from r); rfl
section
variable {P : Program} {w : World} {H H' : Hp} {h h' : Heap} {a C dx : Addr} {fs fs' : List (Str × V)}
end
structure Cls (K : Frag) (C : Addr) : Prop where
 pg : PySem.W.plainGet K C Str.empty = true
 hd : PySem.W.hasDictIn K C = true
 po : PySem.W.plainOver K C = true
 sa : PySem.W.findIn K (.ref C) "__setattr__" = some (some (.builtin "object.__setattr__"))
structure Con (K : Frag) (C : Addr) (f : Str) (v : V) (u : Value) : Prop where
 at_ : PySem.W.findIn K (.ref C) f = some (some u)
 rel : RelV v u
 get : PySem.W.specialIn K u "__get__" = some none
 cp : PySem.W.copiedNames.contains f = false
structure Meth (K : Frag) (C : Addr) (m : Str) (f : Addr) : Prop where
 at_ : PySem.W.findIn K (.ref C) m = some (some (.ref f))
 fn : PySem.W.isFn K (.ref f) = true
 kp : PySem.W.keepIn K (.ref f) = true
section
variable {X : Cx} {pins : LAO} {σ : St} {H : Hp} {s : Shared} {a C dx : Addr} {fs : List (Str × V)} {f : Str} {v : V} {A : Around} {E : VSP}
theorem Inv.made (I : Inv X pins σ H s) : Inv X pins σ (upd (upd H s.heap.objs.size (.own (s.heap.objs.size + 1))) (s.heap.objs.size + 1) (.ins C s.heap.objs.size []))
 { s with heap := (s.heap.push PySem.W.emptyDict).push (PySem.W.instObj C s.heap.objs.size) } := by
 have e1 : (s.heap.push PySem.W.emptyDict).get? s.heap.objs.size = some PySem.W.emptyDict := ZAK s.heap rfl
 have e2 : ((s.heap.push PySem.W.emptyDict).push (PySem.W.instObj C s.heap.objs.size)).get? (s.heap.objs.size + 1) = some (PySem.W.instObj C s.heap.objs.size) := by
  have := ZAK (s.heap.push PySem.W.emptyDict) (o := PySem.W.instObj C s.heap.objs.size) rfl
  rwa [ZAw] at this
 have e3 : (s.heap.push PySem.W.emptyDict).Ns s.heap.objs.size (fun _ => none) := ⟨PySem.W.emptyDict, #[], _, e1, rfl, (fun e he => absurd he (by simp)), fun _ => rfl⟩
 have I1 := I.laid (a := s.heap.objs.size) (o := .own (s.heap.objs.size + 1)) (h' := s.heap.push PySem.W.emptyDict) (t' := s.toks) (fun b u q => ZAB _ q) (ZAI _) ⟨_, e1⟩
 refine I1.laid (a := s.heap.objs.size + 1) (o := .ins C s.heap.objs.size []) (t' := s.toks) (fun b u q => ZAB _ q) (Nat.le_of_eq (ZAw _ _)) ?_
 have ne : s.heap.objs.size ≠ s.heap.objs.size + 1 := ZAP (ZA5 _)
 refine ⟨by rw [Yi ne, Ym], ZBb _, ne, e2, fun _ => none, (Heap.Ns1.of_empty e3).at fun o q => ZAB _ q, fun _ => True.intro, fun y hy => absurd rfl hy⟩
theorem YhV {prog : Program} {w : World} {env : Env} {e : Expr} {f : Str} {pos : Pos} {s : Shared} {Q : VSP} (hb : attributeBase e f env (eval e env) = eval e env)
 (h : wpAny (model prog w) A (eval e env) (fun o s₁ => wpAny (model prog w) A (getAttr o f true) Q E s₁) E s) : wpAny (model prog w) A (eval (.Attribute e f pos) env) Q E s :=
 Attribute_any_ h (by rw [arm_eval_Attribute, hb])
end
section
variable {X : Cx} {o e value : Expr} {f : Str} {pos pos' tpos : Pos} {ta tv : TE}
end
section
variable {X : Cx} {pins : LAO} {σ : St} {H : Hp} {s : Shared} {A : Around} {E : VSP} {Q : VSP} {c : Value} {b : Bool}
inductive TyOf (K : Frag) (H : Hp) : V -> Value -> Prop where
 | non : TyOf K H .non (.type "NoneType")
 | bl (x : Bool) : TyOf K H (.bl x) (.type "bool")
 | int (i : Int) : TyOf K H (.int i) (.type "int")
 | str (x : Str) : TyOf K H (.str x) (.type "str")
 | flt (x : UInt64) : TyOf K H (.flt x) (.type "float")
 | lst {a : Addr} {xs : List V} (e : H a = some (.lst xs)) : TyOf K H (.ref a) (.type "list")
 | frz {a : Addr} {o : Obj} {xs : List V} (e : H a = some (.frz o (.lst xs))) : TyOf K H (.ref a) (.type "list")
 | tup {a : Addr} {xs : List V} (e : H a = some (.tup xs)) : TyOf K H (.ref a) (.type "tuple")
 | dK {a : Addr} {kvs : List (Key × V)} (e : H a = some (.dK kvs)) : TyOf K H (.ref a) (.type "dict")
 | dT {a : Addr} {kvs : List (List Key × V)} (e : H a = some (.dT kvs)) : TyOf K H (.ref a) (.type "dict")
 | ins {a C dx : Addr} {fs : List (Str × V)} (e : H a = some (.ins C dx fs)) (cl : Cls K C) (ha : PySem.W.findIn K (.ref C) "__class__" = some (some (.builtin "object.__class__")))
  (hn : PySem.W.specialIn K (.builtin "object.__class__") "__get__" = some (some (.builtin "getset_descriptor.__get__"))) (htk : PySem.W.takesIn K (.builtin "object.__class__") = some true)
  (hm : PySem.W.mroIn K C (.type "object") = some true) : TyOf K H (.ref a) (.ref C)
end
end L2
namespace L2
open PySem PySem.Spec PyProof.Rows
structure Ymb (k : Nat) (A : Around) : Prop where
 hd : A.handled = none
 dp : A.depth + 3 * k + 5 < recursionLimit
 un : A.units + 16 * k + 200 < cLine
theorem Ymb.mono {j k : Nat} {A : Around} (r : Ymb k A) (h : j <= k) : Ymb j A := ⟨r.hd, by have := r.dp; omega, by have := r.un; omega⟩
theorem Ymb.deeper {k : Nat} {A : Around} (r : Ymb (k + 1) A) (env : Env) : Ymb k (A.deeper env) :=
 ⟨r.hd, by have := r.dp; show A.depth + 1 + 3 * k + 5 < _; omega, by have := r.un; show A.units + 3 + 16 * k + 200 < _; omega⟩
theorem YdA {A : Around} {C : Addr} {us : List Value} {kw : List (Str × Value)} : (A.under (.builtin "type.__call__" ⟨.ref C :: us, kw⟩)).depth = A.depth + 1 := by
 first | rfl | simp [Around.under, Code.weight, Code.isCreation, Code.isGuard, Code.isCaller, Code.frames, Code.isFrame, guardIds]
theorem Ydt {A : Around} {C : Addr} {us : List Value} {kw : List (Str × Value)} : (A.under (.builtin "type.__call__" ⟨.ref C :: us, kw⟩)).units = A.units + 1 := by
 first | rfl | simp [Around.under, Code.cUnits, Code.frames, Code.isFrame]
theorem Ymb.make {k : Nat} {A : Around} (r : Ymb (k + 1) A) (C : Addr) (us : List Value) (kw : List (Str × Value)) : Ymb k (A.under (.builtin "type.__call__" ⟨.ref C :: us, kw⟩)) :=
 ⟨r.hd, by have := r.dp; rw [YdA]; omega, by have := r.un; rw [Ydt]; omega⟩
theorem Ymb.depth {k : Nat} {A : Around} (r : Ymb k A) : A.depth < recursionLimit := by have := r.dp; omega
theorem Ymb.units {k : Nat} {A : Around} (r : Ymb k A) : A.units + 64 < cLine := by have := r.un; omega
def YpV : TA := fun _ H Q => Q [] H
def YpA (ta : TE) (tr : TA) : TA := fun σ H Q => ta σ H fun x H1 => tr σ H1 fun xs H2 => Q (x :: xs) H2
section
variable {X : Cx} {e : Expr} {es : List Expr} {te : TE} {t : TA} {pos : Pos}
theorem WD : PA X [] YpV := fun _ _ _ _ H Q I h => Calls.spliced_nil ⟨[], H, I, .nil, h⟩
theorem Y8 (ha : PE X e te) (hr : PA X es t) (hs : starEach (e :: es) X.env = (false, eval e X.env) :: starEach es X.env := by rfl) : PA X (e :: es) (YpA te t) := by
 intro pos pins s σ H Q I h
 rw [hs]
 show wpAny _ _ (spliced ((false, eval e X.env) :: backTo pos (starEach es X.env))) _ _ s
 refine Calls.spliced_cons (thn (ha pins s σ H _ I h) fun u s1 ⟨x, H1, I1, r1, q1⟩ => ?_)
 exact thn (hr pos pins s1 σ H1 _ I1 q1) fun us s2 ⟨xs, H2, I2, r2, q2⟩ => ⟨x :: xs, H2, I2, .cons r1 r2, q2⟩
def YpT (t : TA) : TE := fun σ H Q => t σ H fun xs H1 => xs.length <= sizeLine /\ ∀ p, H1 p = none -> Q (.ref p) (upd H1 p (.tup xs))
def YpI (t : TA) : TE := fun σ H Q => t σ H fun xs H1 => xs.length <= sizeLine /\ ∀ p, H1 p = none -> Q (.ref p) (upd H1 p (.lst xs))
theorem Yj1 {x1} (h : PA X es t) : PE X (.Tuple es x1 pos) (YpT t) := by
 intro pins s σ H Q I hq
 refine wpAny_Tuple_spliced (thn (h pos pins s σ H _ I hq) fun us s1 ⟨xs, H1, I1, r, z, q⟩ => ⟨by rw [<- r.length]; exact z, ?_⟩)
 have hf : H1 s1.heap.objs.size = none := I1.hok.fresh (ZAI _)
 refine ⟨.ref s1.heap.objs.size, upd H1 s1.heap.objs.size (.tup xs), I1.laid (t' := s1.toks) (fun b u e => ZAB _ e) (ZAI _) ?_, rfl, q _ hf⟩
 exact ⟨z, us, r, ⟨_, ZAK _ rfl, rfl, _, rfl⟩⟩
theorem YkB (h : PA X es t) : PE X (.List es pos) (YpI t) := by
 intro pins s σ H Q I hq
 refine wpAny_List_spliced (thn (h pos pins s σ H _ I hq) fun us s1 ⟨xs, H1, I1, r, z, q⟩ => ⟨by rw [<- r.length]; exact z, ?_⟩)
 have hf : H1 s1.heap.objs.size = none := I1.hok.fresh (ZAI _)
 refine ⟨.ref s1.heap.objs.size, upd H1 s1.heap.objs.size (.lst xs), I1.laid (t' := s1.toks) (fun b u e => ZAB _ e) (ZAI _) ?_, rfl, q _ hf⟩
 exact ⟨z, us, 0, r, ZAK _ rfl⟩
end
abbrev Sp := List V -> Hp -> VK -> XK -> Prop
abbrev CXT := List Env -> Hp -> Shared -> XK -> Value -> Shared -> Prop
structure Yng (P : Program) (w : World) (K : Frag) (mg : SOV) (base : Heap) (A : Around) (outer : List Env) (s : Shared) (H : Hp) : Prop where
 frames : A.frames = some outer
 mod : Mod K mg base
 bs : ∀ b o, base.get? b = some o -> s.heap.get? b = some o /\ H b = none
 bsz : base.objs.size <= s.heap.objs.size
 funs : s.heap.FunFrames base outer
 frf : ∀ b ∈ frs outer, H b = none
 hok : HOk P w H s.heap
 bare : AllBare s.gens
def CE (outer : List Env) (P : Program) (w : World) (H : Hp) (s : Shared) (Q : VK) (u : Value) (s' : Shared) : Prop :=
 ∃ v H', s'.os = s.os /\ AllBare s'.gens /\ Un (frs outer) [] H H' s.heap s'.heap /\ HOk P w H' s'.heap /\ RelV v u /\ Q v H'
def CR (CX : CXT) (outer : List Env) (P : Program) (w : World) (H : Hp) (s : Shared) (Q : VK) (E : XK) (r : Result) (s' : Shared) : Prop :=
 match r with
 | .ok (.ret u) => CE outer P w H s Q u s'
 | .ok _ => False
 | .error e => CX outer H s E e s'
structure Ynb (P : Program) (w : World) (K : Frag) (mg : SOV) (base : Heap) (CX : CXT) (k : Nat) (f : Addr) (fd : FuncData) (ps : List Str) (sp : Sp) : Prop where
 len : ∀ vs H Q E, sp vs H Q E -> vs.length = ps.length
 run : ∀ (A : Around) (outer : List Env) (s : Shared) (H : Hp) (args : Args) (us : List Value) (vs : List V) (Q : VK) (E : XK), Ymb k A -> Yng P w K mg base A outer s H -> BindsTo s fd args (ps.zip us) -> Vals vs us -> sp vs H Q E ->
  codeAny (model P w) A (.call (.ref f) args) (CR CX outer P w H s Q E) s
theorem Ynb.mono {P : Program} {w : World} {K : Frag} {mg : SOV} {base : Heap} {CX : CXT} {j k : Nat} {f : Addr} {fd : FuncData} {ps : List Str} {sp : Sp} (F : Ynb P w K mg base CX j f fd ps sp) (h : j <= k) :
 Ynb P w K mg base CX k f fd ps sp := ⟨F.len, fun A outer s H args us vs Q E hr => F.run A outer s H args us vs Q E (hr.mono h)⟩
theorem Ynb.imp {P : Program} {w : World} {K : Frag} {mg : SOV} {base : Heap} {CX : CXT} {k : Nat} {f : Addr} {fd : FuncData} {ps : List Str} {sp sp' : Sp} (F : Ynb P w K mg base CX k f fd ps sp)
 (h : ∀ vs H Q E, sp' vs H Q E -> sp vs H Q E) : Ynb P w K mg base CX k f fd ps sp' :=
 ⟨fun vs H Q E q => F.len vs H Q E (h _ _ _ _ q), fun A outer s H args us vs Q E hr he hb hv hs => F.run A outer s H args us vs Q E hr he hb hv (h _ _ _ _ hs)⟩
theorem Yng.make {P : Program} {w : World} {K : Frag} {mg : SOV} {base : Heap} {A : Around} {outer : List Env} {s : Shared} {H : Hp} (e : Yng P w K mg base A outer s H) (C : Addr) (us : List Value) (kw : List (Str × Value)) :
 Yng P w K mg base (A.under (.builtin "type.__call__" ⟨.ref C :: us, kw⟩)) outer s H := ⟨by first | exact e.frames | (simpa [Around.under, Code.envs, Code.isFrame, pushEnvs] using e.frames), e.mod, e.bs, e.bsz, e.funs, e.frf, e.hok, e.bare⟩
section
variable {X : Cx} {pins : LAO} {σ : St} {H : Hp} {s s' : Shared}
theorem Inv.env0 (I : Inv X pins σ H s) : Yng X.prog X.w X.K X.mg X.base X.A X.stack s H :=
 ⟨I.ok.frames, I.ok.mod, I.bs, ZAO I.ok.bsz I.sz, I.stack, I.stkFree, I.hok, I.bare⟩
theorem Inv.after {Q : VK} {u : Value} (I : Inv X pins σ H s) (h : CE X.stack X.prog X.w H s Q u s') : EP X pins σ Q u s' := by
 obtain ⟨v, H', os, bare, un, hok, r, q⟩ := h
 obtain ⟨hh, g, d, t, os'⟩ := s'
 obtain rfl : os' = s.os := os
 exact ⟨v, H', I.call (h' := hh) (g' := g) (d' := d) (t' := t) (ch := []) un hok bare (fun b z => absurd z (by simp)), r, q⟩
end
def Ypk (sp : Sp) (dvs : List V) (E : XK) (t : TA) : TE := fun σ H Q => t σ H fun vs H1 => sp (vs ++ dvs) H1 Q E
def Binds (K : Frag) (fd : FuncData) (ps : List Str) (ds : List Value) : Prop :=
 ∀ (s : Shared) (us : List Value), K.In s.heap -> (us ++ ds).length = ps.length -> BindsTo s fd ⟨us, []⟩ (ps.zip (us ++ ds))
theorem Binds.all {K : Frag} {fd : FuncData} {ps : List Str} (h : ∀ us : List Value, us.length = ps.length -> bindArgs fd ⟨us, []⟩ = pure (ps.zip us)) : Binds K fd ps [] := fun s us _ hl => by
 rw [ZAZ] at hl ⊢
 exact .of_eq (h us hl)
def Yok (CX : CXT) (X : Cx) (E : XK) : Prop := ∀ (pins : LAO) (σ : St) (H : Hp) (s : Shared) (e : Value) (s' : Shared), Inv X pins σ H s -> CX X.stack H s E e s' -> X.xe e s'
section
variable {X : Cx} {CX : CXT} {k : Nat} {f C : Addr} {fd : FuncData} {ps : List Str} {sp : Sp} {dvs : List V} {ds : List Value} {E : XK} {x m : Str} {p pos apos : Pos} {e o : Expr} {es : List Expr} {ta : TE} {t : TA}
theorem YjH {pins : LAO} {σ : St} {H : Hp} {s : Shared} {Q : VK} {us : List Value} {vs : List V} (F : Ynb X.prog X.w X.K X.mg X.base CX k f fd ps sp) (hr : Ymb k X.A) (hb : Binds X.K fd ps ds) (hd : Vals dvs ds) (hx : Yok CX X E)
 (I : Inv X pins σ H s) (r : Vals vs us) (h : sp (vs ++ dvs) H Q E) : wpAny (model X.prog X.w) X.A (call (.ref f) us) (EP X pins σ Q) X.xe s := by
 have r2 : Vals (vs ++ dvs) (us ++ ds) := r.append hd
 have hl : (us ++ ds).length = ps.length := by rw [<- r2.length]; exact F.len _ _ _ _ h
 refine ZBZ (codeAny_mono (F.run X.A X.stack s H ⟨us, []⟩ (us ++ ds) (vs ++ dvs) Q E hr I.env0 (hb s us I.kIn hl) r2 h) fun r s' hq => ?_)
 cases r with
 | error e => exact hx pins σ H s e s' I hq
 | ok fl =>
  cases fl with
  | ret u => exact I.after hq
  | next => show 167
  | brk => show 167
  | cont => show 167
theorem YiH (F : Ynb X.prog X.w X.K X.mg X.base CX k f fd ps sp) (hr : Ymb k X.A) (hg : Gl X x) (hm : X.mg x = some (.ref f)) (hk : PySem.W.keepIn X.K (.ref f) = true) (hb : Binds X.K fd ps ds) (hd : Vals dvs ds) (hx : Yok CX X E)
 (ha : PA X (e :: es) t) (hdb : (x == ("__debug__" : Str)) = false := by decide) (he : starEach (e :: es) X.env = (false, eval e X.env) :: starEach es X.env := by rfl) (hpl : (backTo pos (starEach es X.env)).any (·.1) = false := by rfl) :
 PE X (.Call (.Name x p) (e :: es) [] pos) (Ypk sp dvs E t) := by
 show 154
 refine ZBL (ZS I hg hm ?_ hdb)
 refine PySem.W.callWith_K (h₀ := X.base) I.ok.mod.kin hk (thn (ha pos pins s σ H _ I h) fun us s1 ⟨vs, H1, I1, r, q⟩ => ⟨I1.kIn, ?_⟩) he hpl
 exact YjH F hr hb hd hx I1 r q
structure Mk (K : Frag) (C f : Addr) : Prop where
 makes : PySem.W.makesIn K C = true
 init : PySem.W.findIn K (.ref C) "__init__" = some (some (.ref f))
 fn : PySem.W.isFn K (.ref f) = true
 kp : PySem.W.keepIn K (.ref C) = true
end
section
variable {X : Cx} {CX : CXT} {k : Nat} {f C : Addr} {fd : FuncData} {ps ks : List Str} {sp : Sp} {E : XK} {x m : Str} {p pos apos kpos : Pos} {e o : Expr} {es : List Expr} {kws : List Keyword} {te ta : TE} {t tk : TA} {nm : Option Str}
structure Yp5 (K : Frag) (fd : FuncData) (ps ks : List Str) (g : List Value -> List Value -> List Value) (gV : List V -> List V -> List V) : Prop where
 to : ∀ (s : Shared) (us ws : List Value), K.In s.heap -> (g us ws).length = ps.length -> BindsTo s fd ⟨us, ks.zip ws⟩ (ps.zip (g us ws))
 rel : ∀ {vs : List V} {us : List Value} {zs : List V} {ws : List Value}, Vals vs us -> Vals zs ws -> Vals (gV vs zs) (g us ws)
variable {g : List Value -> List Value -> List Value} {gV : List V -> List V -> List V}
end
structure YlI (N P : List Str) (sc : Scope) : Prop where
 kind : sc.kind = .function
 co : sc.isCoroutine = false
 gen : sc.isGenerator = false
 nd : N.Nodup
 pre : N.take P.length = P
 par : ∀ x ∈ P, sc.names.lookup x = some .local \/ sc.names.lookup x = some .cell
 nofree : ∀ y ∈ sc.names, y.2 ≠ .free
theorem Ybm {kindOf : Str -> Option NameKind} {x : Str} : ∀ {binds : List (Str × Value)} {m : SOV}, (∀ v, (x, v) ∉ binds) -> bindL kindOf binds m x = m x
 | [], _, _ => rfl
 | (n, v) :: r, m, h => by
  unfold bindL
  rw [Ybm fun w hw => h w (ZAW _ hw)]
  split
  ·have : x ≠ n := by rintro rfl; exact h v ZAc
   simp [this]
  ·rfl
theorem YaX {kindOf : Str -> Option NameKind} {x : Str} : ∀ {binds : List (Str × Value)} {m : SOV}, (∀ v, (x, v) ∉ binds) -> bindC kindOf binds m x = m x
 | [], _, _ => rfl
 | (n, v) :: r, m, h => by
  unfold bindC
  rw [YaX fun w hw => h w (ZAW _ hw)]
  split
  ·rfl
  ·have : x ≠ n := by rintro rfl; exact h v ZAc
   simp [this]
theorem Ybq {kindOf : Str -> Option NameKind} {x : Str} {v : Value} : ∀ {P : List Str} {vs : List Value} {i : Nat} {m : SOV}, P.Nodup -> P[i]? = some x -> vs[i]? = some v -> kindOf x = some .local ->
 bindL kindOf (P.zip vs) m x = some v
 | [], _, _, _, _, h, _, _ => by simp at h
 | _ :: _, [], _, _, _, _, h, _ => by simp at h
 | p :: P, w :: vs, 0, m, nd, h1, h2, hk => by
  simp at h1 h2; subst h1; subst h2
  show bindL kindOf ((p, w) :: P.zip vs) m p = _
  unfold bindL
  rw [Ybm fun v hv => (ZCW.mp nd).1 (ZBq hv).1, ZAE hk]
  simp
 | p :: P, w :: vs, i + 1, m, nd, h1, h2, hk => by
  show bindL kindOf ((p, w) :: P.zip vs) m x = _
  unfold bindL
  exact Ybq (i := i) (List.nodup_cons.mp nd).2 (by simpa using h1) (by simpa using h2) hk
theorem Ya9 {kindOf : Str -> Option NameKind} {x : Str} {v : Value} : ∀ {P : List Str} {vs : List Value} {i : Nat} {m : SOV}, P.Nodup -> P[i]? = some x -> vs[i]? = some v -> kindOf x ≠ some .local ->
 bindC kindOf (P.zip vs) m x = some v
 | [], _, _, _, _, h, _, _ => by simp at h
 | _ :: _, [], _, _, _, _, h, _ => by simp at h
 | p :: P, w :: vs, 0, m, nd, h1, h2, hk => by
  simp at h1 h2; subst h1; subst h2
  show bindC kindOf ((p, w) :: P.zip vs) m p = _
  unfold bindC
  rw [YaX fun v hv => (ZCW.mp nd).1 (ZBq hv).1, ZAF hk]
  simp
 | p :: P, w :: vs, i + 1, m, nd, h1, h2, hk => by
  show bindC kindOf ((p, w) :: P.zip vs) m x = _
  unfold bindC
  exact Ya9 (i := i) (List.nodup_cons.mp nd).2 (by simpa using h1) (by simpa using h2) hk
def start (N : List Str) (vs : List V) : St := vs.map some ++ List.replicate (N.length - vs.length) none
def cxOf (CX : CXT) (P : Program) (w : World) (K : Frag) (mg : SOV) (base : Heap) (N : List Str) (qual : Str) (scope : Scope) (f : Addr) (cd : Value) (A : Around) (outer : List Env) (s : Shared) (H : Hp) (E : XK) : Cx where
 prog := P
 w := w
 K := K
 mg := mg
 base := base
 A := A.deeper (envOfC qual scope s.heap.objs.size f cd)
 N := N
 s₀ := s
 H₀ := H
 env := envOfC qual scope s.heap.objs.size f cd
 outer := outer
 stack := envOfC qual scope s.heap.objs.size f cd :: outer
 ex := []
 calm := true
 fn := fun _ => true
 pn := []
 xe := fun e s' => wpAny (model P w) (A.deeper (envOfC qual scope s.heap.objs.size f cd)) (leaving (envOfC qual scope s.heap.objs.size f cd) e) (fun _ s'' => CX outer H s E e s'') (fun e' s'' => CX outer H s E e' s'') s'
theorem Yc5 {sc : Scope} {n : Nat} {x : Str} (h : sc.names.lookup x = some .cell) : ∃ c, (cellsFrom n sc.names []).lookup x = some c := by
 have q := PySem.W.cellsFrom_some sc.names n [] (.inl h)
 exact Option.isSome_iff_exists.mp q
theorem VS {CX : CXT} {P : Program} {w : World} {K : Frag} {mg : SOV} {base : Heap} {N ps : List Str} {qual : Str} {scope : Scope} {f : Addr} {cd : Value} {A : Around} {outer : List Env} {s s1 : Shared} {H : Hp} {E : XK} {us : List Value} {vs : List V}
 (S : YlI N ps scope) (hd : A.handled = none) (e0 : Yng P w K mg base A outer s H) (hl : vs.length = ps.length) (r : Vals vs us)
 (x : InCallC s s.heap.objs.size (bindL (envOfC qual scope s.heap.objs.size f cd).kindOf (ps.zip us) fun _ => none) (cellsFrom (s.heap.objs.size + 1) scope.names []) (bindC (envOfC qual scope s.heap.objs.size f cd).kindOf (ps.zip us) fun _ => none) s1) :
 Inv (cxOf CX P w K mg base N qual scope f cd A outer s H E) [] (start N vs) H s1 := by
 have hpl : ps.length <= N.length := by have := ZAk List.length S.pre; rw [ZAm] at this; omega
 obtain ⟨h1, tk, rfl, hk⟩ := x.done
 have noA : ∀ b : Addr, b ∉ (cxOf CX P w K mg base N qual scope f cd A outer s H E).ex := fun b z => absurd (show b ∈ ([] : List Addr) from z) (by simp)
 refine ⟨⟨e0.mod, S.kind, rfl, rfl, ZAI _, fun y z c h1 h2 => ?_, fun y hy => ?_, fun y c _ h => ?_, fun _ => hd, Around.frames_deeper e0.frames, .inr ⟨rfl, rfl⟩, fun b z => absurd z (noA b), e0.bs, e0.bsz, fun b _ _ => noA b, fun b z => absurd z (noA b), e0.funs, e0.frf⟩,
  rfl, e0.bare, Un.kept hk, ⟨_, x.toInCall.ns, fun i y v h1 h2 h3 => ?_⟩, fun y c h => ⟨_, x.cell y c h⟩, e0.hok.fresh (Nat.le_refl _), fun y c h => ?_, fun p hp => absurd (show p ∈ ([] : LAO) from hp) (by simp), e0.hok.kept hk, ?_⟩
 ·exact name_of_addr x.apart (PySem.mem_of_lookup h1) (PySem.mem_of_lookup h2)
 ·have hy : scope.names.lookup y = some .cell \/ scope.names.lookup y = some .free := hy
  rcases hy with hy | hy
  ·exact Yc5 hy
  ·exact absurd rfl (S.nofree _ (PySem.mem_of_lookup hy))
 ·exact ZBd (x.above y c (PySem.mem_of_lookup h))
 ·have hi : i < vs.length := by
   unfold start at h2
   by_cases hi : i < vs.length
   ·exact hi
   ·rw [List.getElem?_append_right (by simpa using hi)] at h2
    rw [List.getElem?_replicate] at h2
    split at h2 <;> cases h2
  have ha : vs[i]? = some v := by
   unfold start at h2
   rw [List.getElem?_append_left (by simpa using hi), List.getElem?_map] at h2
   cases e : vs[i]? with
   | none => rw [e] at h2; cases h2
   | some a => rw [e] at h2; cases h2; rfl
  obtain ⟨u, hu, rv⟩ := r.get ha
  have hp : ps[i]? = some y := by
   rw [<- S.pre, List.getElem?_take_of_lt (by omega)]; exact h1
  have ndP : ps.Nodup := by rw [<- S.pre]; exact S.nd.sublist (List.take_sublist _ _)
  refine ⟨u, rv, ?_⟩
  rcases S.par y (ZBM hp) with k | k
  ·exact .inl ⟨k, Ybq ndP hp hu k⟩
  ·obtain ⟨c, e⟩ := Yc5 (n := s.heap.objs.size + 1) k
   refine .inr ⟨.inl k, c, e, ?_⟩
   have q := x.cell y c e
   rw [Ya9 ndP hp hu (by show scope.names.lookup y ≠ _; rw [k]; decide)] at q
   exact q
 ·exact e0.hok.fresh (ZBd (x.above y c (PySem.mem_of_lookup h)))
 ·unfold start
  show _ = N.length
  rw [ZAD, ZAH, List.length_replicate]
  omega
theorem YiT {CX : CXT} {P : Program} {w : World} {K : Frag} {mg : SOV} {base : Heap} {k : Nat} {f : Addr} {name qual : Str} {params : Arguments} {body : List Stmt} {scope : Scope} {dV kV doc pm cdv ct oc : Value} {an od : Option Addr}
 {osl : Array (Option Value)} {N ps : List Str} {sp : Sp} (lk : K.lookup f = some ⟨oc, od, .func (fnOf name qual params body scope dV kV doc pm an cdv ct), osl⟩) (hcd : PySem.W.codeIn K cdv qual = true) (S : YlI N ps scope)
 (len : ∀ vs H Q E, sp vs H Q E -> vs.length = ps.length)
 (hbody : ∀ (A : Around) (outer : List Env) (s : Shared) (H : Hp) (vs : List V) (Q : VK) (E : XK), Ymb k (A.deeper (envOfC qual scope s.heap.objs.size f cdv)) -> sp vs H Q E ->
  ∃ t, PSs (cxOf CX P w K mg base N qual scope f cdv A outer s H E) body t /\ t { nx := fun _ H' => Q .non H', rt := Q } (start N vs) H) :
 Ynb P w K mg base CX (k + 1) f (fnOf name qual params body scope dV kV doc pm an cdv ct) ps sp := by
 refine ⟨len, fun A outer s H args us vs Q E hr e0 hb r hsp => ?_⟩
 have hl := len _ _ _ _ hsp
 have KX : K.In s.heap := e0.mod.kin.keeps fun b o e => (e0.bs b o e).1
 have lim : s.heap.NoLimit := e0.mod.nolimit.keeps fun b o e => (e0.bs b o e).1
 have hkind : ∀ y ∈ ps.zip us, scope.names.lookup y.1 = some .local \/ (scope.names.lookup y.1 = some .cell /\ ((cellsFrom (s.heap.objs.size + 1) scope.names []).lookup y.1).isSome = true) := fun ⟨n, v⟩ hy => by
  rcases S.par n (ZBq hy).1 with q | q
  ·exact .inl q
  ·exact .inr ⟨q, PySem.W.cellsFrom_some _ _ _ (.inl q)⟩
 refine codeAny_call_function hr.depth (KX _ _ lk) rfl S.co S.gen rfl (PySem.W.codeRec_of KX hcd) (hb _ _ _ _ ?_)
 refine ZBk S.kind hkind fun env he s1 x => ?_
 subst he
 refine ⟨lim.keeps x.toInCall.keep, codeAny_func ?_⟩
 obtain ⟨t, ht, hq⟩ := hbody A outer s H vs Q E (hr.deeper _) hsp
 have I : Inv (cxOf CX P w K mg base N qual scope f cdv A outer s H E) [] (start N vs) H s1 := VS S hr.hd e0 hl r x
 refine ZAi (ht [] s1 (start N vs) H _ I hq) (fun fl s' hs => ?_) fun e s' hs => hs
 have fin : ∀ {σ' : St} {H' : Hp} {v : V} {u : Value}, Inv (cxOf CX P w K mg base N qual scope f cdv A outer s H E) [] σ' H' s' -> RelV v u -> Q v H' -> CE outer P w H s Q u s' :=
  fun {σ' H' v u} J rv q => ⟨v, H', J.os, J.bare, J.base, J.hok, rv, q⟩
 cases fl with
 | ret u =>
  obtain ⟨v, σ', H', J, rv, q⟩ := hs
  exact fin J rv q
 | next =>
  obtain ⟨σ', H', J, q⟩ := hs
  exact fin (v := V.non) (u := Value.none) J rfl q
 | brk =>
  obtain ⟨_, _, _, q⟩ := hs
  exact False.elim q
 | cont =>
  obtain ⟨_, _, _, q⟩ := hs
  exact False.elim q
end L2
namespace L2
open PySem PySem.Spec PyProof.Rows
section
variable {X : Cx} {x : Str} {p pos : Pos} {e : Expr} {es : List Expr} {t : TA} {id T : String} {r : List V -> Hp -> VK -> Prop}
def tCB (r : List V -> Hp -> VK -> Prop) (t : TA) : TE := fun σ H Q => t σ H fun vs H1 => r vs H1 Q
theorem Wx (hc : Ymw X (.builtin id) r) (hg : Gl X x) (hm : X.mg x = none) (hv : bootBuiltins x = some (.builtin id)) (ha : PA X (e :: es) t) (hn : x ≠ "__name__" := by decide) (hdb : (x == ("__debug__" : Str)) = false := by decide)
 (he : starEach (e :: es) X.env = (false, eval e X.env) :: starEach es X.env := by rfl) (hpl : (backTo pos (starEach es X.env)).any (·.1) = false := by rfl) : PE X (.Call (.Name x p) (e :: es) [] pos) (tCB r t) := by
 show 154
 refine ZBL (Va I hg hm hv ?_ hn hdb)
 exact PyProof.Rows.callWith_builtin1 (thn (ha pos pins s σ H _ I h) fun us s1 ⟨vs, H1, I1, r1, q1⟩ => hc pins s1 σ H1 vs us Q I1 r1 q1) he hpl
theorem Ybk (hc : Ymw X (.type T) r) (hg : Gl X x) (hm : X.mg x = none) (hv : bootBuiltins x = some (.type T)) (ha : PA X (e :: es) t) (hn : x ≠ "__name__" := by decide) (hdb : (x == ("__debug__" : Str)) = false := by decide)
 (he : starEach (e :: es) X.env = (false, eval e X.env) :: starEach es X.env := by rfl) (hpl : (backTo pos (starEach es X.env)).any (·.1) = false := by rfl) : PE X (.Call (.Name x p) (e :: es) [] pos) (tCB r t) := by
 show 154
 refine ZBL (Va I hg hm hv ?_ hn hdb)
 exact PyProof.Rows.callWith_type1 (thn (ha pos pins s σ H _ I h) fun us s1 ⟨vs, H1, I1, r1, q1⟩ => hc pins s1 σ H1 vs us Q I1 r1 q1) he hpl
end
end L2
namespace HT
open PySem PyProof.Rows
section
open PySem.SeqAt
open PySem.AutoSeq1 (wpAny_loadPart')
open PySem.MeetsSeq PySem.MeetsSeq2 PySem.MeetsSeq3
end
section
variable {prog : Program} {w : World} {A : Around} {E : VSP} {s : Shared}
theorem cat_tup {t b : Addr} {vs ws : List Value} {Q : VSP} (ht : IsTup s.heap t vs.toArray) (hb : IsTup s.heap b ws.toArray) (hv : vs ≠ [])
 (h1 : ws = [] -> Q (.ref t) s) (h2 : ws ≠ [] -> Q (.ref s.heap.objs.size) { s with heap := s.heap.push { cls := .type "tuple", data := .seq (vs ++ ws).toArray } })
 (hsz : vs.length + ws.length <= sizeLine) : wpAny (model prog w) A (binaryOp .Add (.ref t) (.ref b)) Q E s := by
 obtain ⟨⟨cls, dd, data, sl⟩, ho, hc, n, hd⟩ := id ht
 obtain ⟨⟨cls2, dd2, data2, sl2⟩, ho2, hc2, n2, hd2⟩ := id hb
 simp only at hc hd hc2 hd2
 subst hc hd hc2 hd2
 have e : vs.toArray ++ ws.toArray = (vs ++ ws).toArray := by simp
 by_cases hw : ws = []
 ·exact concat_meets ⟨_, ho, rfl⟩ ⟨_, ho2, rfl⟩ noFill_tuple_add seq_tuple_add PySem.F.slot_tuple_add PySem.F.entry_tuple_add (PySem.F.args_tuple_add_2 _ _)
   (tuple_addW1 t b vs.toArray ws.toArray n n2 dd dd2 sl sl2 (by simpa using hv) (by simp [hw])) ⟨ho, ho2, h1 hw⟩
 ·refine concat_meets ⟨_, ho, rfl⟩ ⟨_, ho2, rfl⟩ noFill_tuple_add seq_tuple_add PySem.F.slot_tuple_add PySem.F.entry_tuple_add (PySem.F.args_tuple_add_2 _ _)
   (tuple_addW2 t b vs.toArray ws.toArray n n2 dd dd2 sl sl2 (by simpa using hv) (by simpa using hw) (by rw [List.size_toArray, List.size_toArray]; exact hsz)) ⟨ho, ho2, ?_⟩
  rw [e]
  exact h2 hw
def sIx (n d : Nat) : Option Int -> Nat
 | none => d
 | some v => if v < 0 then (v + (n : Int)).toNat else min v.toNat n
theorem sIx_nat (n d k : Nat) : sIx n d (some (k : Int)) = min k n := by
 show (if (k : Int) < 0 then ((k : Int) + (n : Int)).toNat else min (k : Int).toNat n) = min k n
 rw [ZAF (by omega), ZBE]
theorem YjJ (n d : Nat) (hd : d <= n) (o : Option Int) : sIx n d o <= n := by
 cases o with
 | none => exact hd
 | some v =>
  show (if v < 0 then (v + (n : Int)).toNat else min v.toNat n) <= n
  by_cases hv : v < 0
  ·rw [ZAE hv]; omega
  ·rw [ZAF hv]; exact Nat.min_le_right _ _
theorem Yd6 (v : Int) (n d : Nat) : (if v < 0 then max (v + (n : Int)) 0 else min v (n : Int)) = ((sIx n d (some v) : Nat) : Int) := by
 show (if v < 0 then max (v + (n : Int)) 0 else min v (n : Int)) = (((if v < 0 then (v + (n : Int)).toNat else min v.toNat n) : Nat) : Int)
 by_cases hv : v < 0
 ·simp only [if_pos hv]; omega
 ·simp only [if_neg hv]; omega
theorem YdR (lo hi : Option Int) (n : Nat) : Builtin.Slice.sliceAdjust lo hi 1 (n : Int) = (((sIx n 0 lo : Nat) : Int), ((sIx n n hi : Nat) : Int)) := by
 have h1 : ¬ ((1 : Int) < 0) := by omega
 unfold Builtin.Slice.sliceAdjust
 simp only [h1, if_false]
 refine Prod.ext ?_ ?_
 ·cases lo with
  | none => rfl
  | some v => exact Yd6 v n 0
 ·cases hi with
  | none => rfl
  | some v => exact Yd6 v n n
theorem Ydz (i j : Nat) : Builtin.Slice.slicePlaces (i : Int) (j : Int) 1 = j - i := by
 unfold Builtin.Slice.slicePlaces
 have h1 : (1 : Int) > 0 := by omega
 simp only [h1, if_true, Int.ediv_one]
 split <;> omega
theorem Yag {v : Value} {o : Option Int} {Q : Option Int -> Shared -> Prop} (p : IsPart v o) (h : Q o s) : wpAny (model prog w) A (Builtin.Slice.slicePartIndex v) Q E s := by
 cases p with
 | none => exact slicePart_none h
 | int i t => exact slicePart_int h
theorem sliceApplied_gen {sl : Addr} {vl vu : Value} {lo hi : Option Int} {n : Nat} {Q : Int × Int × Nat -> Shared -> Prop} (hs : s.heap.IsSliceOf sl vl vu .none) (pl : IsPart vl lo) (pu : IsPart vu hi)
 (h : Q (((sIx n 0 lo : Nat) : Int), 1, sIx n n hi - sIx n 0 lo) s) : wpAny (model prog w) A (Builtin.Slice.sliceApplied (.ref sl) (pure (n : Int))) Q E s := by
 obtain ⟨os, hos, hcs, hds⟩ := id hs
 unfold Builtin.Slice.sliceApplied Builtin.Slice.sliceFields
 refine ZAA (ZAA (ZBR hos hds (x := vl) rfl (ZAA (ZBR hos hds (x := vu) rfl (ZAA (ZBR hos hds (x := .none) rfl (ZAC ?_)))))))
 refine ZAA (slicePart_none ?_)
 show wpAny _ _ (if ((1 : Int) == 0) = true then _ else _) _ _ s
 rw [ZAF (by decide)]
 refine ZAA (Yag pl (ZAA (Yag pu (ZAA (ZAC ?_)))))
 show wpAny _ _ (match Builtin.Slice.sliceAdjust lo hi 1 (n : Int) with | (lo, hi) => pure (lo, (1 : Int), Builtin.Slice.slicePlaces lo hi 1)) _ _ s
 rw [YdR lo hi n]
 show wpAny _ _ (pure (((sIx n 0 lo : Nat) : Int), (1 : Int), Builtin.Slice.slicePlaces ((sIx n 0 lo : Nat) : Int) ((sIx n n hi : Nat) : Int) 1)) _ _ s
 rw [Ydz]
 exact ZAC h
theorem Yf8 (xs : Array Value) (i k : Nat) : ((List.range k).filterMap fun (m : Nat) => xs[((i : Int) + (m : Int) * 1).toNat]?).toArray = ((xs.toList.drop i).take k).toArray := by
 have e : (fun (m : Nat) => xs[((i : Int) + (m : Int) * 1).toNat]?) = fun m => xs[i + m]? := by
  funext m
  have : ((i : Int) + (m : Int) * 1).toNat = i + m := by omega
  rw [this]
 rw [e]
 have := pick_run xs i k
 rw [List.filterMap_map] at this
 have e2 : ((fun x => xs[x]?) ∘ fun x => i + x) = fun m => xs[i + m]? := rfl
 rw [e2] at this
 rw [this]
theorem getItem_tuple_cut {t sl : Addr} {items : Array Value} {vl vu : Value} {lo hi : Option Int} {Q : VSP} (ht : IsTup s.heap t items) (hs : s.heap.IsSliceOf sl vl vu .none) (pl : IsPart vl lo) (pu : IsPart vu hi)
 (hw : ¬ (sIx items.size 0 lo = 0 /\ sIx items.size items.size hi = items.size))
 (h : Q (.ref s.heap.objs.size) { s with heap := s.heap.push { cls := .type "tuple", data := .seq ((items.toList.drop (sIx items.size 0 lo)).take (sIx items.size items.size hi - sIx items.size 0 lo)).toArray } })
 (hsz : items.size <= sizeLine) : wpAny (model prog w) A (getItem (.ref t) (.ref sl)) Q E s := by
 have htake : sizeOk (.seq ((items.toList.drop (sIx items.size 0 lo)).take (sIx items.size items.size hi - sIx items.size 0 lo)).toArray) := by
  show ((items.toList.drop (sIx items.size 0 lo)).take (sIx items.size items.size hi - sIx items.size 0 lo)).toArray.size <= sizeLine
  rw [ZAd, ZAm, ZAr, Array.length_toList]
  omega
 have hj : sIx items.size items.size hi <= items.size := YjJ _ _ (ZAI _) hi
 obtain ⟨os, hos, hcs, hds⟩ := id hs
 have hTs : s.TypeIs (.ref sl) "slice" := ⟨os, hos, hcs⟩
 unfold getItem
 try with_reducible refine ZAh ?_
 first | refine ZAA (ZAC ?_) | skip
 refine ZAA (wpAny_sequenceKey ht.typeIs (by decide) ?_)
 refine ZAA (wpAny_callSpecial?_slot (name := Str.ofString "__getitem__") ht.typeIs PyProof.Rows.slot_tuple_getitem
  (ZA2 PyProof.Rows.slot_tuple_getitem ht.typeIs entry_tuple_getitem ?_ (args_tuple_getitem _ _)))
 show wpAny _ _ (Builtin.Tuple.tupleItemsOf (.ref t) >>= _) _ _ s
 refine ZAA (tupleItemsOf_ ht ?_)
 refine ZAA (ZBe hTs ?_)
 rw [ZAE (by decide)]
 refine ZAA (sliceApplied_gen hs pl pu ?_)
 have hno : ¬ ((((sIx items.size 0 lo : Nat) : Int) == 0 && (1 : Int) == 1 && (sIx items.size items.size hi - sIx items.size 0 lo) == items.size) = true) := by
  intro q
  rw [ZAb, ZAb] at q
  have q1 : ((sIx items.size 0 lo : Nat) : Int) = 0 := eq_of_beq q.1.1
  have q2 : sIx items.size items.size hi - sIx items.size 0 lo = items.size := eq_of_beq q.2
  exact hw ⟨by omega, by omega⟩
 show wpAny _ _ (if (((sIx items.size 0 lo : Nat) : Int) == 0 && (1 : Int) == 1 && (sIx items.size items.size hi - sIx items.size 0 lo) == items.size) = true then _ else _) _ _ s
 rw [ZAF hno, Yf8]
 first
  | exact ZAA (m := Builtin.Tuple.tupleExact _) (ZAt (ZAC ⟨_, rfl, ZAC h⟩) htake)
  | exact ZAA (m := Builtin.Tuple.tupleExact _) (ZAt (ZAA (ZAC (ZAC ⟨_, rfl, ZAC h⟩))) htake)
  | exact ZAA (ZAA (m := Builtin.Tuple.tupleExact _) (ZAt (ZAC (ZAC ⟨_, rfl, ZAC h⟩)) htake))
  | exact ZAA (ZAA (m := Builtin.Tuple.tupleExact _) (ZAt (ZAC ⟨_, rfl, ZAC h⟩) htake))
end
end HT
namespace L2
open PySem PySem.Spec PyProof.Rows
abbrev TO := St -> Hp -> (Option Int -> Hp -> Prop) -> Prop
def PO (X : Cx) (e : Option Expr) (t : TO) : Prop :=
 ∀ (pins : LAO) (s : Shared) (σ : St) (H : Hp) (Q : Option Int -> Hp -> Prop), Inv X pins σ H s -> t σ H Q ->
  wpAny (model X.prog X.w) X.A (evalPart e X.env) (fun u s' => ∃ o H', Inv X pins σ H' s' /\ IsPart u o /\ Q o H') X.xe s
def YoU : TO := fun _ H Q => Q none H
def Ypx (t : TE) : TO := fun σ H Q => t σ H fun x H1 => ∃ i, x = .int i /\ Q (some i) H1
section
variable {X : Cx} {e : Expr} {te : TE} {lo hi : Option Expr} {tl th : TO} {pos p2 : Pos}
theorem YiD : PO X none YoU := by
 show 154
 rw [evalPart_none]
 exact ZAC ⟨none, H, I, .none, h⟩
theorem Yh4 (h : PE X e te) : PO X (some e) (Ypx te) := by
 intro pins s σ H Q I hw
 rw [evalPart_some]
 refine thn (h pins s σ H _ I hw) fun u s1 ⟨x, H1, I1, r1, q1⟩ => ?_
 obtain ⟨i, rfl, q⟩ := q1
 obtain ⟨t, rfl⟩ := r1
 exact ⟨some i, H1, I1, .int i t, q⟩
def SlR (X : Cx) (r : V -> Option Int -> Option Int -> Hp -> VK -> Prop) : Prop :=
 ∀ (pins : LAO) (s : Shared) (σ : St) (H : Hp) (x : V) (v vl vu : Value) (lo hi : Option Int) (sl : Addr) (Q : VK), Inv X pins σ H s -> RelV x v -> s.heap.IsSliceOf sl vl vu .none -> IsPart vl lo -> IsPart vu hi -> r x lo hi H Q ->
  ∃ T id, typeLookup (.type T) "__getitem__" = pure (some (.builtin id)) /\ s.TypeIs v T /\ wpAny (model X.prog X.w) X.A (getItem v (.ref sl)) (EP X pins σ Q) X.xe s
theorem SlR.or {r r' : V -> Option Int -> Option Int -> Hp -> VK -> Prop} (h : SlR X r) (h' : SlR X r') : SlR X (fun x lo hi H Q => r x lo hi H Q \/ r' x lo hi H Q) := by
 intro pins s σ H x v vl vu lo hi sl Q I rx hs pl pu q
 rcases q with q | q
 ·exact h pins s σ H x v vl vu lo hi sl Q I rx hs pl pu q
 ·exact h' pins s σ H x v vl vu lo hi sl Q I rx hs pl pu q
def tSl (r : V -> Option Int -> Option Int -> Hp -> VK -> Prop) (te : TE) (tl th : TO) : TE := fun σ H Q => te σ H fun x H1 => tl σ H1 fun l H2 => th σ H2 fun u H3 => r x l u H3 Q
theorem YgN {r : V -> Option Int -> Option Int -> Hp -> VK -> Prop} (hr : SlR X r) (he : PE X e te) (hl : PO X lo tl) (hu : PO X hi th) : PE X (.Subscript e (.Slice lo hi none p2) pos) (tSl r te tl th) := by
 show 154
 refine Subscript_ (thn (he pins s σ H _ I h) fun v s1 ⟨x, H1, I1, r1, q1⟩ => ?_)
 refine wpAny_Slice (thn (hl pins s1 σ H1 _ I1 q1) fun vl s2 ⟨l, H2, I2, pl, q2⟩ => thn (hu pins s2 σ H2 _ I2 q2) fun vu s3 ⟨u, H3, I3, pu, q3⟩ => ?_)
 rw [evalPart_none]
 refine ZAC ?_
 have I4 : Inv X pins σ H3 { s3 with heap := s3.heap.push { cls := .type "slice", data := .fields #[vl, vu, .none] } } := I3.kept (t' := s3.toks) fun b ob q => ZAB _ q
 obtain ⟨T, id, hT, ht, hg⟩ := hr pins { s3 with heap := s3.heap.push { cls := .type "slice", data := .fields #[vl, vu, .none] } } σ H3 x v vl vu l u s3.heap.objs.size Q I4 r1 (Heap.IsSliceOf.new ..) pl pu q3
 show wpAny (model X.prog X.w) X.A (subscriptTail e (.Slice lo hi none p2) v (.ref s3.heap.objs.size)) (EP X pins σ Q) X.xe { s3 with heap := s3.heap.push { cls := .type "slice", data := .fields #[vl, vu, .none] } }
 exact tail_any (ops := [.ref s3.heap.objs.size, v]) ht hT hg (by with_unfolding_all rfl)
def Yn7 (xs : List V) (lo hi : Option Int) : List V := (xs.drop (HT.sIx xs.length 0 lo)).take (HT.sIx xs.length xs.length hi - HT.sIx xs.length 0 lo)
theorem Jc (xs : List V) (lo hi : Option Int) : (Yn7 xs lo hi).length <= xs.length := by
 unfold Yn7
 rw [ZAm, ZAr]
 omega
def Yp3 (K : Frag) : V -> Option Int -> Option Int -> Hp -> VK -> Prop := fun x lo hi H Q => ∃ a xs, x = .ref a /\ SqT K H a xs /\
 ¬ (HT.sIx xs.length 0 lo = 0 /\ HT.sIx xs.length xs.length hi = xs.length) /\ ∀ p, H p = none -> Q (.ref p) (upd H p (.tup (Yn7 xs lo hi)))
theorem YjF : SlR X (Yp3 X.K) := by
 show 223
 obtain ⟨a, xs, rfl, hx, hw, q⟩ := h
 cases rx
 obtain ⟨its, r, ht, hz⟩ := I.tuple hx
 have hlen : its.toArray.size = xs.length := by rw [ZAd]; exact r.length.symm
 refine ⟨"tuple", _, PyProof.Rows.slot_tuple_getitem.lookup, ht.typeIs, ?_⟩
 refine HT.getItem_tuple_cut ht hs pl pu (by rw [hlen]; exact hw) ?_ (by rw [hlen]; exact hz)
 rw [hlen]
 refine ⟨.ref s.heap.objs.size, _, I.laid (t' := s.toks) (o := .tup (Yn7 xs lo hi)) (fun b ob q => ZAB _ q) (ZAI _) ?_, rfl, q _ (I.hok.fresh (ZAI _))⟩
 exact ⟨ZAO (Jc xs lo hi) hz, _, (r.drop (HT.sIx xs.length 0 lo)).take (HT.sIx xs.length xs.length hi - HT.sIx xs.length 0 lo), IsTup.new _ _⟩
def YpC (K : Frag) : R2 := fun x y H Q => ∃ a b xs ys, x = .ref a /\ y = .ref b /\ SqT K H a xs /\ SqT K H b ys /\ xs ≠ [] /\ xs.length + ys.length <= sizeLine /\
 (ys = [] -> Q (.ref a) H) /\ (ys ≠ [] -> ∀ p, H p = none -> Q (.ref p) (upd H p (.tup (xs ++ ys))))
theorem Vals.nil_iff {xs : List V} {us : List Value} (r : Vals xs us) : us = [] ↔ xs = [] := by
 cases r with
 | nil => simp
 | cons _ _ => simp
theorem YiJ : OpR X (binaryOp .Add) (YpC X.K) := by
 show 185
 obtain ⟨a, b, xs, ys, rfl, rfl, ha, hb, hx, hz, q1, q2⟩ := h
 show 103
 obtain ⟨its, r1, p1, _⟩ := I.tuple ha
 obtain ⟨its2, r2, p2, _⟩ := I.tuple hb
 refine HT.cat_tup p1 p2 (fun z => hx (r1.nil_iff.mp z)) (fun z => ⟨.ref a, H, I, rfl, q1 (r2.nil_iff.mp z)⟩) (fun z => ?_) (by rw [<- r1.length, <- r2.length]; exact hz)
 refine ⟨.ref s.heap.objs.size, _, I.laid (t' := s.toks) (o := .tup (xs ++ ys)) (fun b ob q => ZAB _ q) (ZAI _) ?_, rfl, q2 (fun w => z (r2.nil_iff.mpr w)) _ (I.hok.fresh (ZAI _))⟩
 exact ⟨by rw [ZAD]; exact hz, _, r1.append r2, IsTup.new _ _⟩
end
end L2
namespace L2
open PySem PySem.Spec PyProof.Rows
def ixN (n : Nat) (i : Int) : Option Nat := if 0 <= i then (if i < n then some i.toNat else none) else if -(n : Int) <= i then some (i + n).toNat else none
def atI {α : Type} (xs : List α) (i : Int) : Option α := (ixN xs.length i).bind fun j => xs[j]?
theorem Yef {n : Nat} {i : Int} {j : Nat} (h : ixN n i = some j) : seqIndex? i n = some j /\ j < n /\ -(n : Int) <= i /\ i < n := by
 unfold ixN at h
 by_cases h0 : 0 <= i
 ·rw [ZAE h0] at h
  by_cases h1 : i < n
  ·rw [ZAE h1] at h
   have e : i.toNat = j := Option.some.inj h
   exact ⟨by rw [seqIndex_of h0 h1, e], by omega, by omega, h1⟩
  ·rw [ZAF h1] at h; cases h
 ·rw [ZAF h0] at h
  by_cases h1 : -(n : Int) <= i
  ·rw [ZAE h1] at h
   have e : (i + n).toNat = j := Option.some.inj h
   exact ⟨by rw [seqIndex_neg (by omega) h1, e], by omega, h1, by omega⟩
  ·rw [ZAF h1] at h; cases h
theorem YbE {α : Type} {xs : List α} {i : Int} {v : α} (h : atI xs i = some v) : ∃ j, seqIndex? i xs.length = some j /\ xs[j]? = some v /\ j < xs.length /\ -(xs.length : Int) <= i /\ i < xs.length := by
 unfold atI at h
 cases e : ixN xs.length i with
 | none => rw [e] at h; cases h
 | some j =>
  rw [e] at h
  obtain ⟨h1, h2, h3, h4⟩ := Yef e
  exact ⟨j, h1, h, h2, h3, h4⟩
def Yos (b : Expr) : Prop := ∀ o i, subscripted b false o i = operate [o, i] (getItem o i)
def IxR (X : Cx) (r : R2) : Prop :=
 ∀ (value slice : Expr) (pins : LAO) (s : Shared) (σ : St) (H : Hp) (x y : V) (v u : Value) (Q : VK), Inv X pins σ H s -> RelV x v -> RelV y u -> r x y H Q ->
  subscripted slice false v u = operate [v, u] (getItem v u) -> wpAny (model X.prog X.w) X.A (subscriptTail value slice v u) (EP X pins σ Q) X.xe s
def MtR (X : Cx) (id : String) (r : V -> List V -> Hp -> VK -> Prop) : Prop :=
 ∀ (pins : LAO) (s : Shared) (σ : St) (H : Hp) (x : V) (xs : List V) (v : Value) (us : List Value) (Q : VK), Inv X pins σ H s -> RelV x v -> Vals xs us -> r x xs H Q ->
  wpAny (model X.prog X.w) X.A (call (.builtin id) (v :: us)) (EP X pins σ Q) X.xe s
section
variable {X : Cx} {a b : Expr} {ta tb : TE} {pos : Pos}
theorem IxR.or {r r' : R2} (h : IxR X r) (h' : IxR X r') : IxR X (fun x y H Q => r x y H Q \/ r' x y H Q) := by
 intro value slice pins s σ H x y v u Q I rx ry q hs
 rcases q with q | q
 ·exact h value slice pins s σ H x y v u Q I rx ry q hs
 ·exact h' value slice pins s σ H x y v u Q I rx ry q hs
theorem Yk1 {r : R2} (hr : IxR X r) (ha : PE X a ta) (hb : PE X b tb) (hs : Yos b) : PE X (.Subscript a b pos) (tOp r ta tb) := by
 show 154
 exact Subscript_ (Ype ha hb I h fun v u s2 x y H2 I2 rx ry q => hr a b pins s2 σ H2 x y v u Q I2 rx ry q (hs _ _))
def Ypt (K : Frag) : R2 := fun x y H Q => ∃ p xs i v, x = .ref p /\ y = .int i /\ SqL K H p xs /\ atI xs i = some v /\ Q v H
def Ypp (K : Frag) : R2 := fun x y H Q => ∃ p xs i v, x = .ref p /\ y = .int i /\ SqT K H p xs /\ atI xs i = some v /\ Q v H
def Ypw : R2 := fun x y H Q => ∃ z i c, x = .str z /\ y = .int i /\ z.length <= sizeLine /\ atI z.cps.toList i = some c /\ Q (.str ⟨#[c]⟩) H
theorem ix_list : IxR X (Ypt X.K) := by
 show 237
 obtain ⟨p, xs, i, z, rfl, rfl, hq, he, q⟩ := h
 cases rx
 obtain ⟨t, rfl⟩ := ry
 obtain ⟨its, r, pl, hz⟩ := I.list hq
 obtain ⟨j, h1, h2, h3, h4, h5⟩ := YbE he
 obtain ⟨w, ew, rw'⟩ := r.get h2
 have hl := r.length
 show 196
 have fin : EP X pins σ Q w s := ⟨z, H, I, rw', q⟩
 by_cases h0 : 0 <= i
 ·have hj : i.toNat = j := by
   rw [seqIndex_of h0 h5] at h1
   show 231
  exact item_listR pl.isList h0 (by omega) (by rw [hj]; simpa using ew) fin hs
 ·have hj : (i + (its.toArray.size : Int)).toNat = j := by
   rw [seqIndex_neg (by omega) h4] at h1
   rw [ZAd, <- hl]
   show 231
  exact subscriptTail_builtinR (x := w) pl.isList.typeIs slot_list_getitem.lookup
   (wpAny_getItem_list_neg (Q := fun r s' => r = w /\ EP X pins σ Q r s') pl.isList (by omega) (by rw [List.size_toArray] <;> omega) (by omega) (by rw [hj]; simpa using ew) ⟨rfl, fin⟩) hs
theorem ix_tup : IxR X (Ypp X.K) := by
 show 237
 obtain ⟨p, xs, i, z, rfl, rfl, hq, he, q⟩ := h
 cases rx
 obtain ⟨t, rfl⟩ := ry
 obtain ⟨its, r, pl, hz⟩ := I.tuple hq
 obtain ⟨j, h1, h2, h3, h4, h5⟩ := YbE he
 obtain ⟨w, ew, rw'⟩ := r.get h2
 have hl := r.length
 show 196
 have fin : EP X pins σ Q w s := ⟨z, H, I, rw', q⟩
 exact subscriptTail_builtinR (x := w) pl.typeIs slot_tuple_getitem.lookup
  (getItem_tuple (j := j) (Q := fun r s' => r = w /\ EP X pins σ Q r s') pl (by omega) (by omega) (by rw [List.size_toArray, <- hl]; exact h1) (by simpa using ew) ⟨rfl, fin⟩) hs
theorem Yka : IxR X Ypw := by
 show 237
 obtain ⟨z, i, c, rfl, rfl, hz, he, q⟩ := h
 show 22
 obtain ⟨j, h1, h2, h3, h4, h5⟩ := YbE he
 have hl : z.cps.toList.length = z.length := by simp [Str.length]
 rw [hl] at h1 h4 h5
 show 196
 exact tail_any (typeIs_str s z t) slot_str_getitem.lookup (getItem_str (c := c) (by
  have e1 : decide (i < -(2 ^ 63 : Int)) = false := ZAN (by omega)
  have e2 : decide (i >= 2 ^ 63) = false := ZAN (by omega)
  rw [e1, e2, Bool.or_false]) (by rw [h1]; simpa using h2) ⟨.str ⟨#[c]⟩, H, I.tok _, ⟨_, rfl⟩, q⟩) hs
def rIx (K : Frag) : R2 := fun x y H Q => Ypt K x y H Q \/ Ypp K x y H Q \/ Ypw x y H Q
theorem Ykf : IxR X (rIx X.K) := ix_list.or (ix_tup.or Yka)
theorem YdU (its : List Value) (n j : Nat) (u : Value) : Obj.mapSeq (·.setIfInBounds j u) { cls := .type "list", data := .seq its.toArray n } = { cls := .type "list", data := .seq (its.set j u).toArray n } := by
 simp [Obj.mapSeq]
theorem Inv.lst {pins : LAO} {σ : St} {H : Hp} {s : Shared} {p : Addr} {xs : List V} (I : Inv X pins σ H s) (h : H p = some (.lst xs)) :
 ∃ (its : List Value) (n : Nat), Vals xs its /\ s.heap.get? p = some { cls := .type "list", data := .seq its.toArray n } /\ xs.length <= sizeLine := by
 obtain ⟨z, its, n, r, e⟩ := I.hok p _ h
 exact ⟨its, n, r, e, z⟩
theorem Inv.lstUpd {pins : LAO} {σ : St} {H : Hp} {s : Shared} {p : Addr} {xs ys : List V} {its its' : List Value} {n n' : Nat} {f : Obj -> Obj} (I : Inv X pins σ H s) (h : H p = some (.lst xs))
 (ho : s.heap.get? p = some { cls := .type "list", data := .seq its.toArray n }) (hf : f { cls := .type "list", data := .seq its.toArray n } = { cls := .type "list", data := .seq its'.toArray n' }) (r : Vals ys its') (hz : ys.length <= sizeLine) (t : Nat) :
 Inv X pins σ (upd H p (.lst ys)) { s with heap := s.heap.update p f, toks := t } := by
 have e : (s.heap.update p f).get? p = some { cls := .type "list", data := .seq its'.toArray n' } := by
  rw [ZAq f ho (by rw [hf] <;> rfl), hf]
 refine I.write (x := p) (e := p) (by rw [h]; trivial) (.inl rfl) (fun b u hb q => (ZAY _ _ (ZBA hb)).trans q) ⟨_, e⟩ ?_
 exact ⟨hz, its', n', r, e⟩
def Yo7 : V -> V -> V -> Hp -> (Hp -> Prop) -> Prop := fun o i v H Q => ∃ p xs k j, o = .ref p /\ i = .int k /\ H p = some (.lst xs) /\ ixN xs.length k = some j /\ Q (upd H p (.lst (xs.set j v)))
theorem Ygo : YpF X Yo7 := by
 intro pins s σ H o i v ov iv u Q I ro ri rv h
 obtain ⟨p, xs, k, j, rfl, rfl, hp, hj, q⟩ := h
 cases ro
 obtain ⟨t, rfl⟩ := ri
 obtain ⟨its, n, r, ho, hz⟩ := I.lst hp
 obtain ⟨h1, h2, h3, h4⟩ := Yef hj
 have hl := r.length
 show 196
 have I' : Inv X pins σ (upd H p (.lst (xs.set j v))) { s with heap := s.heap.update p (Obj.mapSeq (·.setIfInBounds j u)) } :=
  I.lstUpd hp ho (YdU its n j u) (r.set rv j) (by rw [ZCX]; exact hz) s.toks
 by_cases h0 : 0 <= k
 ·have hk : k.toNat = j := by
   rw [seqIndex_of h0 h4] at h1
   show 231
  exact PySem.W.ki_setAt ho h0 (by omega) (by rw [ZAd, <- hl]; exact h4) (by rw [hk]; exact ⟨_, I', q⟩)
 ·have hk : (k + (its.toArray.size : Int)).toNat = j := by
   rw [seqIndex_neg (by omega) h3] at h1
   rw [ZAd, <- hl]
   show 231
  exact PySem.W.ki_setBack ho (by omega) (by rw [ZAd, <- hl]; exact h3) (by omega) (by rw [hk]; exact ⟨_, I', q⟩)
theorem Yb6 (lo hi : Option Int) (n : Nat) : (sliceBounds lo hi none n).1 = ((HT.sIx n 0 lo : Nat) : Int) /\ (sliceBounds lo hi none n).2.1 = ((HT.sIx n n hi : Nat) : Int) /\ (sliceBounds lo hi none n).2.2 = 1 := by
 refine ⟨?_, ?_, rfl⟩
 ·cases lo with
  | none => simp [sliceBounds, HT.sIx]
  | some i =>
   simp only [sliceBounds, HT.sIx, Option.getD_none, show (1 : Int) > 0 by decide, if_true]
   by_cases h : i < 0
   ·simp only [h, if_true] <;> omega
   ·simp only [h, if_false] <;> omega
 ·cases hi with
  | none => simp [sliceBounds, HT.sIx]
  | some i =>
   simp only [sliceBounds, HT.sIx, Option.getD_none, show (1 : Int) > 0 by decide, if_true]
   by_cases h : i < 0
   ·simp only [h, if_true] <;> omega
   ·simp only [h, if_false] <;> omega
theorem YaI (its : List Value) (lo hi : Option Int) : slicePick its.toArray lo hi none = ((its.drop (HT.sIx its.length 0 lo)).take (HT.sIx its.length its.length hi - HT.sIx its.length 0 lo)).toArray := by
 obtain ⟨h1, h2, h3⟩ := Yb6 lo hi its.toArray.size
 unfold slicePick
 rw [h1, h2, h3]
 simp only [sliceRange_one, pick_run, List.size_toArray] <;> rfl
def YpH (K : Frag) : V -> Option Int -> Option Int -> Hp -> VK -> Prop := fun x lo hi H Q => ∃ a xs, x = .ref a /\ SqL K H a xs /\ ∀ p, H p = none -> Q (.ref p) (upd H p (.lst (Yn7 xs lo hi)))
theorem YiB : SlR X (YpH X.K) := by
 show 223
 obtain ⟨a, xs, rfl, hx, q⟩ := h
 cases rx
 obtain ⟨its, r, ht, hz⟩ := I.list hx
 have hlen := r.length
 refine ⟨"list", _, slot_list_getitem.lookup, ht.isList.typeIs, ?_⟩
 refine wpAny_getItem_list_slice ht.isList hs pl pu .none (by simp) ?_ (by rw [List.size_toArray] <;> omega)
 rw [YaI, <- hlen]
 refine ⟨.ref s.heap.objs.size, _, I.laid (t' := s.toks) (o := .lst (Yn7 xs lo hi)) (fun b ob q => ZAB _ q) (ZAI _) ?_, rfl, q _ (I.hok.fresh (ZAI _))⟩
 exact ⟨ZAO (Jc xs lo hi) hz, _, 0, (r.drop (HT.sIx xs.length 0 lo)).take (HT.sIx xs.length xs.length hi - HT.sIx xs.length 0 lo), ZAK _ rfl⟩
def YmP : V -> Bool
 | .non => true
 | .bl _ => true
 | .int _ => true
 | .str _ => true
 | _ => false
def eqV : V -> V -> Bool
 | .non, .non => true
 | .bl a, .bl b => a == b
 | .bl a, .int b => (if a then 1 else 0) == b
 | .int a, .bl b => a == (if b then 1 else 0)
 | .int a, .int b => a == b
 | .str a, .str b => a == b
 | _, _ => false
theorem Yi8 {A : Around} {s : Shared} {y x : V} {u v : Value} (ry : RelV y u) (rx : RelV x v) (fy : YmP y = true) (fx : YmP x = true) : SeqAt.EqAt A s u v (eqV y x) := by
 cases y with
 | non =>
  cases ry
  cases x with
  | non => cases rx; exact SeqAt.EqAt.same _
  | bl b => cases rx; exact SeqAt.EqAt.none_bool b
  | int b => obtain ⟨t, rfl⟩ := rx; exact SeqAt.EqAt.none_int b t
  | str b => obtain ⟨t, rfl⟩ := rx; exact SeqAt.EqAt.none_str b t
  | _ => show 234
 | bl a =>
  cases ry
  cases x with
  | non => cases rx; exact SeqAt.EqAt.bool_none a
  | bl b => cases rx; exact SeqAt.EqAt.bool_bool a b
  | int b => obtain ⟨t, rfl⟩ := rx; exact SeqAt.EqAt.bool_int a b t
  | str b => obtain ⟨t, rfl⟩ := rx; exact SeqAt.EqAt.bool_str a b t
  | _ => show 234
 | int a =>
  show 253
  cases x with
  | non => cases rx; exact SeqAt.EqAt.int_none a t'
  | bl b => cases rx; exact SeqAt.EqAt.int_bool a t' b
  | int b => obtain ⟨t, rfl⟩ := rx; exact SeqAt.EqAt.int_int a t' b t
  | str b => obtain ⟨t, rfl⟩ := rx; exact SeqAt.EqAt.int_str a t' b t
  | _ => show 234
 | str a =>
  show 253
  cases x with
  | non => cases rx; exact SeqAt.EqAt.str_none a t'
  | bl b => cases rx; exact SeqAt.EqAt.str_bool a t' b
  | int b => obtain ⟨t, rfl⟩ := rx; exact SeqAt.EqAt.str_int a t' b t
  | str b => obtain ⟨t, rfl⟩ := rx; exact SeqAt.EqAt.str_str a t' b t
  | _ => show 234
 | _ => exact absurd (show false = true from fy) ZAU
def eqU (x : V) (u : Value) : Bool := match u with
 | .none => eqV .non x
 | .bool b => eqV (.bl b) x
 | .int i _ => eqV (.int i) x
 | .str z _ => eqV (.str z) x
 | _ => false
theorem YdP {x y : V} {u : Value} (r : RelV y u) (f : YmP y = true) : eqU x u = eqV y x := by
 cases y with
 | non => cases r; rfl
 | bl b => cases r; rfl
 | int i => show 186
 | str z => show 186
 | _ => exact absurd (show false = true from f) ZAU
theorem YbV {x : V} : ∀ {xs : List V} {us : List Value}, Vals xs us -> xs.all YmP = true -> us.any (eqU x) = xs.any fun y => eqV y x
 | _, _, .nil, _ => rfl
 | y :: xs, u :: us, .cons r t, f => by
  rw [ZBC, ZAb] at f
  rw [ZBT, ZBT, YdP r f.1, YbV t f.2]
theorem Vv {A : Around} {s : Shared} {x : V} {v : Value} (rx : RelV x v) (fx : YmP x = true) : ∀ {xs : List V} {us : List Value}, Vals xs us -> xs.all YmP = true -> ∀ u ∈ us, SeqAt.EqAt A s u v (eqU x u)
 | _, _, .nil, _ => fun u hu => by cases hu
 | y :: xs, u :: us, .cons r t, f => fun u' hu => by
  rw [ZBC, ZAb] at f
  rcases ZAT.mp hu with rfl | hu
  ·rw [YdP r f.1]; exact Yi8 r rx f.1 fx
  ·exact Vv rx fx t f.2 u' hu
def inV (x : V) (xs : List V) : Bool := xs.any fun y => eqV y x
def rIn (K : Frag) (neg : Bool) : R2 := fun x y H Q => ∃ p xs, y = .ref p /\ (SqL K H p xs \/ SqT K H p xs) /\ YmP x = true /\ xs.all YmP = true /\ Q (.bl (if neg then !inV x xs else inV x xs)) H
theorem Yfh : OpR X (compareOp .In) (rIn X.K false) := by
 show 185
 obtain ⟨p, xs, rfl, hq, fx, fs, q⟩ := h
 cases ry
 rcases hq with hq | hq
 ·obtain ⟨its, r, pl, hz⟩ := I.list hq
  refine SeqAt.in_listAt (eqU x) pl.isList (fun w hw => Vv rx fx r fs w (by simpa using hw)) ⟨.bl _, H, I, rfl, ?_⟩
  rw [show its.toArray.any (eqU x) = its.any (eqU x) by simp, YbV r fs]
  exact q
 ·obtain ⟨its, r, pl, hz⟩ := I.tuple hq
  refine SeqAt.in_tupleAt (eqU x) pl (fun w hw => Vv rx fx r fs w (by simpa using hw)) ⟨.bl _, H, I, rfl, ?_⟩
  rw [show its.toArray.any (eqU x) = its.any (eqU x) by simp, YbV r fs]
  exact q
theorem Wm : Ymw X (.builtin "len") (fun xs H Q => ∃ p ys, xs = [.ref p] /\ (SqL X.K H p ys \/ SqT X.K H p ys) /\ Q (.int ys.length) H) := by
 show 217
 obtain ⟨p, ys, rfl, hq, q⟩ := h
 obtain ⟨u, rfl, rx⟩ := vals1 r
 cases rx
 show 196
 rcases hq with hq | hq
 ·obtain ⟨its, r', pl, hz⟩ := I.list hq
  have hlen := r'.length
  exact Calls.call_len_list pl.isList (by simp only [List.size_toArray] <;> omega) ⟨.int ys.length, H, I.tok _, ⟨s.toks + 1, by rw [List.size_toArray, hlen]⟩, q⟩
 ·obtain ⟨its, r', pl, hz⟩ := I.tuple hq
  have hlen := r'.length
  exact len_tuple pl (by simp only [List.size_toArray] <;> omega) ⟨.int ys.length, H, I.tok _, ⟨s.toks + 1, by rw [List.size_toArray, hlen]⟩, q⟩
theorem Ybw : Ymw X (.builtin "len") (fun xs H Q => ∃ z, xs = [.str z] /\ z.length <= sizeLine /\ Q (.int z.length) H) := by
 show 217
 obtain ⟨z, rfl, hz, q⟩ := h
 obtain ⟨u, rfl, t, rfl⟩ := vals1 r
 show 196
 exact len_str (by omega) ⟨.int z.length, H, I.tok _, ⟨_, rfl⟩, q⟩
theorem WX : Ymw X (.type "tuple") (fun xs H Q => ∃ p ys, xs = [.ref p] /\ ((SqL X.K H p ys /\ ∀ l, H l = none -> Q (.ref l) (upd H l (.tup ys))) \/ (SqT X.K H p ys /\ Q (.ref p) H))) := by
 show 217
 obtain ⟨p, ys, rfl, h⟩ := h
 obtain ⟨u, rfl, rx⟩ := vals1 r
 cases rx
 rcases h with ⟨hq, q⟩ | ⟨hq, q⟩
 ·obtain ⟨its, r', pl, hz⟩ := I.list hq
  have hlen := r'.length
  refine call_tuple_list pl.isList (fun h' kp => ?_) (by simp only [List.size_toArray] <;> omega)
  have I1 : Inv X pins σ H { s with heap := h' } := I.kept (t' := s.toks) kp
  have I2 : Inv X pins σ (upd H h'.objs.size (.tup ys)) { s with heap := h'.push { cls := .type "tuple", data := .seq its.toArray } } :=
   I1.laid (t' := s.toks) (fun b o e => ZAB _ e) (ZAI _) (show Yme X.prog X.w _ _ _ (.tup ys) from ⟨hz, its, r', IsTup.new _ _⟩)
  exact ⟨.ref h'.objs.size, _, I2, rfl, q _ (I1.hok.fresh (ZAI _))⟩
 ·obtain ⟨its, r', pl, hz⟩ := I.tuple hq
  exact call_tuple_same pl ⟨.ref p, H, I, rfl, q⟩
def tyV (K : Frag) (T : String) (x : V) (H : Hp) : Prop := match x with
 | .str _ => T = "str"
 | .int _ => T = "int"
 | .ref p => (T = "list" /\ ∃ xs, SqL K H p xs) \/ (T = "tuple" /\ ∃ o, K.lookup p = some o /\ o.cls = .type "tuple" /\ o.dict = none) \/
  (T = "dict" /\ ((∃ kvs, H p = some (.dK kvs)) \/ ∃ kvs, H p = some (.dT kvs))) \/ (T = "set" /\ ∃ S n, H p = some (.set S n))
 | _ => False
theorem Yhi {pins : LAO} {σ : St} {H : Hp} {s : Shared} {T : String} {x : V} {v : Value} (I : Inv X pins σ H s) (r : RelV x v) (ty : tyV X.K T x H) :
 s.TypeIs v T /\ ∀ a, v = .ref a -> ∃ ob, s.heap.get? a = some ob /\ ob.dict = none := by
 cases x with
 | str z =>
  show 204
  cases (show T = "str" from ty)
  exact ⟨typeIs_str s z t, fun _ e => nomatch e⟩
 | int i =>
  show 204
  cases (show T = "int" from ty)
  exact ⟨typeIs_int s i t, fun _ e => nomatch e⟩
 | ref p =>
  cases r
  rcases ty with ⟨rfl, xs, hq⟩ | ⟨rfl, o, hk, hc, hd⟩ | ⟨rfl, hk⟩ | ⟨rfl, S, n, hk⟩
  ·obtain ⟨its, _, pl, _⟩ := I.list hq
   refine ⟨pl.isList.typeIs, fun a e => ?_⟩
   cases e
   obtain ⟨o, n, e, c, hd, _⟩ := pl
   exact ⟨o, e, hd⟩
  ·refine ⟨⟨o, I.kIn p o hk, hc⟩, fun a e => ?_⟩
   cases e
   exact ⟨o, I.kIn _ o hk, hd⟩
  ·have z : ∃ o, s.heap.get? p = some o /\ o.ExactDict := by
    rcases hk with ⟨kvs, hk⟩ | ⟨kvs, hk⟩
    ·obtain ⟨_, _, _, _, o, _, _, e, ex, _⟩ := I.hok p _ hk
     exact ⟨o, e, ex⟩
    ·obtain ⟨_, _, _, _, o, _, _, e, ex, _⟩ := I.hok p _ hk
     exact ⟨o, e, ex⟩
   obtain ⟨o, e, ex⟩ := z
   refine ⟨⟨o, e, ex.1⟩, fun a e2 => ?_⟩
   cases e2
   exact ⟨o, e, ex.2.1⟩
  ·obtain ⟨o, _, _, _, e, ex, _⟩ := I.hok p _ hk
   refine ⟨⟨o, e, ex.1⟩, fun a e2 => ?_⟩
   cases e2
   exact ⟨o, e, ex.2.1⟩
 | _ => exact False.elim ty
def YpK (K : Frag) (T : String) (r : V -> List V -> Hp -> VK -> Prop) (to : TE) : TE := fun σ H Q => to σ H fun x H1 => tyV K T x H1 /\ r x [] H1 Q
def tBM (K : Frag) (T : String) (r : V -> List V -> Hp -> VK -> Prop) (to : TE) (t : TA) : TE := fun σ H Q => to σ H fun x H1 => tyV K T x H1 /\ t σ H1 fun xs H2 => r x xs H2 Q
variable {o e : Expr} {es : List Expr} {to : TE} {t : TA} {name : Str} {apos cpos : Pos} {T id : String} {r : V -> List V -> Hp -> VK -> Prop}
theorem Yi9 (pa : PlainAttrs T) (slot : Slot T name id) (hty : typeOf (.builtin id) = pure (.type "method_descriptor")) (hm : MtR X id r) (ho : PE X o to)
 (hbase : attributeBase o name X.env (eval o X.env) = eval o X.env := by rfl) (hline : (apos.endLine == cpos.line) = true := by rfl) : PE X (.Call (.Attribute o name apos) [] [] cpos) (YpK X.K T r to) := by
 show 154
 refine wpAny_Call_method0_late hbase hline (thn (ho pins s σ H _ I h) fun v s1 ⟨x, H1, I1, r1, ty, q1⟩ => ?_)
 obtain ⟨h1, h2⟩ := Yhi I1 r1 ty
 exact ⟨T, id, pa, slot, hty, h1, h2, Calls.callWith_builtin rfl (PySem.evalArgs_none (hm pins s1 σ H1 x [] v [] Q I1 r1 .nil q1))⟩
theorem YiU (pa : PlainAttrs T) (slot : Slot T name id) (hty : typeOf (.builtin id) = pure (.type "method_descriptor")) (hm : MtR X id r) (ho : PE X o to) (ha : PA X (e :: es) t)
 (hbase : attributeBase o name X.env (eval o X.env) = eval o X.env := by rfl)
 (hfew : ((backTo cpos (starEach (e :: es) X.env)).all (fun x => !x.1) && (backToKw cpos (keywordEach [] X.env)).all (fun x => x.1.isSome)
  && decide ((e :: es).length + ([] : List Keyword).length + (if ([] : List Keyword).isEmpty then 0 else 1) < 30)) = true := by rfl)
 (hline : (apos.endLine == cpos.line) = true := by rfl) (hs : starEach (e :: es) X.env = (false, eval e X.env) :: starEach es X.env := by rfl) (hplain : (backTo cpos (starEach es X.env)).any (·.1) = false := by rfl) :
 PE X (.Call (.Attribute o name apos) (e :: es) [] cpos) (tBM X.K T r to t) := by
 show 154
 refine wpAny_Call_method_late hbase hfew hline rfl (thn (ho pins s σ H _ I h) fun v s1 ⟨x, H1, I1, r1, ty, q1⟩ => ?_)
 obtain ⟨h1, h2⟩ := Yhi I1 r1 ty
 refine ⟨T, id, pa, slot, hty, h1, h2, ?_⟩
 have hA := ha cpos pins s1 σ H1 _ I1 q1
 rw [hs] at hA ⊢
 refine Calls.callWith_builtin (by show (false || (backTo cpos (starEach es X.env)).any (·.1)) = false; rw [hplain] <;> rfl) (Calls.evalArgs_plain ?_)
 exact thn hA fun us s2 ⟨vs, H2, I2, r2, q2⟩ => hm pins s2 σ H2 x vs v us Q I2 r1 r2 q2
/- xs.append(e), list.index on a module's tuple .. are MtR facts of 06m -/
end
end L2
namespace L2
open PySem PySem.Spec PyProof.Rows
def MtM (X : Cx) (id : String) (r : V -> List V -> Hp -> VK -> Prop) : Prop :=
 ∀ (pins : LAO) (s : Shared) (σ : St) (H : Hp) (x : V) (xs : List V) (v : Value) (us : List Value) (Q : VK), Inv X pins σ H s -> RelV x v -> Vals xs us -> r x xs H Q ->
  wpAny (model X.prog X.w) X.A (call (.builtin id) (v :: us)) (EP X pins σ Q) X.xe s
theorem Vals.one : ∀ {x : V} {us : List Value}, Vals [x] us -> ∃ u, us = [u] /\ RelV x u
 | _, _, .cons r .nil => ⟨_, rfl, r⟩
theorem Vals.two : ∀ {x y : V} {us : List Value}, Vals [x, y] us -> ∃ u v, us = [u, v] /\ RelV x u /\ RelV y v
 | _, _, _, .cons r (.cons q .nil) => ⟨_, _, rfl, r, q⟩
theorem Vals.zero : ∀ {us : List Value}, Vals [] us -> us = []
 | _, .nil => rfl
theorem Vals.eraseIdx : ∀ {xs : List V} {us : List Value} (i : Nat), Vals xs us -> Vals (xs.eraseIdx i) (us.eraseIdx i)
 | _, _, _, .nil => .nil
 | _, _, 0, .cons _ t => t
 | _, _, i + 1, .cons r t => .cons r (Vals.eraseIdx i t)
theorem Vals.reverse {xs : List V} {us : List Value} (h : Vals xs us) : Vals xs.reverse us.reverse := by
 induction h with
 | nil => exact .nil
 | cons r t ih => rw [ZB1, ZB1]; exact Vals.append ih (.cons r .nil)
theorem WR (its : List Value) : ∀ (k : Nat) (acc : List Value),
 List.foldl (fun x1 x2 => x1 ++ x2) acc.toArray (List.replicate k its.toArray) = (acc ++ (List.replicate k its).flatten).toArray
 | 0, acc => by simp
 | k + 1, acc => by
  have e : acc.toArray ++ its.toArray = (acc ++ its).toArray := by simp
  have e2 : (acc ++ its) ++ (List.replicate k its).flatten = acc ++ (List.replicate (k + 1) its).flatten := by
   rw [List.replicate_succ, ZAn, ZAe]
  rw [<- e2, <- WR its k (acc ++ its), <- e, List.replicate_succ, ZB5]
section
variable {X : Cx} {pins : LAO} {σ : St} {H : Hp} {s : Shared} {l b : Addr} {xs ys zs : List V}
theorem Inv.lset {its its' : List Value} {n : Nat} {f : Array Value -> Array Value} {t' : Nat} (I : Inv X pins σ H s) (hH : H l = some (.lst xs))
 (e : s.heap.get? l = some { cls := .type "list", data := .seq its.toArray n }) (hf : f its.toArray = its'.toArray) (hv : Vals ys its') (hz : ys.length <= sizeLine) :
 Inv X pins σ (upd H l (.lst ys)) { s with heap := s.heap.update l (Obj.mapSeq f), toks := t' } := by
 have q := PySem.IsL.update e f
 rw [hf] at q
 refine I.write (x := l) (e := l) (by rw [hH]; exact trivial) (.inl rfl) (fun b' u hb hu => (ZAY s.heap (Obj.mapSeq f) (ZBA hb)).trans hu) ⟨_, q⟩ ?_
 exact ⟨hz, its', _, hv, q⟩
theorem Inv.lnew {its : List Value} {t' : Nat} (I : Inv X pins σ H s) (hv : Vals ys its) (hz : ys.length <= sizeLine) :
 Inv X pins σ (upd H s.heap.objs.size (.lst ys)) { s with heap := s.heap.push { cls := .type "list", data := .seq its.toArray }, toks := t' } :=
 I.laid (fun _ _ q => ZAB _ q) (ZAI _) ⟨hz, its, 0, hv, ZAK _ rfl⟩
theorem Inv.fresh (I : Inv X pins σ H s) : H s.heap.objs.size = none := I.hok.fresh (ZAI _)
theorem Inv.lstM (I : Inv X pins σ H s) (hH : H l = some (.lst xs)) : xs.length <= sizeLine /\ ∃ (its : List Value) (n : Nat), Vals xs its /\ xs.length = its.length /\ s.heap.get? l = some { cls := .type "list", data := .seq its.toArray n } := by
 obtain ⟨z, its, n, r, e⟩ := I.hok l _ hH
 exact ⟨z, its, n, r, r.length, e⟩
theorem YoF {n : Nat} (h : n <= sizeLine) : Builtin.List.listTooLong n = false := by
 unfold Builtin.List.listTooLong
 exact ZAN (by omega)
end
section
variable {X : Cx}
def YoX : V -> List V -> Hp -> VK -> Prop := fun x vs H Q => ∃ l xs y, x = .ref l /\ vs = [y] /\ H l = some (.lst xs) /\ xs.length < sizeLine /\ Q .non (upd H l (.lst (xs ++ [y])))
theorem YeL : MtM X "list.append" YoX := by
 intro pins s σ H x vs v us Q I rx rv h
 obtain ⟨l, xs, y, rfl, rfl, hH, hz, q⟩ := h
 cases rx
 obtain ⟨u, rfl, ru⟩ := rv.one
 obtain ⟨z, its, n, r, hl, e⟩ := I.lstM hH
 refine call_meets F.slot_list_append ⟨_, e, rfl⟩ F.entry_list_append (F.args_list_append_2 _ _) (PySem.list_append l its.toArray n u (by rw [ZAd]; omega)) ⟨e, ?_⟩
 refine ⟨.non, _, I.lset (its' := its ++ [u]) hH e (by simp) (r.append (.cons ru .nil)) ?_, rfl, q⟩
 rw [ZAD, ZAg]
 omega
def YoY : V -> List V -> Hp -> VK -> Prop := fun x vs H Q => ∃ l b xs zs, x = .ref l /\ vs = [.ref b] /\ H l = some (.lst xs) /\ H b = some (.lst zs) /\ xs.length + zs.length <= sizeLine /\ Q .non (upd H l (.lst (xs ++ zs)))
theorem YkE : MtM X "list.extend" YoY := by
 intro pins s σ H x vs v us Q I rx rv h
 obtain ⟨l, b, xs, zs, rfl, rfl, hH, hB, hz, q⟩ := h
 cases rx
 obtain ⟨u, rfl, ru⟩ := rv.one
 cases ru
 obtain ⟨z, its, n, r, hl, e⟩ := I.lstM hH
 obtain ⟨z2, its2, n2, r2, hl2, e2⟩ := I.lstM hB
 have hsz : its.toArray.size + its2.toArray.size <= sizeLine := by rw [ZAd, ZAd]; omega
 have hlong : ¬ (!its.toArray.isEmpty && Builtin.List.listTooLong (its.toArray.size + its2.toArray.size)) = true := by
  rw [YoF hsz, Bool.and_false]
  exact ZAU
 refine call_meets F.slot_list_extend ⟨_, e, rfl⟩ F.entry_list_extend (F.args_list_extend_2 _ _)
  (AutoSeq1.list_extend_list_list_0 l its.toArray n b its2.toArray n2 hlong (by rw [ZAd]; omega) (by omega)) ⟨e, e2, ?_⟩
 refine ⟨.non, _, I.lset (its' := its ++ its2) hH e (by simp) (r.append r2) ?_, rfl, q⟩
 rw [ZAD]
 omega
def YpW : R2 := fun x y H Q => ∃ l b xs zs, x = .ref l /\ y = .ref b /\ H l = some (.lst xs) /\ H b = some (.lst zs) /\ xs.length + zs.length <= sizeLine /\ ∀ p, H p = none -> Q (.ref p) (upd H p (.lst (xs ++ zs)))
theorem Yj0 : OpR X (binaryOp .Add) YpW := by
 show 185
 obtain ⟨l, b, xs, zs, rfl, rfl, hH, hB, hz, q⟩ := h
 show 103
 obtain ⟨z, its, n, r, hl, e⟩ := I.lstM hH
 obtain ⟨z2, its2, n2, r2, hl2, e2⟩ := I.lstM hB
 refine PySem.P.add_list e e2 ?_ (by rw [ZAd, ZAd]; omega)
 have ea : its.toArray ++ its2.toArray = (its ++ its2).toArray := by simp
 rw [ea]
 exact ⟨.ref _, _, I.lnew (t' := s.toks) (r.append r2) (by rw [ZAD]; omega), rfl, q _ I.fresh⟩
end
section
variable {prog : Program} {w : World} {A : Around} {E : VSP} {s : Shared}
end
section
variable {X : Cx}
end
end L2
namespace L2
open PySem PySem.Spec PyProof.Rows
section
variable {κ : Type} [DecidableEq κ]
def Ync (kvs : List (κ × V)) (k : κ) : Option V := (kvs.find? fun kv => decide (kv.1 = k)).map (·.2)
def putK (kvs : List (κ × V)) (k : κ) (v : V) : List (κ × V) :=
 if (kvs.any fun kv => decide (kv.1 = k)) = true then kvs.map (fun kv => if kv.1 = k then (kv.1, v) else kv) else kvs ++ [(k, v)]
def Yo6 (kvs : List (κ × V)) (k : κ) : List (κ × V) := kvs.filter fun kv => decide (kv.1 ≠ k)
theorem Vu {p : κ × V} {r : List (κ × V)} {k : κ} (e : p.1 = k) : Ync (p :: r) k = some p.2 := by simp [Ync, List.find?_cons, e]
theorem Vw {p : κ × V} {r : List (κ × V)} {k : κ} (e : ¬ p.1 = k) : Ync (p :: r) k = Ync r k := by simp [Ync, List.find?_cons, e]
theorem Yci (k : κ) : ∀ kvs : List (κ × V), (kvs.any fun kv => decide (kv.1 = k)) = (Ync kvs k).isSome
 | [] => rfl
 | p :: r => by
  rw [ZBT]
  show 195
  ·simp only [Vu e, decide_eq_true e, Bool.true_or, Option.isSome_some]
  ·rw [Vw e, ZAN e, ZCl]; exact Yci k r
theorem Jh (kvs : List (κ × V)) (k : κ) (v : V) : (putK kvs k v).length <= kvs.length + 1 := by
 unfold putK
 split
 ·rw [ZAH]; omega
 ·rw [ZAD, ZAQ, ZCY]; omega
theorem Ym0.isSome_eq {o : Option V} {u : Option Value} (r : Ym0 o u) : o.isSome = u.isSome := by
 cases o with
 | none => cases u with
  | none => rfl
  | some _ => show 206
 | some _ => cases u with
  | none => show 206
  | some _ => rfl
theorem Ym0.getD {o : Option V} {u : Option Value} {d : V} {d' : Value} (r : Ym0 o u) (rd : RelV d d') : RelV (o.getD d) (u.getD d') := by
 cases o with
 | none => cases u with
  | none => exact rd
  | some _ => show 206
 | some _ => cases u with
  | none => show 206
  | some _ => exact r
theorem KV.val {kvs : List (κ × V)} {vs : List (κ × Value)} (r : KV kvs vs) (k : κ) : Ym0 (Ync kvs k) (valueAt vs k) := by
 unfold KV at r
 induction r with
 | nil => exact True.intro
 | @cons p q ps qs h t ih =>
  show 235
  show 195
  ·have e' : q.1 = k := h1.symm.trans e
   have b : valueAt (q :: qs) k = some q.2 := by simp [valueAt, List.find?_cons, e']
   rw [Vu e, b]; exact h2
  ·have e' : ¬ q.1 = k := fun z => e (h1.trans z)
   have b : valueAt (q :: qs) k = valueAt qs k := by simp [valueAt, List.find?_cons, e']
   rw [Vw e, b]; exact ih
theorem KV.any {kvs : List (κ × V)} {vs : List (κ × Value)} (r : KV kvs vs) (k : κ) : (kvs.any fun kv => decide (kv.1 = k)) = vs.any fun kv => decide (kv.1 = k) := by
 unfold KV at r
 induction r with
 | nil => rfl
 | cons h t ih => rw [ZBT, ZBT, ih, h.1]
theorem KV.repl {kvs : List (κ × V)} {vs : List (κ × Value)} (r : KV kvs vs) (k : κ) {y : V} {u : Value} (ry : RelV y u) :
 KV (kvs.map fun kv => if kv.1 = k then (kv.1, y) else kv) (vs.map fun kv => if kv.1 = k then (kv.1, u) else kv) := by
 unfold KV at r ⊢
 induction r with
 | nil => exact .nil
 | @cons p q ps qs h t ih =>
  rw [ZAV, ZAV]
  refine .cons ?_ ih
  show 235
  show 195
  ·rw [ZAE e, ZAE (h1.symm.trans e)]; exact ⟨h1, ry⟩
  ·rw [ZAF e, ZAF (fun z => e (h1.trans z))]; exact ⟨h1, h2⟩
theorem KV.put {kvs : List (κ × V)} {vs : List (κ × Value)} (r : KV kvs vs) (k : κ) {y : V} {u : Value} (ry : RelV y u) : KV (putK kvs k y) (stored vs k u) := by
 unfold putK stored
 rw [r.any k]
 by_cases e : (vs.any fun kv => decide (kv.1 = k)) = true
 ·rw [ZAE e, ZAE e]; exact r.repl k ry
 ·rw [ZAF e, ZAF e]; exact Paired.snoc r ⟨rfl, ry⟩
theorem KV.drop {kvs : List (κ × V)} {vs : List (κ × Value)} (r : KV kvs vs) (k : κ) : KV (Yo6 kvs k) (without vs k) := by
 unfold KV at r ⊢
 unfold Yo6 without
 induction r with
 | nil => exact .nil
 | @cons p q ps qs h t ih =>
  show 235
  rw [ZCN, ZCN]
  show 195
  ·have a : ¬ decide (p.1 ≠ k) = true := by simp [e]
   have b : ¬ decide (q.1 ≠ k) = true := by simp [h1.symm.trans e]
   rw [ZAF a, ZAF b]; exact ih
  ·have e' : ¬ q.1 = k := fun z => e (h1.trans z)
   have a : decide (p.1 ≠ k) = true := by simp [e]
   have b : decide (q.1 ≠ k) = true := by simp [e']
   rw [ZAE a, ZAE b]; exact .cons ⟨h1, h2⟩ ih
theorem KV.keys {kvs : List (κ × V)} {vs : List (κ × Value)} (r : KV kvs vs) : kvs.map (·.1) = vs.map (·.1) := by
 unfold KV at r
 induction r with
 | nil => rfl
 | cons h t ih => rw [ZAV, ZAV, ih, h.1]
theorem KV.length {kvs : List (κ × V)} {vs : List (κ × Value)} (r : KV kvs vs) : kvs.length = vs.length := Paired.length r
end
theorem Ycw {P : Program} {w : World} {k : Key} {u : Value} (r : RelV (kV k) u) : (Yl0 P w).is k u = true := by
 cases k with
 | inl i => obtain ⟨t, e⟩ := (show ∃ t, u = Value.int i t from r); subst e; exact YcO P w i t
 | inr x => obtain ⟨t, e⟩ := (show ∃ t, u = Value.str x t from r); subst e; exact Yco P w x t
theorem YaS {P : Program} {w : World} : ∀ {ks : List Key} {us : List Value}, Vals (ks.map kV) us -> ItemsAre (Yl0 P w) ks us
 | [], _, r => by rw [ZB6] at r; cases r; exact .nil
 | k :: ks, _, r => by
  rw [ZAV] at r
  cases r with
  | cons h t => exact .cons (Ycw h) (YaS t)
abbrev KT (H : Hp) : List (List Key × V) -> List (List Key × Addr × Value) -> Prop := Paired fun p q => p.1 = q.1 /\ H q.2.1 = some (.tup (p.1.map kV)) /\ RelV p.2 q.2.2
theorem KT.val {H : Hp} {kvs : List (List Key × V)} {xs : List (List Key × Addr × Value)} (r : KT H kvs xs) (k : List Key) : Ym0 (Ync kvs k) ((atKey xs k).map (·.2)) := by
 induction r with
 | nil => exact True.intro
 | @cons p q ps qs h t ih =>
  obtain ⟨h1, _, h2⟩ := h
  show 195
  ·have e' : q.1 = k := h1.symm.trans e
   have b : atKey (q :: qs) k = some q.2 := by simp [atKey, List.find?_cons, e']
   rw [Vu e, b]; exact h2
  ·have e' : ¬ q.1 = k := fun z => e (h1.trans z)
   have b : atKey (q :: qs) k = atKey qs k := by simp [atKey, List.find?_cons, e']
   rw [Vw e, b]; exact ih
theorem KT.repl {H : Hp} {kvs : List (List Key × V)} {xs : List (List Key × Addr × Value)} (r : KT H kvs xs) (k : List Key) {y : V} {u : Value} (ry : RelV y u) :
 KT H (kvs.map fun kv => if kv.1 = k then (kv.1, y) else kv) (xs.map (putAt k u)) := by
 induction r with
 | nil => exact .nil
 | @cons p q ps qs h t ih =>
  rw [ZAV, ZAV]
  refine .cons ?_ ih
  obtain ⟨h1, h2, h3⟩ := h
  unfold putAt
  show 195
  ·rw [ZAE e, ZAE (h1.symm.trans e)]; exact ⟨h1, h2, ry⟩
  ·rw [ZAF e, ZAF (fun z => e (h1.trans z))]; exact ⟨h1, h2, h3⟩
theorem KT.put {H : Hp} {kvs : List (List Key × V)} {xs : List (List Key × Addr × Value)} (r : KT H kvs xs) (k : List Key) {b : Addr} {y : V} {u : Value} (hb : H b = some (.tup (k.map kV))) (ry : RelV y u) :
 KT H (putK kvs k y) (storedH xs k b u) := by
 have e : (kvs.any fun kv => decide (kv.1 = k)) = (atKey xs k).isSome := by
  rw [Yci, (r.val k).isSome_eq, Option.isSome_map]
 unfold putK storedH
 rw [e]
 by_cases q : (atKey xs k).isSome = true
 ·rw [ZAE q, ZAE q]; exact r.repl k ry
 ·rw [ZAF q, ZAF q]; exact Paired.snoc r ⟨rfl, hb, ry⟩
theorem KT.keeps {H H' : Hp} {kvs : List (List Key × V)} {xs : List (List Key × Addr × Value)} (r : KT H kvs xs) (ht : ∀ b ys, H b = some (.tup ys) -> H' b = some (.tup ys)) : KT H' kvs xs :=
 Paired.mapP r fun _ _ z => ⟨z.1, ht _ _ z.2.1, z.2.2⟩
section
variable {P : Program} {w : World} {H : Hp} {h : Heap} {a : Addr}
theorem Yi2 {u : HO} (ok : HOk P w H h) (e : Rd H a u) : Yme P w H h a u := e.ok ok
theorem J4 {kvs : List (Key × V)} (ok : HOk P w H h) (e : Rd H a (.dK kvs)) : kvs.length <= sizeLine /\ (a == sysModules) = false /\ ∃ vs, KV kvs vs /\ h.DictOf (Yl0 P w) a vs :=
 show Yme P w H h a (.dK kvs) from Yi2 ok e
theorem YkQ {kvs : List (Key × V)} (ok : HOk P w H h) (e : H a = some (.dK kvs)) : kvs.length <= sizeLine /\ (a == sysModules) = false /\ ∃ vs, KV kvs vs /\ h.DictOf (Yl0 P w) a vs := J4 ok (.inl e)
theorem JV {ks : List Key} (ok : HOk P w H h) (e : H a = some (.tup (ks.map kV))) : (tupleKind (Yl0 P w)).is h ks a := by
 obtain ⟨_, its, r, o, h1, h2, n, h3⟩ := (show Yme P w H h a (.tup (ks.map kV)) from ok a _ e)
 exact ⟨o, its.toArray, n, h1, h2, h3, by simpa using YaS r⟩
theorem Ybb {kvs : List (List Key × V)} (ok : HOk P w H h) (e : Rd H a (.dT kvs)) : kvs.length <= sizeLine /\ (a == sysModules) = false /\
 ∃ xs, KT H kvs xs /\ h.DictOfH (tupleKind (Yl0 P w)) a xs := by
 obtain ⟨z, y, xs, r, o, es, ep, h1, h2, h3, h4, h5⟩ := (show Yme P w H h a (.dT kvs) from Yi2 ok e)
 refine ⟨z, y, xs, r, o, es, ep, h1, h2, h3, h4, fun x hx => ?_, h5⟩
 have all : ∀ {l : List (List Key × V)} {m : List (List Key × Addr × Value)}, KT H l m -> ∀ x ∈ m, (tupleKind (Yl0 P w)).is h x.1 x.2.1 := by
  intro l m q
  induction q with
  | nil => intro x hx; exact nomatch hx
  | @cons p q ps qs hq t ih =>
   intro x hx
   rcases ZAT.mp hx with e | hx
   ·subst e
    exact JV ok (by rw [<- hq.1]; exact hq.2.1)
   ·exact ih x hx
 exact all r x hx
theorem YkM {kvs : List (List Key × V)} (ok : HOk P w H h) (e : H a = some (.dT kvs)) : kvs.length <= sizeLine /\ (a == sysModules) = false /\
 ∃ xs, KT H kvs xs /\ h.DictOfH (tupleKind (Yl0 P w)) a xs := Ybb ok (.inl e)
end
def YnA (H : Hp) (a : Addr) (y : V) (r : Option V) : Prop :=
 (∃ kvs k, Rd H a (.dK kvs) /\ y = kV k /\ r = Ync kvs k) \/ ∃ kvs k b, Rd H a (.dT kvs) /\ y = .ref b /\ H b = some (.tup (k.map kV)) /\ r = Ync kvs k
def YoJ (H : Hp) (a : Addr) (y v : V) (H' : Hp) : Prop :=
 (∃ kvs k, H a = some (.dK kvs) /\ y = kV k /\ kvs.length < sizeLine /\ H' = upd H a (.dK (putK kvs k v))) \/
 ∃ kvs k b, H a = some (.dT kvs) /\ y = .ref b /\ H b = some (.tup (k.map kV)) /\ kvs.length < sizeLine /\ H' = upd H a (.dT (putK kvs k v))
theorem YnA.k {H : Hp} {a : Addr} {kvs : List (Key × V)} {k : Key} (e : H a = some (.dK kvs)) : YnA H a (kV k) (Ync kvs k) := .inl ⟨kvs, k, .inl e, rfl, rfl⟩
theorem YoJ.k {H : Hp} {a : Addr} {kvs : List (Key × V)} {k : Key} {v : V} (e : H a = some (.dK kvs)) (hl : kvs.length < sizeLine) : YoJ H a (kV k) v (upd H a (.dK (putK kvs k v))) := .inl ⟨kvs, k, e, rfl, hl, rfl⟩
section
variable {X : Cx} {pins : LAO} {σ : St} {H : Hp} {s : Shared} {a : Addr} {y v : V} {u r : Value} {o : Option V} {A : Around} {E : VSP}
theorem Inv.big (I : Inv X pins σ H s) : sysModules < s.heap.objs.size := by
 have h : mainGlobals < s.heap.objs.size := (I.mod.glob.keeps I.bk).lt
 exact Nat.lt_trans (by decide) h
theorem YeE {Q : VSP} (hu : A.units + 1 < cLine) (I : Inv X pins σ H s) (g : YnA H a y (some v)) (ry : RelV y u) (h : ∀ w' s', Inv X pins σ H s' -> RelV v w' -> Q w' s') :
 wpAny (model X.prog X.w) A (getItem (.ref a) u) Q E s := by
 rcases g with ⟨kvs, k, e, ey, l⟩ | ⟨kvs, k, b, e, ey, eb, l⟩
 ·show 84
  obtain ⟨w', hw, rw'⟩ := Ym0.some_of (v := v) (o := valueAt vs k) (by rw [l]; exact rel.val k)
  exact wpAny_getItem_of (Ycw ry) dd.mapOf hw (h w' _ (I.tok _) rw')
 ·show 85
  obtain ⟨z, hd, xs, rel, dd⟩ := Ybb I.hok e
  obtain ⟨w', hw, rw'⟩ := Ym0.some_of (v := v) (o := (atKey xs k).map (·.2)) (by rw [l]; exact rel.val k)
  obtain ⟨p, hp, hp2⟩ := ZCa.mp hw
  refine wpAny_getItem_heap (tupleKind_room_in1 hu) (JV I.hok eb) dd hp ?_
  rw [hp2]
  exact h w' _ (I.tok _) rw'
theorem d_in {Q : VSP} (hu : A.units + 1 < cLine) (I : Inv X pins σ H s) (g : YnA H a y o) (ry : RelV y u) (h : ∀ s', Inv X pins σ H s' -> Q (.bool o.isSome) s') :
 wpAny (model X.prog X.w) A (compareOp .In u (.ref a)) Q E s := by
 rcases g with ⟨kvs, k, e, ey, l⟩ | ⟨kvs, k, b, e, ey, eb, l⟩
 ·show 84
  refine wpAny_in_of (Ycw ry) hd dd.mapOf ?_
  rw [<- (rel.val k).isSome_eq, <- l]
  exact h _ (I.tok _)
 ·show 85
  obtain ⟨z, hd, xs, rel, dd⟩ := Ybb I.hok e
  refine wpAny_in_heap (tupleKind_room_in1 hu) (JV I.hok eb) hd dd ?_
  have q := (rel.val k).isSome_eq
  rw [Option.isSome_map] at q
  rw [<- q, <- l]
  exact h _ (I.tok _)
theorem Yel {h' : Heap} {t' : Nat} {ob : HO} (I : Inv X pins σ H s) (mu : Mut (H a)) (hs : Heap.SameBut a s.heap h') (he : ∃ q, h'.get? a = some q) (new : Yme X.prog X.w (upd H a ob) h' a ob) :
 Inv X pins σ (upd H a ob) { s with heap := h', toks := t' } :=
 I.write (x := a) (e := a) mu (.inl rfl) (fun b q hb z => (hs.2 b hb).trans z) he new
theorem YjL {P : Program} {w : World} {H' : Hp} {h' : Heap} {kvs : List (Key × V)} {vs : List (Key × Value)} (z : kvs.length <= sizeLine) (hd : (a == sysModules) = false) (rel : KV kvs vs) (dd : h'.DictOf (Yl0 P w) a vs) :
 Yme P w H' h' a (.dK kvs) := ⟨z, hd, vs, rel, dd⟩
theorem Yes {H' : Hp} {Q : Unit -> Shared -> Prop} (hu : A.units + 1 < cLine) (I : Inv X pins σ H s) (g : YoJ H a y v H') (ry : RelV y u) (rv : RelV v r) (h : ∀ s', Inv X pins σ H' s' -> Q () s') :
 wpAny (model X.prog X.w) A (setItem (.ref a) u r) Q E s := by
 rcases g with ⟨kvs, k, e, ey, l, eH⟩ | ⟨kvs, k, b, e, ey, eb, l, eH⟩
 ·subst ey eH
  obtain ⟨z, hd, vs, rel, dd⟩ := YkQ I.hok e
  have hz : vs.length <= sizeLine := by rw [<- rel.length]; exact z
  have hl : (putK kvs k v).length <= sizeLine := by have := Jh kvs k v; omega
  refine wpAny_setItem_pairs (hsz := hz) (Ycw ry) dd fun h' dd' hs => h _ ?_
  have he : ∃ q, h'.get? a = some q := let ⟨q, _, _, hq, _⟩ := dd'; ⟨q, hq⟩
  exact Yel I (by rw [e]; exact True.intro) hs he (YjL hl hd (rel.put k rv) dd')
 ·subst ey eH
  show 255
  obtain ⟨z, hd, xs, rel, dd⟩ := YkM I.hok e
  have hz : xs.length <= sizeLine := by rw [<- Paired.length rel]; exact z
  have hl : (putK kvs k v).length <= sizeLine := by have := Jh kvs k v; omega
  refine wpAny_setItem_heap (hsz := hz) (tupleKind_room_in1 hu) (JV I.hok eb) dd fun h' dd' hs => h _ ?_
  obtain ⟨q, es, ep, hq, h2, h3, h4, _, h5⟩ := dd'
  refine Yel I (by rw [e]; exact True.intro) hs ⟨q, hq⟩ ⟨hl, hd, _, (rel.put k eb rv).keeps fun c ys ec => ?_, q, es, ep, hq, h2, h3, h4, h5⟩
  rw [Yi (YkY ec e (fun z => nomatch z))]
  exact ec
end
section
variable {X : Cx} {pins : LAO} {σ : St} {H : Hp} {s : Shared} {a : Addr} {kvs : List (Key × V)} {k : Key} {u : Value} {A : Around} {E : VSP}
theorem YkJ {Q : VSP} (I : Inv X pins σ H s) (e : Rd H a (.dK kvs)) (h : ∀ t s', Inv X pins σ H s' -> Q (.int kvs.length t) s') : wpAny (model X.prog X.w) A (call (.builtin "len") [.ref a]) Q E s := by
 show 258
 refine call_len_dict hd dd (by rw [<- rel.length]; rw [sizeLine_eq] at z; omega) ?_
 rw [<- rel.length]
 exact h _ _ (I.tok _)
end
theorem Ycn {X : Cx} {pins : LAO} {σ : St} {H : Hp} {s : Shared} {a : Addr} {y : V} {o : Option V} (I : Inv X pins σ H s) (g : YnA H a y o) : s.TypeIs (.ref a) "dict" := by
 rcases g with ⟨kvs, k, e, _, _⟩ | ⟨kvs, k, b, e, _, _, _⟩
 ·obtain ⟨_, _, vs, _, dd⟩ := J4 I.hok e
  exact dd.typeIs
 ·obtain ⟨_, _, xs, _, dd⟩ := Ybb I.hok e
  exact dd.typeIs
section
variable {X : Cx} {o i e value : Expr} {pos pos' tpos : Pos} {td ty tv : TE}
end
theorem YgH {P : Program} {w : World} {H : Hp} (h : Heap) (hb : sysModules < h.objs.size) : Yme P w H (h.push { cls := .type "dict", data := .dict #[] }) h.objs.size (.dK []) :=
 ⟨ZBb _, beq_eq_false_iff_ne.mpr (ZBA (ZAP hb)), [], .nil, Heap.DictOf.new h⟩
def Ypf : TE := fun _ H Q => ∀ p, H p = none -> Q (.ref p) (upd H p (.dK []))
section
variable {X : Cx} {pos : Pos}
theorem YgB : PE X (.Dict [] [] pos) Ypf := fun pins s σ H Q I h =>
 wpAny_Dict_empty ⟨.ref s.heap.objs.size, _, I.laid (a := s.heap.objs.size) (o := .dK []) (t' := s.toks) (fun _ _ q => ZAB _ q) (ZAI _) (YgH s.heap I.big), rfl, h _ (I.hok.fresh (ZAI _))⟩
end
structure M1 (X : Cx) (o : Expr) (m : Str) (apos : Pos) (e : Expr) (cpos : Pos) : Prop where
 base : attributeBase o m X.env (eval o X.env) = eval o X.env
 few : ((backTo cpos (starEach [e] X.env)).all (fun x => !x.1) && (backToKw cpos (keywordEach [] X.env)).all (fun x => x.1.isSome)
  && decide (([e] : List Expr).length + ([] : List Keyword).length + (if ([] : List Keyword).isEmpty then 0 else 1) < 30)) = true
 line : (apos.endLine == cpos.line) = true
 trees : backTo cpos (starEach [e] X.env) = [(false, eval e X.env)]
structure M2 (X : Cx) (o : Expr) (m : Str) (apos : Pos) (e f : Expr) (cpos : Pos) : Prop where
 base : attributeBase o m X.env (eval o X.env) = eval o X.env
 few : ((backTo cpos (starEach [e, f] X.env)).all (fun x => !x.1) && (backToKw cpos (keywordEach [] X.env)).all (fun x => x.1.isSome)
  && decide (([e, f] : List Expr).length + ([] : List Keyword).length + (if ([] : List Keyword).isEmpty then 0 else 1) < 30)) = true
 line : (apos.endLine == cpos.line) = true
 trees : backTo cpos (starEach [e, f] X.env) = [(false, eval e X.env), (false, eval f X.env)]
def IsD (H : Hp) (a : Addr) : Prop := (∃ kvs, Rd H a (.dK kvs)) \/ ∃ kvs, Rd H a (.dT kvs)
theorem YjT {X : Cx} {pins : LAO} {σ : St} {H : Hp} {s : Shared} {a : Addr} (I : Inv X pins σ H s) (d : IsD H a) :
 s.TypeIs (.ref a) "dict" /\ (∀ b, Value.ref a = .ref b -> ∃ ob, s.heap.get? b = some ob /\ ob.dict = none) /\ (a == sysModules) = false := by
 rcases d with ⟨kvs, e⟩ | ⟨kvs, e⟩
 ·obtain ⟨_, hd, vs, _, dd⟩ := J4 I.hok e
  refine ⟨dd.typeIs, fun b q => ?_, hd⟩
  cases q
  obtain ⟨ob, _, _, h1, h2, _⟩ := dd
  exact ⟨ob, h1, h2.2.1⟩
 ·obtain ⟨_, hd, xs, _, dd⟩ := Ybb I.hok e
  refine ⟨dd.typeIs, fun b q => ?_, hd⟩
  cases q
  obtain ⟨ob, _, _, h1, h2, _⟩ := dd
  exact ⟨ob, h1, h2.2.1⟩
section
variable {X : Cx} {pins : LAO} {σ : St} {H : Hp} {s : Shared} {a : Addr} {y d : V} {u r : Value} {o : Option V} {A : Around} {E : VSP}
theorem Yjq {Q : VSP} (hu : A.units + 1 < cLine) (I : Inv X pins σ H s) (g : YnA H a y o) (ry : RelV y u) (rd : RelV d r) (h : ∀ w' s', Inv X pins σ H s' -> RelV (o.getD d) w' -> Q w' s') :
 wpAny (model X.prog X.w) A (call (.builtin "dict.get") [.ref a, u, r]) Q E s := by
 rcases g with ⟨kvs, k, e, ey, l⟩ | ⟨kvs, k, b, e, ey, eb, l⟩
 ·show 84
  refine call_meetsIn PySem.F.slot_dict_get dd.typeIs PySem.F.entry_dict_get (PySem.F.args_dict_get_3 _ _ _) (meets_dict_get_default (Yl0 X.prog X.w) a (Ycw ry) hd r) ⟨_, dd.mapOf, h _ _ (I.tok _) ?_⟩
  rw [l]
  exact (rel.val k).getD rd
 ·show 85
  obtain ⟨z, hd, xs, rel, dd⟩ := Ybb I.hok e
  refine call_meetsIn PySem.F.slot_dict_get dd.typeIs PySem.F.entry_dict_get (PySem.F.args_dict_get_3 _ _ _) (meetsH_dict_get_default (tupleKind (Yl0 X.prog X.w)) a b hd r) ⟨tupleKind_room_in1 hu, k, xs, JV I.hok eb, dd, h _ _ (I.tok _) ?_⟩
  rw [l]
  exact (rel.val k).getD rd
end
def Ypa (td ty tx : TE) : TE := fun σ H Q => td σ H fun x H1 => ∃ a, x = .ref a /\ IsD H1 a /\ ty σ H1 fun y H2 => tx σ H2 fun z H3 => ∃ o, YnA H3 a y o /\ Q (o.getD z) H3
section
variable {X : Cx} {o e f : Expr} {apos cpos : Pos} {td ty tx : TE}
theorem YhK (hu : X.A.units + 1 < cLine) (ho : PE X o td) (he : PE X e ty) (hf : PE X f tx) (m : M2 X o "get" apos e f cpos) : PE X (.Call (.Attribute o "get" apos) [e, f] [] cpos) (Ypa td ty tx) := by
 show 154
 refine wpAny_Call_method m.base m.few m.line PySem.F.plainAttrs_dict PySem.F.slot_dict_get PySem.F.type_dict_get (thn (ho pins s σ H _ I h) fun u s1 ⟨x, H1, I1, rx, a, ex, d, q1⟩ => ?_)
 subst ex
 obtain rfl : u = Value.ref a := rx
 obtain ⟨t1, t2, _⟩ := YjT I1 d
 refine ⟨t1, t2, ?_⟩
 rw [m.trees]
 refine Calls.callWith_builtin rfl (Calls.evalArgs_plain (Calls.spliced_cons (thn (he pins s1 σ H1 _ I1 q1) fun iv s2 ⟨y, H2, I2, ry, q2⟩ =>
  Calls.spliced_cons (thn (hf pins s2 σ H2 _ I2 q2) fun fv s3 ⟨z, H3, I3, rz, ov, g, q3⟩ => Calls.spliced_nil ?_))))
 exact Yjq hu I3 g ry rz fun w' s4 I4 rw' => ⟨_, H3, I4, rw', q3⟩
end
section
variable {X : Cx} {pins : LAO} {σ : St} {H : Hp} {s : Shared} {a : Addr} {kvs : List (Key × V)} {A : Around} {E : VSP}
end
section
variable {X : Cx} {pins : LAO} {σ : St} {H : Hp} {s : Shared} {a : Addr} {y : V} {u : Value} {A : Around} {E : VSP}
end
end L2
namespace Att
open PySem PySem.W PySem.Calls PyProof.Rows
theorem Js {P : Params} {h : Heap} : ∀ (ns : List Int) (vs : List Value), WellAll P h vs (ns.map WData.int) -> IntsAre vs ns := by
 intro ns
 induction ns with
 | nil =>
  intro vs w
  rw [ZB6] at w
  cases w
  exact .nil
 | cons n ns ih =>
  intro vs w
  rw [ZAV] at w
  cases w with
  | cons a b =>
   cases a
   exact .cons _ _ (ih _ b)
theorem YeC {l : OpenLaw} {n : Nat} (hn : l.most = some n) {P : Params} {h : Heap} {args : List WData} {vals : List Value}
 (hpre : l.row.toRowW.claim.pre args = true) (hwl : WellAll P h vals args) :
 ∃ a vs ns, vals = [Value.ref a] /\ args = [WData.list (ns.map WData.int)] /\ h.get? a = some { cls := .type "list", data := .seq vs.toArray } /\ IntsAre vs ns /\ ns.length <= n := by
 have hsh : WShape.hasAll [] args [.list .int] = true := (pre_splitW hpre).1
 have hc : l.pre.holds [] { args := args } = true := (pre_splitW hpre).2
 obtain ⟨d, r, rfl, h1, h2⟩ := hasAllW_cons hsh
 obtain rfl := hasAllW_nil h2
 obtain ⟨xs, rfl, h3⟩ := hasW_list h1
 obtain ⟨ns, rfl⟩ := items_int h3
 have hlen : ns.length <= n := by
  unfold OpenLaw.pre at hc
  have h4 : (WTm.not (.lt (.lit (.int (n : Int))) (.len (.arg 0)))).holds [] { args := [.list (ns.map .int)] } = true := by
   have h4 := (holds_andW hc).1
   rw [hn] at h4
   exact h4
  have h5 := condW_of h4 (w_not (w_lt w_lit (w_len_list (w_arg rfl))))
  rw [ZAH] at h5
  refine Nat.le_of_not_lt fun q => ?_
  have q' : (n : Int) < ((ns.length : Nat) : Int) := by omega
  first
   | (rw [ZAR q'] at h5; exact absurd h5 (by decide))
   | (simp at h5; omega)
 cases hwl with
 | cons w1 w2 =>
  cases w2
  cases w1 with
  | list ho hall => exact ⟨_, _, ns, rfl, rfl, ho, Js ns _ hall, hlen⟩
theorem Yfi (l : OpenLaw) (args : List WData) : l.row.toRowW.claim.post args (.bool true) args = true :=
 postW_of (r := l.row.toRowW) (X := (true == true))
  (show WShape.has [] (.bool true) .bool = true by first | rfl | decide | simp [WShape.has, WShape.arms, WShape.armsAll])
  (show (WTm.eq .res (.lit (.bool true))).value [] { args := args, res := some (.bool true), after := args } = some (.bool (true == true)) from w_eq_bool (w_res rfl) w_lit) rfl
theorem attach_call {l : OpenLaw} {n : Nat} {q : Program} {loose : List Str} {XP : (Str -> Option Value) -> Heap -> Prop} {YP : World -> Heap -> Prop} {d : DefRec}
 (hn : l.most = some n) (hdf : d.params.defaults = [])
 (call : ∀ (w : World) (s₀ s₁ : Shared) (mg mb : SOV) (fa : Addr) (o : Obj) (pm cd doc : Value) (a : Addr) (vs : List Value) (ns : List Int),
  Ground q loose [] XP w s₀ mg mb s₁.heap -> YP w s₁.heap ->
  s₁.heap.get? fa = some o -> o.data = .func (docDef d.name d.params d.body d.scope pm cd doc) -> s₁.heap.CodeRec cd d.name -> mg d.name = some (.ref fa) ->
  s₁.heap.get? a = some { cls := .type "list", data := .seq vs.toArray } -> IntsAre vs ns -> ns.length <= n -> s₁.gens = #[] ->
  codeAny (model l.prog w) callerA (.call (.ref fa) ⟨[.ref a], []⟩) (fun r s' => r = .ok (.ret (.bool true)) /\ OldK s₁.heap s'.heap /\ s'.os = s₁.os /\ AllBare s'.gens) s₁) :
 WalkO q loose XP YP l.row.toRowW d [] (fun f vs => PySem.call f vs) := by
 intro w s₀ s₁ mg mb G Y fa o pm cd doc dV kV ho hd hcd hD hmg hg args vals as hpre hlay hrd hwl hlo
 obtain rfl : dV = .none := Dflts.none hD hdf
 obtain rfl : kV = .none := Dflts.noKw hD
 obtain ⟨a, vs, ns, rfl, rfl, hobj, hints, hlen⟩ := YeC hn hpre hwl
 refine enter_call (codeAny_mono (call w s₀ s₁ mg mb fa o pm cd doc a vs ns G Y ho (fd_plain hd) hcd hmg hobj hints hlen hg) fun r s' hq => ?_)
 obtain ⟨rfl, h2, h3, h4⟩ := hq
 exact ⟨.inl ⟨.bool true, .bool true, [], rfl, fun _ => rfl, .bool true, Yfi l _, fun _ => ⟨List.Pairwise.nil, fun _ hm => (nomatch hm)⟩⟩, h2, h3, h4⟩
section
variable {prog : Program} {w : World} {A : Around} {E : VSP} {s : Shared} {K : Frag}
def ledger (h : Heap) (L d : Addr) : List (Addr × Obj) := (List.range h.objs.size).filterMap fun a => if a = L \/ a = d then none else (h.get? a).map fun o => (a, o)
end
end Att
namespace L2
open PySem PySem.Spec PyProof.Rows
theorem Ybp : ∀ {vs : List Value} {ns : List Int}, IntsAre vs ns -> Vals (ns.map V.int) vs
 | _, _, .nil => .nil
 | _, _, .cons n t h => .cons ⟨t, rfl⟩ (Ybp h)
def Only (H : Hp) : Prop := ∀ b, H b = none \/ ∃ o xs, H b = some (.frz o (.lst xs))
theorem YgY {P : Program} {w : World} {K : Frag} {mg mb : SOV} {CX : CXT} {k : Nat} {fa a : Addr} {fd : FuncData} {x : Str} {sp : Sp} {s₁ : Shared} {vs : List Value} {ns : List Int}
 (KX : K.In s₁.heap) (hns : s₁.heap.Ns mainGlobals mg) (hb : s₁.heap.Ns builtinsNs mb) (hbb : ∀ x : Str, x ≠ "__name__" -> mb x = bootBuiltins x) (hlim : s₁.heap.NoLimit) (hg : s₁.gens = #[])
 (ha : s₁.heap.get? a = some { cls := .type "list", data := .seq vs.toArray }) (hi : IntsAre vs ns) (hl : ns.length <= sizeLine) (hr : Ymb k callerA)
 (F : ∀ base : Heap, K.In base -> base.Ns mainGlobals mg -> Ynb P w K mg base CX k fa fd [x] sp) (hbind : ∀ (s : Shared) (u : Value), BindsTo s fd ⟨[u], []⟩ [(x, u)])
 (hsp : ∀ H : Hp, Only H -> SqL K H a (ns.map V.int) -> sp [.ref a] H (fun v _ => v = .bl true) fun _ _ _ => False)
 (hCX : ∀ H e s', CX [] H s₁ (fun _ _ _ => False) e s' -> False) :
 codeAny (model P w) callerA (.call (.ref fa) ⟨[.ref a], []⟩) (fun r s' => r = .ok (.ret (.bool true)) /\ OldK s₁.heap s'.heap /\ s'.os = s₁.os /\ AllBare s'.gens) s₁ := by
 have rv := Ybp hi
 have lenV := hi.length
 have core : ∀ H : Hp, Only H -> SqL K H a (ns.map V.int) -> HOk P w H s₁.heap -> (∀ b, H b ≠ none -> b = a) -> (H a ≠ none -> K.lookup a = none) ->
  codeAny (model P w) callerA (.call (.ref fa) ⟨[.ref a], []⟩) (fun r s' => r = .ok (.ret (.bool true)) /\ OldK s₁.heap s'.heap /\ s'.os = s₁.os /\ AllBare s'.gens) s₁ := by
  intro H hO hS hok hA hK
  have base_of : ∀ {b : Addr} {o : Obj}, s₁.heap.get? b = some o -> H b = none -> (YnN s₁.heap H).get? b = some o := fun e n => Yhm e n
  have noA : ∀ {b : Addr} {o : Obj} {es : Array DictEntry} {ep : Nat}, s₁.heap.get? b = some o -> o.data = .dict es ep -> H b = none := fun {b o es ep} e d => by
   cases q : H b with
   | none => rfl
   | some u =>
    have e' : b = a := hA b (by rw [q]; simp)
    subst e'
    rw [ha] at e; cases e
    have d' : Data.seq vs.toArray _ = Data.dict es ep := d
    cases d'
  have nsK : ∀ {b : Addr} {m : SOV}, s₁.heap.Ns b m -> (YnN s₁.heap H).Ns b m := fun {b m} ⟨o, es, ep, e, d, r⟩ => ⟨o, es, ep, base_of e (noA e d), d, r⟩
  have hKb : K.In (YnN s₁.heap H) := fun b o e => base_of (KX b o e) (by
   cases q : H b with
   | none => rfl
   | some u =>
    have e' : b = a := hA b (by rw [q]; simp)
    subst e'
    rw [hK (by rw [q]; simp)] at e; cases e)
  have hM : Mod K mg (YnN s₁.heap H) := ⟨hKb, nsK hns, ⟨mb, nsK hb, hbb⟩, let ⟨mc, h1, h2⟩ := hlim; ⟨mc, nsK h1, h2⟩⟩
  have e0 : Yng P w K mg (YnN s₁.heap H) callerA [] s₁ H := ⟨rfl, hM, fun b o e => YhY e, Nat.le_of_eq (YfA _ _), trivial, fun b hb => absurd (show b ∈ ([] : List Addr) from hb) (by simp), hok, .of_eq hg⟩
  refine codeAny_mono ((F _ hKb (nsK hns)).run callerA [] s₁ H ⟨[.ref a], []⟩ [.ref a] [.ref a] _ _ hr e0 (hbind s₁ (.ref a)) (.cons rfl .nil) (hsp H hO hS)) fun r s' h => ?_
  cases r with
  | error e => exact (hCX H e s' h).elim
  | ok fl =>
   cases fl with
   | next => exact False.elim h
   | brk => exact False.elim h
   | cont => exact False.elim h
   | ret u =>
    obtain ⟨v, H', os, bare, un, hok', r', q⟩ := h
    have q' : v = .bl true := q
    subst q'
    obtain rfl : u = Value.bool true := r'
    refine ⟨rfl, OldK.of_keep fun b o e => ?_, os, bare⟩
    cases q : H b with
    | none => exact un.keep b o e q (by intro z; exact absurd (show b ∈ ([] : List Addr) from z) (by simp)) (by simp)
    | some u =>
     rcases hO b with z | ⟨ob, xs, z⟩
     ·rw [q] at z; cases z
     ·have z2 := un.frzs b ob _ z
      obtain ⟨e1, _⟩ := hok b _ z
      obtain ⟨e2, _⟩ := hok' b _ z2
      rw [e] at e1; cases e1
      exact e2
 cases hk : K.lookup a with
 | some o =>
  have e := KX a o hk
  rw [ha] at e
  cases e
  refine core (fun _ => none) (fun _ => .inl rfl) (.inr ⟨_, vs.toArray, _, hk, rfl, rfl, rfl, by rw [List.size_toArray, lenV]; exact hl, by simpa using rv⟩) (fun b u z => by have z' : (none : Option HO) = some u := z; cases z') (fun b z => absurd rfl z) fun z => absurd rfl z
 | none =>
  refine core (fun b => if b = a then some (.frz { cls := .type "list", data := .seq vs.toArray } (.lst (ns.map V.int))) else none) (fun b => ?_) (.inl (.inr ⟨{ cls := .type "list", data := .seq vs.toArray }, ZAE rfl⟩)) (fun b u z => ?_) (fun b z => ?_) fun _ => hk
  ·show 192
   ·exact .inr ⟨_, _, ZAE hb⟩
   ·exact .inl (ZAF hb)
  ·show 192
   ·have z' := (ZAE hb).symm.trans z
    cases z'
    subst hb
    exact ⟨ha, by rw [ZAH]; exact hl, vs, _, rv, ha⟩
   ·have z' := (ZAF hb).symm.trans z
    cases z'
  ·show 192
   ·exact hb
   ·exact absurd (ZAF hb) z
end L2
namespace L2
open PySem PySem.Spec PyProof.Rows
theorem walk_of {l : PySem.W.OpenLaw} {n k : Nat} {q : Program} {loose : List Str} {XP : (Str -> Option Value) -> Heap -> Prop} {YP : World -> Heap -> Prop} {d : DefRec} {K : Params -> Frag} {CX : World -> CXT} {sp : World -> Sp} {x : Str}
 (hn : l.most = some n) (hn2 : n <= sizeLine) (hdf : d.params.defaults = []) (hr : Ymb k callerA)
 (hY : ∀ (w : World) (h : Heap), YP w h -> (K w.params).In h)
 (F : ∀ (w : World) (mg : SOV) (fa : Addr) (h : Heap), (K w.params).In h -> h.Ns mainGlobals mg -> mg d.name = some (.ref fa) ->
  ∃ fd : FuncData, (∀ (s : Shared) (u : Value), BindsTo s fd ⟨[u], []⟩ [(x, u)]) /\
   ∀ base : Heap, (K w.params).In base -> base.Ns mainGlobals mg -> Ynb l.prog w (K w.params) mg base (CX w) k fa fd [x] (sp w))
 (hsp : ∀ (w : World) (H : Hp) (a : Addr) (ns : List Int), ns.length <= n -> Only H -> SqL (K w.params) H a (ns.map V.int) -> sp w [.ref a] H (fun v _ => v = .bl true) fun _ _ _ => False)
 (hCX : ∀ (w : World) (H : Hp) (s : Shared) (e : Value) (s' : Shared), CX w [] H s (fun _ _ _ => False) e s' -> False) :
 PySem.W.WalkO q loose XP YP l.row.toRowW d [] (fun f vs => PySem.call f vs) := by
 refine Att.attach_call hn hdf fun w s₀ s₁ mg mb fa o pm cd doc a vs ns G Y ho hd hcd hmg hobj hints hlen hg => ?_
 have KX := hY w _ Y
 obtain ⟨fd, hb, hF⟩ := F w mg fa _ KX G.T.g hmg
 exact YgY KX G.T.g G.T.b G.T.builtins G.T.nolimit hg hobj hints (ZAO hlen hn2) hr hF hb (fun H hO hS => hsp w H a ns hlen hO hS) fun H e s' => hCX w H s₁ e s'
end L2
namespace L2
open PySem PySem.Spec PyProof.Rows
def YlH (s : Stmt) : Arguments := match s with
 | .FunctionDef _ a _ _ _ _ _ _ _ _ => a
 | _ => { posonlyargs := [], args := [], vararg := none, kwonlyargs := [], kw_defaults := [], kwarg := none, defaults := [] }
def YlE (s : Stmt) : List Stmt := match s with
 | .FunctionDef _ _ b _ _ _ _ _ _ _ => b
 | _ => []
def Ylx (s : Stmt) : Scope := match s with
 | .FunctionDef _ _ _ _ _ _ sc _ _ _ => sc
 | _ => { kind := .function, names := [], isGenerator := false, isCoroutine := false }
abbrev CX0 : CXT := fun _ _ _ _ _ _ => False
abbrev E0 : XK := fun _ _ _ => False
theorem pass0 {X : Cx} : Yok CX0 X E0 := fun _ _ _ _ _ _ _ h => h.elim
structure Fun (K : Frag) (x qual : Str) (st : Stmt) (f : Addr) (fd : FuncData) : Prop where
 ex : ∃ (oc : Value) (od : Option Addr) (kV doc pm : Value) (an : Option Addr) (cdv ct : Value) (osl : Array (Option Value)),
  fd = fnOf x qual (YlH st) (YlE st) (Ylx st) .none kV doc pm an cdv ct /\ K.lookup f = some ⟨oc, od, .func fd, osl⟩ /\ PySem.W.codeIn K cdv qual = true
 kp : PySem.W.keepIn K (.ref f) = true
section
variable {P : Program} {w : World} {K : Frag} {mg : SOV} {base : Heap}
theorem Fun.ok {x qual : Str} {st : Stmt} {f : Addr} {fd : FuncData} {N ps : List Str} {k : Nat} {sp : Sp} (F : Fun K x qual st f fd) (S : YlI N ps (Ylx st)) (len : ∀ vs H Q E, sp vs H Q E -> vs.length = ps.length)
 (hbody : ∀ (cdv : Value) (A : Around) (outer : List Env) (s : Shared) (H : Hp) (vs : List V) (Q : VK) (E : XK), Ymb k (A.deeper (envOfC qual (Ylx st) s.heap.objs.size f cdv)) -> sp vs H Q E ->
  ∃ t, PSs (cxOf CX0 P w K mg base N qual (Ylx st) f cdv A outer s H E).nox (YlE st) t /\ t { nx := fun _ H' => Q .non H', rt := Q } (start N vs) H) : Ynb P w K mg base CX0 (k + 1) f fd ps sp := by
 show 212
 refine YiT lk hcd S len fun A outer s H vs Q E hr hsp => ?_
 obtain ⟨t, h, q⟩ := hbody cdv A outer s H vs Q E hr hsp
 exact ⟨t, h.nox, q⟩
theorem Fun.binds {x qual : Str} {st : Stmt} {f : Addr} {fd : FuncData} {ps : List Str} (F : Fun K x qual st f fd)
 (h : ∀ (kV doc pm : Value) (an : Option Addr) (cdv ct : Value) (us : List Value), us.length = ps.length -> bindArgs (fnOf x qual (YlH st) (YlE st) (Ylx st) .none kV doc pm an cdv ct) ⟨us, []⟩ = pure (ps.zip us)) : Binds K fd ps [] := by
 show 212
 exact .all (h kV doc pm an cdv ct)
theorem Yap {x qual : Str} {st : Stmt} {f : Addr} {oc : Value} {od an : Option Addr} {osl : Array (Option Value)} {kV doc pm cdv ct : Value} (l : K.lookup f = some ⟨oc, od, .func (fnOf x qual (YlH st) (YlE st) (Ylx st) .none kV doc pm an cdv ct), osl⟩)
 (c : PySem.W.codeIn K cdv qual = true) (k : PySem.W.keepIn K (.ref f) = true) : Fun K x qual st f (fnOf x qual (YlH st) (YlE st) (Ylx st) .none kV doc pm an cdv ct) := ⟨⟨oc, od, kV, doc, pm, an, cdv, ct, osl, rfl, l, c⟩, k⟩
end
theorem YZ {A : Around} {k : Nat} (hr : Ymb k A) : A.units + 1 < cLine := ZBt (ZCB (by decide : 1 <= 64) _) hr.units
section
variable {X : Cx}
theorem pv (i : Nat) {x : Str} {pos : Pos} (hN : X.N[i]? = some x := by rfl) (hv : Vis X.env.scope x := by first | exact Or.inl rfl | exact Or.inr (Or.inl rfl) | exact Or.inr (Or.inr rfl)) (hd : (x == ("__debug__" : Str)) = false := by decide)
 (hcd : (x == ("__classdict__" : Str)) = false := by decide) : PE X (.Name x pos) (Yo8 i) := VW hN hv hd hcd
end
def Yoa (H H' : Hp) : Prop := ∀ b o, H b = some o -> H' b = some o
theorem Yoa.refl (H : Hp) : Yoa H H := fun _ _ h => h
theorem Yoa.trans {H H1 H2 : Hp} (a : Yoa H H1) (b : Yoa H1 H2) : Yoa H H2 := fun c o h => b c o (a c o h)
theorem Yoa.free {H H' : Hp} (e : Yoa H H') {l : Addr} (h : H' l = Option.none) : H l = Option.none := by
 cases q : H l with
 | none => rfl
 | some o =>
  rw [e l o q] at h
  cases h
end L2
namespace L2
open PySem PySem.Spec PyProof.Rows
section
variable {X : Cx}
theorem YfC : Ymw X (.builtin "len") (fun xs H Q => ∃ a kvs, xs = [V.ref a] /\ H a = some (.dK kvs) /\ Q (.int kvs.length) H) := by
 show 217
 obtain ⟨a, kvs, rfl, ha, q⟩ := h
 obtain ⟨u, rfl, ru⟩ := vals1 r
 cases ru
 exact YkJ I (.inl ha) fun t s' I' => ⟨.int kvs.length, H, I', ⟨t, rfl⟩, q⟩
end
section
variable {κ : Type} [DecidableEq κ]
end
end L2
namespace Mi
open PySem PySem.Spec L2
open PyProof.Rows hiding St
inductive P where
 | non | bl (b : Bool) | int (i : Int) | str (x : Str) | tup (xs : List P) | ref (k : Nat)
inductive O where
 | lst (xs : List P) | ro (xs : List P) | dct (kvs : List (Key × P)) | exc (c : Str) (fs : List (Str × P)) | dtt (kvs : List (List Key × P)) | fdc (kvs : List (Key × P))
abbrev YlA := List O
abbrev Rho := List (Option P)
mutual
inductive Den (K : Frag) (as : List Addr) (H : Hp) : V -> P -> Prop where
 | non : Den K as H .non .non
 | bl {b} : Den K as H (.bl b) (.bl b)
 | int {i} : Den K as H (.int i) (.int i)
 | str {x} : Den K as H (.str x) (.str x)
 | ref {k a} : as[k]? = some a -> Den K as H (.ref a) (.ref k)
 | tup {a vs ps} (sq : SqT K H a vs) (ds : Dens K as H vs ps) (tk : H a = some (.tup vs) := by first | assumption | exact Ym) : Den K as H (.ref a) (.tup ps)
inductive Dens (K : Frag) (as : List Addr) (H : Hp) : List V -> List P -> Prop where
 | nil : Dens K as H [] []
 | cons {v p vs ps} : Den K as H v p -> Dens K as H vs ps -> Dens K as H (v :: vs) (p :: ps)
end
def Mu : HO -> Prop
 | .lst _ => True
 | .dK _ => True
 | .dT _ => True
 | _ => False
structure Ext (as : List Addr) (H : Hp) (as' : List Addr) (H' : Hp) : Prop where
 pre : ∀ (k : Nat) a, as[k]? = some a -> as'[k]? = some a
 keep : ∀ b u, H b = some u -> ¬ Mu u -> H' b = some u
theorem Ext.refl {as : List Addr} {H : Hp} : Ext as H as H := ⟨fun _ _ e => e, fun _ _ e _ => e⟩
theorem Ext.trans {as as1 as2 : List Addr} {H H1 H2 : Hp} (a : Ext as H as1 H1) (b : Ext as1 H1 as2 H2) : Ext as H as2 H2 :=
 ⟨fun k x e => b.pre k x (a.pre k x e), fun c u e m => b.keep c u (a.keep c u e m) m⟩
theorem SqT.ext {K : Frag} {as as' : List Addr} {H H' : Hp} {a : Addr} {vs : List V} (x : Ext as H as' H') (h : SqT K H a vs) : SqT K H' a vs := by
 rcases h with (h | ⟨o, h⟩) | h
 ·exact .inl (.inl (x.keep _ _ h fun z => z))
 ·exact .inl (.inr ⟨o, x.keep _ _ h fun z => z⟩)
 ·exact .inr h
mutual
theorem Den.ext {K : Frag} {as as' : List Addr} {H H' : Hp} {v : V} {p : P} (x : Ext as H as' H') (h : Den K as H v p) : Den K as' H' v p :=
 match h with
 | .non => .non
 | .bl => .bl
 | .int => .int
 | .str => .str
 | .ref e => .ref (x.pre _ _ e)
 | .tup e r t => .tup (SqT.ext x e) (Dens.ext x r) (x.keep _ _ t fun z => z)
theorem Dens.ext {K : Frag} {as as' : List Addr} {H H' : Hp} {vs : List V} {ps : List P} (x : Ext as H as' H') (h : Dens K as H vs ps) : Dens K as' H' vs ps :=
 match h with
 | .nil => .nil
 | .cons a r => .cons (Den.ext x a) (Dens.ext x r)
end
section
variable {K : Frag} {as : List Addr} {H : Hp}
theorem Dens.length : ∀ {vs : List V} {ps : List P}, Dens K as H vs ps -> vs.length = ps.length
 | _, _, .nil => rfl
 | _, _, .cons _ r => by simp [Dens.length r]
theorem Dens.get : ∀ {vs : List V} {ps : List P} {i : Nat} {p : P}, Dens K as H vs ps -> ps[i]? = some p -> ∃ v, vs[i]? = some v /\ Den K as H v p
 | _, _, _, _, .nil, e => by simp at e
 | _, _, 0, _, .cons a _, e => by simp at e; subst e; exact ⟨_, rfl, a⟩
 | _, _, i + 1, _, .cons _ r, e => by
  obtain ⟨v, h1, h2⟩ := Dens.get (i := i) r (by simpa using e)
  exact ⟨v, by simpa using h1, h2⟩
theorem Dens.append : ∀ {vs ws : List V} {ps qs : List P}, Dens K as H vs ps -> Dens K as H ws qs -> Dens K as H (vs ++ ws) (ps ++ qs)
 | _, _, _, _, .nil, s => s
 | _, _, _, _, .cons a r, s => .cons a (Dens.append r s)
theorem Dens.set {v : V} {p : P} (d : Den K as H v p) : ∀ {vs : List V} {ps : List P} (i : Nat), Dens K as H vs ps -> Dens K as H (vs.set i v) (ps.set i p)
 | _, _, _, .nil => .nil
 | _, _, 0, .cons _ t => .cons d t
 | _, _, i + 1, .cons q t => .cons q (Dens.set d i t)
theorem Dens.take : ∀ {vs : List V} {ps : List P} (n : Nat), Dens K as H vs ps -> Dens K as H (vs.take n) (ps.take n)
 | _, _, 0, _ => .nil
 | _, _, _ + 1, .nil => .nil
 | _, _, n + 1, .cons r t => .cons r (Dens.take n t)
theorem Dens.drop : ∀ {vs : List V} {ps : List P} (n : Nat), Dens K as H vs ps -> Dens K as H (vs.drop n) (ps.drop n)
 | _, _, 0, r => r
 | _, _, _ + 1, .nil => .nil
 | _, _, n + 1, .cons _ t => Dens.drop n t
theorem Dens.reverse : ∀ {vs : List V} {ps : List P}, Dens K as H vs ps -> Dens K as H vs.reverse ps.reverse
 | _, _, .nil => .nil
 | _, _, .cons r t => by rw [ZB1, ZB1]; exact (Dens.reverse t).append (.cons r .nil)
end
def Yoy (a : Addr) (C : Value) (od : Option Addr) (h : Heap) : Prop := ∃ o vs, h.get? a = some o /\ o.cls = C /\ o.dict = od /\ o.data = .fields vs
def Yoh (K : Frag) (as : List Addr) (H : Hp) (od : Option Addr) (fs : List (Str × P)) : Prop :=
 (od = none /\ fs = []) \/ ∃ d ws, od = some d /\ H d = some (.xd ws) /\ ws.map (·.1) = fs.map (·.1) /\ Dens K as H (ws.map (·.2)) (fs.map (·.2))
theorem Yoh.ext {K : Frag} {as as' : List Addr} {H H' : Hp} {od : Option Addr} {fs : List (Str × P)} (x : Ext as H as' H') (h : Yoh K as H od fs) : Yoh K as' H' od fs := by
 rcases h with h | ⟨d, ws, h4, h5, h6, h7⟩
 ·exact .inl h
 ·exact .inr ⟨d, ws, h4, x.keep _ _ h5 fun z => z, h6, h7.ext x⟩
def Yog (K : Frag) (as : List Addr) (H : Hp) (a : Addr) : O -> Prop
 | .lst xs => ∃ vs, H a = some (.lst vs) /\ Dens K as H vs xs
 | .ro xs => ∃ vs, ((∃ o, H a = some (.frz o (.lst vs))) \/ ∃ (o : Obj) (its : Array Value) (n : Nat), K.lookup a = some o /\ o.cls = .type "list" /\ o.dict = none /\ o.data = .seq its n /\ its.size <= sizeLine /\ Vals vs its.toList) /\ Dens K as H vs xs
 | .dct kvs => ∃ ws, H a = some (.dK ws) /\ ws.map (·.1) = kvs.map (·.1) /\ Dens K as H (ws.map (·.2)) (kvs.map (·.2))
 | .exc c fs => ∃ C od, nsIn K mainGlobals c = some (some (.ref C)) /\ H a = some (.ext (Yoy a (.ref C) od)) /\ Yoh K as H od fs
 | .dtt kvs => ∃ ws, H a = some (.dT ws) /\ ws.map (·.1) = kvs.map (·.1) /\ Dens K as H (ws.map (·.2)) (kvs.map (·.2))
 | .fdc kvs => ∃ o ws, H a = some (.frz o (.dK ws)) /\ ws.map (·.1) = kvs.map (·.1) /\ Dens K as H (ws.map (·.2)) (kvs.map (·.2))
def Ynu : Option O -> Prop
 | some (.ro _) => True
 | _ => False
structure Rep (K : Frag) (as : List Addr) (st : YlA) (H : Hp) : Prop where
 len : as.length = st.length
 nd : ∀ (i j : Nat) a, as[i]? = some a -> as[j]? = some a -> ¬ Ynu st[i]? -> ¬ Ynu st[j]? -> i = j
 ob : ∀ (k : Nat) a o, as[k]? = some a -> st[k]? = some o -> Yog K as H a o
section
variable {K : Frag} {as as' : List Addr} {H H' : Hp} {st : YlA}
theorem Yog.ext {a : Addr} {o : O} (x : Ext as H as' H') (hm : ∀ u, H a = some u -> H' a = some u) (h : Yog K as H a o) : Yog K as' H' a o := by
 cases o with
 | lst xs => obtain ⟨vs, h1, h2⟩ := h; exact ⟨vs, hm _ h1, h2.ext x⟩
 | ro xs =>
  obtain ⟨vs, h1, h2⟩ := h
  refine ⟨vs, ?_, h2.ext x⟩
  rcases h1 with ⟨o, h1⟩ | h1
  ·exact .inl ⟨o, hm _ h1⟩
  ·exact .inr h1
 | dct kvs => obtain ⟨ws, h1, h2, h3⟩ := h; exact ⟨ws, hm _ h1, h2, h3.ext x⟩
 | exc c fs =>
  obtain ⟨C, od, h1, h2, h3⟩ := h
  exact ⟨C, od, h1, hm _ h2, h3.ext x⟩
 | dtt kvs => obtain ⟨ws, h1, h2, h3⟩ := h; exact ⟨ws, hm _ h1, h2, h3.ext x⟩
 | fdc kvs => obtain ⟨o, ws, h1, h2, h3⟩ := h; exact ⟨o, ws, hm _ h1, h2, h3.ext x⟩
theorem Rep.tracked (r : Rep K as st H) {k : Nat} {a : Addr} (e : as[k]? = some a) (n : ¬ Ynu st[k]?) : ∃ u, H a = some u := by
 have hk : k < st.length := by rw [<- r.len]; exact (ZAL.mp e).1
 have q : st[k]? = some st[k] := by simp [hk]
 have h := r.ob k a _ e q
 rw [q] at n
 cases w : st[k] with
 | lst xs => rw [w] at h; obtain ⟨vs, h1, _⟩ := h; exact ⟨_, h1⟩
 | ro xs => rw [w] at n; exact absurd trivial n
 | dct kvs => rw [w] at h; obtain ⟨vs, h1, _⟩ := h; exact ⟨_, h1⟩
 | exc c fs => rw [w] at h; obtain ⟨C, od, _, h2, _⟩ := h; exact ⟨_, h2⟩
 | dtt kvs => rw [w] at h; obtain ⟨vs, h1, _⟩ := h; exact ⟨_, h1⟩
 | fdc kvs => rw [w] at h; obtain ⟨o, vs, h1, _⟩ := h; exact ⟨_, h1⟩
theorem Ext.new {p : Addr} {u : HO} (hp : H p = none) : Ext as H (as ++ [p]) (upd H p u) where
 pre := fun k a e => by rw [ZAl (ZAL.mp e).1]; exact e
 keep := fun b w e _ => by rw [Yi (Yg e hp)]; exact e
theorem Ext.laid {p : Addr} {u : HO} (hp : H p = none) : Ext as H as (upd H p u) where
 pre := fun k a e => e
 keep := fun b w e _ => by rw [Yi (Yg e hp)]; exact e
theorem Rep.laid {p : Addr} {u : HO} (r : Rep K as st H) (hp : H p = none) : Rep K as st (upd H p u) :=
 ⟨r.len, r.nd, fun k a o e q => (r.ob k a o e q).ext (Ext.laid hp) fun w z => by rw [Yi (Yg z hp)]; exact z⟩
def YnK (as : List Addr) (st : YlA) (l : Addr) : Prop := ∀ i : Nat, as[i]? = some l -> Ynu st[i]?
theorem Rep.fresh {p : Addr} (r : Rep K as st H) (hp : H p = none) : YnK as st p := fun i e => by
 by_cases h : Ynu st[i]?
 ·exact h
 ·obtain ⟨u, hu⟩ := r.tracked e h
  rw [hp] at hu; cases hu
theorem Ext.add {p : Addr} : Ext as H (as ++ [p]) H where
 pre := fun k a e => by rw [ZAl (ZAL.mp e).1]; exact e
 keep := fun b w e _ => e
theorem Rep.add {p : Addr} {o : O} (r : Rep K as st H) (fr : YnK as st p) (ho : Yog K (as ++ [p]) H p o) : Rep K (as ++ [p]) (st ++ [o]) H where
 len := by simp [r.len]
 nd := fun i j a hi hj ni nj => by
  have hl := r.len
  have key : ∀ (i : Nat), (as ++ [p])[i]? = some a -> (¬ Ynu (st ++ [o])[i]?) -> (i < as.length /\ as[i]? = some a /\ (¬ Ynu st[i]?)) \/ (i = as.length /\ a = p) := fun i hi ni => by
   by_cases h : i < as.length
   ·rw [ZAl h] at hi
    rw [ZAl (by omega)] at ni
    exact .inl ⟨h, hi, ni⟩
   ·have h' : i < (as ++ [p]).length := (ZAL.mp hi).1
    rw [ZAD, ZAg] at h'
    have e : i = as.length := by omega
    subst e
    rw [ZBI (ZAI _)] at hi
    simp at hi
    exact .inr ⟨rfl, hi.symm⟩
  rcases key i hi ni with ⟨a1, a2, a3⟩ | ⟨a1, a2⟩
  ·rcases key j hj nj with ⟨b1, b2, b3⟩ | ⟨b1, b2⟩
   ·exact r.nd i j a a2 b2 a3 b3
   ·subst b2; exact absurd (fr i a2) a3
  ·rcases key j hj nj with ⟨b1, b2, b3⟩ | ⟨b1, b2⟩
   ·subst a2; exact absurd (fr j b2) b3
   ·omega
 ob := fun k a q hk hq => by
  have hl := r.len
  by_cases h : k < as.length
  ·rw [ZAl h] at hk
   rw [ZAl (by omega)] at hq
   exact (r.ob k a q hk hq).ext Ext.add fun w z => z
  ·have h' : k < (as ++ [p]).length := (ZAL.mp hk).1
   rw [ZAD, ZAg] at h'
   have e : k = as.length := by omega
   subst e
   rw [ZBI (ZAI _)] at hk
   rw [ZBI (by omega)] at hq
   simp at hk
   simp [hl] at hq
   subst hk; subst hq
   exact ho
theorem Rep.new {p : Addr} {u : HO} {o : O} (r : Rep K as st H) (hp : H p = none) (ho : Yog K (as ++ [p]) (upd H p u) p o) : Rep K (as ++ [p]) (st ++ [o]) (upd H p u) :=
 (r.laid hp).add (r.fresh hp) ho
theorem Yav {p : Addr} : (as ++ [p])[as.length]? = Option.some p := by simp
theorem Rep.lnew {p : Addr} {vs : List V} {xs : List P} (r : Rep K as st H) (hp : H p = none) (d : Dens K as H vs xs) : Rep K (as ++ [p]) (st ++ [.lst xs]) (upd H p (.lst vs)) :=
 r.new hp ⟨vs, Ym, d.ext (Ext.new hp)⟩
theorem Ext.write {a : Addr} {u w : HO} (ha : H a = Option.some w) (mu : Mu w) : Ext as H as (upd H a u) where
 pre := fun k a e => e
 keep := fun b z e m => by
  rw [Yi]
  ·exact e
  ·rintro rfl
   rw [ha] at e; cases e
   exact m mu
theorem Rep.write {k : Nat} {a : Addr} {u w : HO} {o : O} (r : Rep K as st H) (hk : as[k]? = Option.some a) (ha : H a = Option.some w) (mu : Mu w) (no : ¬ Ynu (Option.some o)) (nr : ¬ Ynu st[k]?) (ho : Yog K as (upd H a u) a o) : Rep K as (st.set k o) (upd H a u) where
 len := by rw [ZCX]; exact r.len
 nd := fun i j b hi hj ni nj => by
  have key : ∀ (i : Nat), as[i]? = Option.some b -> (¬ Ynu (st.set k o)[i]?) -> ¬ Ynu st[i]? := fun i hi ni z => by
   by_cases h : k = i
   ·subst h; exact nr z
   ·rw [ZA0 h] at ni; exact ni z
  exact r.nd i j b hi hj (key i hi ni) (key j hj nj)
 ob := fun i b q hi hq => by
  have hkl : k < st.length := by rw [<- r.len]; exact (ZAL.mp hk).1
  by_cases h : k = i
  ·subst h
   rw [hk] at hi; cases hi
   rw [ZA8 hkl] at hq
   cases hq
   exact ho
  ·rw [ZA0 h] at hq
   have old := r.ob i b q hi hq
   show 192
   ·subst hb
    by_cases hr : Ynu st[i]?
    ·rw [hq] at hr
     cases q with
     | ro xs =>
      obtain ⟨vs, h1, h2⟩ := old
      refine ⟨vs, ?_, h2.ext (Ext.write ha mu)⟩
      rcases h1 with ⟨ob, h1⟩ | h1
      ·rw [ha] at h1; cases h1; exact mu.elim
      ·exact .inr h1
     | _ => exact hr.elim
    ·exact absurd (r.nd k i b hk hi nr hr) h
   ·exact old.ext (Ext.write ha mu) fun w z => by rw [Yi hb]; exact z
theorem Rep.lset {k : Nat} {a : Addr} {vs vs' : List V} {xs xs' : List P} (r : Rep K as st H) (hk : as[k]? = Option.some a) (ha : H a = Option.some (.lst vs)) (hs : st[k]? = Option.some (.lst xs)) (d : Dens K as H vs' xs') : Rep K as (st.set k (.lst xs')) (upd H a (.lst vs')) :=
 r.write hk ha trivial (fun z => z) (by rw [hs]; exact fun z => z) ⟨vs', Ym, d.ext (Ext.write ha trivial)⟩
end
abbrev Xc := Str × List (Str × P)
inductive R (α : Type) where
 | ok (a : α) (st : YlA)
 | exc (k : Xc) (st : YlA)
 | bad
def R.bind {α β : Type} (r : R α) (f : α -> YlA -> R β) : R β :=
 match r with
 | .ok a st => f a st
 | .exc k st => .exc k st
 | .bad => .bad
@[simp] theorem R.bind_ok {α β : Type} {a : α} {st : YlA} {f : α -> YlA -> R β} : (R.ok a st).bind f = f a st := rfl
@[simp] theorem R.bind_exc {α β : Type} {k : Xc} {st : YlA} {f : α -> YlA -> R β} : (R.exc k st : R α).bind f = .exc k st := rfl
@[simp] theorem R.bind_bad {α β : Type} {f : α -> YlA -> R β} : (R.bad : R α).bind f = .bad := rfl
def ofO {α : Type} : Option (α × YlA) -> R α
 | some (a, st) => .ok a st
 | none => .bad
@[simp] theorem Vx {α : Type} {a : α} {st : YlA} : ofO (some (a, st)) = .ok a st := rfl
@[simp] theorem Yhs {α : Type} : ofO (none : Option (α × YlA)) = .bad := rfl
abbrev ME := Rho -> YlA -> R P
abbrev MT := Rho -> YlA -> R Bool
abbrev MA := Rho -> YlA -> R (List P)
inductive RS where
 | nx (ρ : Rho) (st : YlA)
 | rt (p : P) (st : YlA)
 | bk (ρ : Rho) (st : YlA)
 | ct (ρ : Rho) (st : YlA)
 | exc (k : Xc) (ρ : Rho) (st : YlA)
 | bad
abbrev MS := Rho -> YlA -> RS
structure YlO (K : Frag) (as : List Addr) (H : Hp) (ρ : Rho) (σ : St) : Prop where
 len : ρ.length = σ.length
 val : ∀ (i : Nat) p, ρ[i]? = some (some p) -> ∃ v, σ[i]? = some (some v) /\ Den K as H v p
theorem YlO.ext {K : Frag} {as as' : List Addr} {H H' : Hp} {ρ : Rho} {σ : St} (x : Ext as H as' H') (h : YlO K as H ρ σ) : YlO K as' H' ρ σ :=
 ⟨h.len, fun i p e => let ⟨v, h1, h2⟩ := h.val i p e; ⟨v, h1, h2.ext x⟩⟩
theorem YlO.set {K : Frag} {as : List Addr} {H : Hp} {ρ : Rho} {σ : St} {i : Nat} {p : P} {v : V} (h : YlO K as H ρ σ) (d : Den K as H v p) : YlO K as H (ρ.set i (some p)) (σ.set i (some v)) :=
 ⟨by simp [h.len], fun j q e => by
  have hl := h.len
  by_cases hj : i = j
  ·subst hj
   by_cases hi : i < ρ.length
   ·rw [ZA8 hi] at e
    cases e
    exact ⟨v, by rw [ZA8 (by omega)], d⟩
   ·rw [ZBu (by omega)] at e
    have := (ZAL.mp e).1
    omega
  ·rw [ZA0 hj] at e
   obtain ⟨w, h1, h2⟩ := h.val j q e
   exact ⟨w, by rw [ZA0 hj]; exact h1, h2⟩⟩
structure YmJ (Nw : Addr -> Prop) (H : Hp) (a : Addr) (C : Value) (od : Option Addr) (h : Heap) : Prop where
 na : Nw a
 ha : H a = none
 tr : ∃ oe vs, h.get? a = some oe /\ oe.cls = C /\ oe.dict = od /\ oe.data = .fields vs /\ (vs[1]? = some .none \/
  ∃ T oT ts, vs[1]? = some (.ref T) /\ Nw T /\ H T = none /\ T ≠ a /\ h.get? T = some oT /\ oT.data = .fields ts /\ 3 < ts.size)
theorem YmJ.mono {N N' : Addr -> Prop} {H : Hp} {a : Addr} {C : Value} {od : Option Addr} {h : Heap} (f : YmJ N H a C od h) (i : ∀ b, N b -> N' b) : YmJ N' H a C od h := by
 obtain ⟨n, e, oe, vs, h1, h2, h3, h4, h5⟩ := f
 refine ⟨i a n, e, oe, vs, h1, h2, h3, h4, ?_⟩
 rcases h5 with h5 | ⟨T, oT, ts, g1, g2, g3⟩
 ·exact .inl h5
 ·exact .inr ⟨T, oT, ts, g1, i T g2, g3⟩
def Nw (X : Cx) (pins : LAO) (b : Addr) : Prop := (b ∈ X.ex \/ X.s₀.heap.get? b = none) /\ ∀ p ∈ X.pn ++ pins, p.1 ≠ b
def Fly (X : Cx) (pins : LAO) (x : Xc) (a : Addr) (as : List Addr) (H : Hp) (s : Shared) : Prop :=
 ∃ C od, nsIn X.K mainGlobals x.1 = some (some (.ref C)) /\ YmJ (Nw X pins) H a (.ref C) od s.heap /\ Yoh X.K as H od x.2
def XOk (X : Cx) (as : List Addr) (H : Hp) (ρ : Rho) (k : Xc) (st' : YlA) : Prop :=
 ∀ (pins : LAO) (σ' : St) (s' : Shared) (as' : List Addr) (H' : Hp) (a : Addr), Inv X pins σ' H' s' -> YlO X.K as' H' ρ σ' -> Ext as H as' H' -> Rep X.K as' st' H' -> Fly X pins k a as' H' s' -> X.xe (.ref a) s'
theorem XOk.ext {X : Cx} {as as1 : List Addr} {H H1 : Hp} {ρ : Rho} {k : Xc} {st' : YlA} (x : Ext as H as1 H1) (h : XOk X as H ρ k st') : XOk X as1 H1 ρ k st' :=
 fun pins σ' s' as' H' a I e y r q => h pins σ' s' as' H' a I e (x.trans y) r q
def YlL (X : Cx) (as : List Addr) (H : Hp) (ρ : Rho) (r : R P) (Q : VK) : Prop :=
 match r with
 | .ok p st' => ∀ as' H' v, Ext as H as' H' -> Rep X.K as' st' H' -> Den X.K as' H' v p -> Q v H'
 | .exc k st' => XOk X as H ρ k st'
 | .bad => False
def Ymh (X : Cx) (as : List Addr) (H : Hp) (ρ : Rho) (r : R Bool) (Q : Bool -> Hp -> Prop) : Prop :=
 match r with
 | .ok b st' => ∀ as' H', Ext as H as' H' -> Rep X.K as' st' H' -> Q b H'
 | .exc k st' => XOk X as H ρ k st'
 | .bad => False
def Yml (X : Cx) (as : List Addr) (H : Hp) (ρ : Rho) (r : R (List P)) (Q : List V -> Hp -> Prop) : Prop :=
 match r with
 | .ok ps st' => ∀ as' H' vs, Ext as H as' H' -> Rep X.K as' st' H' -> Dens X.K as' H' vs ps -> Q vs H'
 | .exc k st' => XOk X as H ρ k st'
 | .bad => False
def Yl1 (X : Cx) (as : List Addr) (H : Hp) (ρ : Rho) (r : R (List P)) (Q : VK) : Prop :=
 match r with
 | .ok ps st' => ∀ as' H' l vs, Ext as H as' H' -> Rep X.K as' st' H' -> H' l = some (.lst vs) -> YnK as' st' l -> Dens X.K as' H' vs ps -> Q (.ref l) H'
 | .exc k st' => XOk X as H ρ k st'
 | .bad => False
def YlP (X : Cx) (as : List Addr) (H : Hp) (r : RS) (D : Ends) : Prop :=
 match r with
 | .nx ρ' st' => ∀ as' H' σ', Ext as H as' H' -> Rep X.K as' st' H' -> YlO X.K as' H' ρ' σ' -> D.nx σ' H'
 | .bk ρ' st' => ∀ as' H' σ', Ext as H as' H' -> Rep X.K as' st' H' -> YlO X.K as' H' ρ' σ' -> D.bk σ' H'
 | .ct ρ' st' => ∀ as' H' σ', Ext as H as' H' -> Rep X.K as' st' H' -> YlO X.K as' H' ρ' σ' -> D.ct σ' H'
 | .rt p st' => ∀ as' H' v, Ext as H as' H' -> Rep X.K as' st' H' -> Den X.K as' H' v p -> D.rt v H'
 | .exc k ρ' st' => XOk X as H ρ' k st'
 | .bad => False
def YlU (X : Cx) (as : List Addr) (H : Hp) (r : Option (P × YlA)) (Q : VK) : Prop :=
 match r with
 | some (p, st') => ∀ as' H' v, Ext as H as' H' -> Rep X.K as' st' H' -> Den X.K as' H' v p -> Q v H'
 | none => False
def tE (X : Cx) (m : ME) : TE := fun σ H Q => ∃ as ρ st, YlO X.K as H ρ σ /\ Rep X.K as st H /\ YlL X as H ρ (m ρ st) Q
def tT (X : Cx) (m : MT) : TT := fun σ H Q => ∃ as ρ st, YlO X.K as H ρ σ /\ Rep X.K as st H /\ Ymh X as H ρ (m ρ st) Q
def tA (X : Cx) (m : MA) : TA := fun σ H Q => ∃ as ρ st, YlO X.K as H ρ σ /\ Rep X.K as st H /\ Yml X as H ρ (m ρ st) Q
def tL (X : Cx) (m : MA) : TE := fun σ H Q => ∃ as ρ st, YlO X.K as H ρ σ /\ Rep X.K as st H /\ Yl1 X as H ρ (m ρ st) Q
def tS (X : Cx) (m : MS) : TS := fun D σ H => ∃ as ρ st, YlO X.K as H ρ σ /\ Rep X.K as st H /\ YlP X as H (m ρ st) D
abbrev JE (X : Cx) (e : Expr) (m : ME) : Prop := PE X e (tE X m)
abbrev JT (X : Cx) (e : Expr) (m : MT) : Prop := PT X e (tT X m)
abbrev JA (X : Cx) (es : List Expr) (m : MA) : Prop := PA X es (tA X m)
abbrev JL (X : Cx) (e : Expr) (m : MA) : Prop := PE X e (tL X m)
abbrev JS (X : Cx) (s : Stmt) (m : MS) : Prop := PS X s (tS X m)
abbrev JSs (X : Cx) (ss : List Stmt) (m : MS) : Prop := PSs X ss (tS X m)
theorem PE.imp {X : Cx} {e : Expr} {t t' : TE} (h : PE X e t) (i : ∀ σ H Q, t' σ H Q -> t σ H Q) : PE X e t' := fun pins s σ H Q I q => h pins s σ H Q I (i σ H Q q)
theorem PT.imp {X : Cx} {e : Expr} {t t' : TT} (h : PT X e t) (i : ∀ σ H Q, t' σ H Q -> t σ H Q) : PT X e t' := fun pins s σ H Q I q => h pins s σ H Q I (i σ H Q q)
theorem PA.imp {X : Cx} {es : List Expr} {t t' : TA} (h : PA X es t) (i : ∀ σ H Q, t' σ H Q -> t σ H Q) : PA X es t' := fun pos pins s σ H Q I q => h pos pins s σ H Q I (i σ H Q q)
theorem PS.imp {X : Cx} {e : Stmt} {t t' : TS} (h : PS X e t) (i : ∀ D σ H, t' D σ H -> t D σ H) : PS X e t' := fun pins s σ H D I q => h pins s σ H D I (i D σ H q)
theorem PSs.imp {X : Cx} {e : List Stmt} {t t' : TS} (h : PSs X e t) (i : ∀ D σ H, t' D σ H -> t D σ H) : PSs X e t' := fun pins s σ H D I q => h pins s σ H D I (i D σ H q)
section
variable {X : Cx} {as as1 : List Addr} {H H1 : Hp} {ρ : Rho}
theorem YlL.ext {r : R P} {Q : VK} (x : Ext as H as1 H1) (h : YlL X as H ρ r Q) : YlL X as1 H1 ρ r Q := by
 cases r with
 | ok p st' => exact fun as' H' v y => h as' H' v (x.trans y)
 | exc k st' => show 180
 | bad => exact h
theorem Ymh.ext {r : R Bool} {Q : Bool -> Hp -> Prop} (x : Ext as H as1 H1) (h : Ymh X as H ρ r Q) : Ymh X as1 H1 ρ r Q := by
 cases r with
 | ok p st' => exact fun as' H' y => h as' H' (x.trans y)
 | exc k st' => show 180
 | bad => exact h
theorem Yml.ext {r : R (List P)} {Q : List V -> Hp -> Prop} (x : Ext as H as1 H1) (h : Yml X as H ρ r Q) : Yml X as1 H1 ρ r Q := by
 cases r with
 | ok p st' => exact fun as' H' vs y => h as' H' vs (x.trans y)
 | exc k st' => show 180
 | bad => exact h
theorem Yl1.ext {r : R (List P)} {Q : VK} (x : Ext as H as1 H1) (h : Yl1 X as H ρ r Q) : Yl1 X as1 H1 ρ r Q := by
 cases r with
 | ok p st' => exact fun as' H' l vs y => h as' H' l vs (x.trans y)
 | exc k st' => show 180
 | bad => exact h
theorem YlP.ext {r : RS} {D : Ends} (x : Ext as H as1 H1) (h : YlP X as H r D) : YlP X as1 H1 r D := by
 cases r with
 | nx ρ' st' => exact fun as' H' σ' y => h as' H' σ' (x.trans y)
 | bk ρ' st' => exact fun as' H' σ' y => h as' H' σ' (x.trans y)
 | ct ρ' st' => exact fun as' H' σ' y => h as' H' σ' (x.trans y)
 | rt p st' => exact fun as' H' v y => h as' H' v (x.trans y)
 | exc k ρ' st' => show 180
 | bad => exact h
theorem YlL.bindE {r : R P} {f : P -> YlA -> R P} {Q Q' : VK} (h : YlL X as H ρ (r.bind f) Q)
 (go : ∀ p st1 as1 H1 v, Ext as H as1 H1 -> Rep X.K as1 st1 H1 -> Den X.K as1 H1 v p -> YlL X as1 H1 ρ (f p st1) Q -> Q' v H1) : YlL X as H ρ r Q' := by
 cases r with
 | ok p st1 => exact fun as1 H1 v x rp d => go p st1 as1 H1 v x rp d (YlL.ext x h)
 | exc k st' => exact h
 | bad => exact h
theorem YlL.bindA {r : R (List P)} {f : List P -> YlA -> R P} {Q : VK} {Q' : List V -> Hp -> Prop} (h : YlL X as H ρ (r.bind f) Q)
 (go : ∀ ps st1 as1 H1 vs, Ext as H as1 H1 -> Rep X.K as1 st1 H1 -> Dens X.K as1 H1 vs ps -> YlL X as1 H1 ρ (f ps st1) Q -> Q' vs H1) : Yml X as H ρ r Q' := by
 cases r with
 | ok p st1 => exact fun as1 H1 v x rp d => go p st1 as1 H1 v x rp d (YlL.ext x h)
 | exc k st' => exact h
 | bad => exact h
theorem YlL.bindL {r : R (List P)} {f : List P -> YlA -> R P} {Q Q' : VK} (h : YlL X as H ρ (r.bind f) Q)
 (go : ∀ ps st1 as1 H1 l vs, Ext as H as1 H1 -> Rep X.K as1 st1 H1 -> H1 l = some (.lst vs) -> YnK as1 st1 l -> Dens X.K as1 H1 vs ps -> YlL X as1 H1 ρ (f ps st1) Q -> Q' (.ref l) H1) : Yl1 X as H ρ r Q' := by
 cases r with
 | ok p st1 => exact fun as1 H1 l v x rp hl nl d => go p st1 as1 H1 l v x rp hl nl d (YlL.ext x h)
 | exc k st' => exact h
 | bad => exact h
theorem YlL.bindB {r : R Bool} {f : Bool -> YlA -> R P} {Q : VK} {Q' : Bool -> Hp -> Prop} (h : YlL X as H ρ (r.bind f) Q)
 (go : ∀ b st1 as1 H1, Ext as H as1 H1 -> Rep X.K as1 st1 H1 -> YlL X as1 H1 ρ (f b st1) Q -> Q' b H1) : Ymh X as H ρ r Q' := by
 cases r with
 | ok p st1 => exact fun as1 H1 x rp => go p st1 as1 H1 x rp (YlL.ext x h)
 | exc k st' => exact h
 | bad => exact h
theorem Ymh.bindE {r : R P} {f : P -> YlA -> R Bool} {Q : Bool -> Hp -> Prop} {Q' : VK} (h : Ymh X as H ρ (r.bind f) Q)
 (go : ∀ p st1 as1 H1 v, Ext as H as1 H1 -> Rep X.K as1 st1 H1 -> Den X.K as1 H1 v p -> Ymh X as1 H1 ρ (f p st1) Q -> Q' v H1) : YlL X as H ρ r Q' := by
 cases r with
 | ok p st1 => exact fun as1 H1 v x rp d => go p st1 as1 H1 v x rp d (Ymh.ext x h)
 | exc k st' => exact h
 | bad => exact h
theorem Ymh.bindB {r : R Bool} {f : Bool -> YlA -> R Bool} {Q : Bool -> Hp -> Prop} {Q' : Bool -> Hp -> Prop} (h : Ymh X as H ρ (r.bind f) Q)
 (go : ∀ b st1 as1 H1, Ext as H as1 H1 -> Rep X.K as1 st1 H1 -> Ymh X as1 H1 ρ (f b st1) Q -> Q' b H1) : Ymh X as H ρ r Q' := by
 cases r with
 | ok p st1 => exact fun as1 H1 x rp => go p st1 as1 H1 x rp (Ymh.ext x h)
 | exc k st' => exact h
 | bad => exact h
theorem Yml.bindE {r : R P} {f : P -> YlA -> R (List P)} {Q : List V -> Hp -> Prop} {Q' : VK} (h : Yml X as H ρ (r.bind f) Q)
 (go : ∀ p st1 as1 H1 v, Ext as H as1 H1 -> Rep X.K as1 st1 H1 -> Den X.K as1 H1 v p -> Yml X as1 H1 ρ (f p st1) Q -> Q' v H1) : YlL X as H ρ r Q' := by
 cases r with
 | ok p st1 => exact fun as1 H1 v x rp d => go p st1 as1 H1 v x rp d (Yml.ext x h)
 | exc k st' => exact h
 | bad => exact h
theorem Yml.bindA {r : R (List P)} {f : List P -> YlA -> R (List P)} {Q : List V -> Hp -> Prop} {Q' : List V -> Hp -> Prop} (h : Yml X as H ρ (r.bind f) Q)
 (go : ∀ p st1 as1 H1 v, Ext as H as1 H1 -> Rep X.K as1 st1 H1 -> Dens X.K as1 H1 v p -> Yml X as1 H1 ρ (f p st1) Q -> Q' v H1) : Yml X as H ρ r Q' := by
 cases r with
 | ok p st1 => exact fun as1 H1 v x rp d => go p st1 as1 H1 v x rp d (Yml.ext x h)
 | exc k st' => exact h
 | bad => exact h
theorem Yl1.bindE {r : R P} {f : P -> YlA -> R (List P)} {Q Q' : VK} (h : Yl1 X as H ρ (r.bind f) Q)
 (go : ∀ p st1 as1 H1 v, Ext as H as1 H1 -> Rep X.K as1 st1 H1 -> Den X.K as1 H1 v p -> Yl1 X as1 H1 ρ (f p st1) Q -> Q' v H1) : YlL X as H ρ r Q' := by
 cases r with
 | ok p st1 => exact fun as1 H1 v x rp d => go p st1 as1 H1 v x rp d (Yl1.ext x h)
 | exc k st' => exact h
 | bad => exact h
theorem Yl1.bindA {r : R (List P)} {f : List P -> YlA -> R (List P)} {Q : VK} {Q' : List V -> Hp -> Prop} (h : Yl1 X as H ρ (r.bind f) Q)
 (go : ∀ p st1 as1 H1 v, Ext as H as1 H1 -> Rep X.K as1 st1 H1 -> Dens X.K as1 H1 v p -> Yl1 X as1 H1 ρ (f p st1) Q -> Q' v H1) : Yml X as H ρ r Q' := by
 cases r with
 | ok p st1 => exact fun as1 H1 v x rp d => go p st1 as1 H1 v x rp d (Yl1.ext x h)
 | exc k st' => exact h
 | bad => exact h
theorem Yl1.bindL {r : R (List P)} {f : List P -> YlA -> R (List P)} {Q Q' : VK} (h : Yl1 X as H ρ (r.bind f) Q)
 (go : ∀ ps st1 as1 H1 l vs, Ext as H as1 H1 -> Rep X.K as1 st1 H1 -> H1 l = some (.lst vs) -> YnK as1 st1 l -> Dens X.K as1 H1 vs ps -> Yl1 X as1 H1 ρ (f ps st1) Q -> Q' (.ref l) H1) : Yl1 X as H ρ r Q' := by
 cases r with
 | ok p st1 => exact fun as1 H1 l v x rp hl nl d => go p st1 as1 H1 l v x rp hl nl d (Yl1.ext x h)
 | exc k st' => exact h
 | bad => exact h
theorem YlL.ofO {r : Option (P × YlA)} {Q : VK} (h : YlL X as H ρ (ofO r) Q) : YlU X as H r Q := by
 cases r with
 | none => exact h
 | some p => exact h
end
end Mi
namespace Mi
open PySem PySem.Spec L2
open PyProof.Rows hiding St
def Ylz (i : Nat) : ME := fun ρ st => match ρ[i]? with
 | some (some p) => .ok p st
 | _ => .bad
def eC (p : P) : ME := fun _ st => .ok p st
section
variable {X : Cx} {a b c : Expr} {ma mb mc : ME} {pos : Pos}
theorem Yiy {i : Nat} (h : PE X a (Yo8 i)) : JE X a (Ylz i) := PE.imp h fun σ H Q ⟨as, ρ, st, en, rp, h⟩ => by
 unfold Ylz at h
 cases e : ρ[i]? with
 | none => rw [e] at h; exact h.elim
 | some o =>
  rw [e] at h
  cases o with
  | none => show 142
  | some p =>
   obtain ⟨v, h1, d⟩ := en.val i p e
   exact ⟨v, h1, h as H v Ext.refl rp d⟩
theorem jv (i : Nat) {x : Str} {pos : Pos} (hN : X.N[i]? = some x := by rfl) (hv : Vis X.env.scope x := by first | exact Or.inl rfl | exact Or.inr (Or.inl rfl) | exact Or.inr (Or.inr rfl)) (hd : (x == ("__debug__" : Str)) = false := by decide)
 (hcd : (x == ("__classdict__" : Str)) = false := by decide) : JE X (.Name x pos) (Ylz i) := Yiy (VW hN hv hd hcd)
theorem WA {v : V} {p : P} (h : PE X a (tC v)) (d : ∀ K as H, Den K as H v p) : JE X a (eC p) := PE.imp h fun σ H Q ⟨as, ρ, st, en, rp, h⟩ => h as H v Ext.refl rp (d _ _ _)
theorem Ye {i j pos} : JE X (.Constant (.int i) j pos) (eC (.int i)) := WA Yjb fun _ _ _ => .int
theorem Wo {b j pos} : JE X (.Constant (.bool b) j pos) (eC (.bl b)) := WA Ylg fun _ _ _ => .bl
theorem W4 {j pos} : JE X (.Constant .none j pos) (eC .non) := WA Ykj fun _ _ _ => .non
theorem Yk {x j pos} : JE X (.Constant (.str x) j pos) (eC (.str x)) := WA Yj7 fun _ _ _ => .str
theorem Ybx {x : Str} {i : Int} {t : Tok} {pos : Pos} (hg : Gl X x) (hm : X.mg x = some (.int i t)) (hd : (x == ("__debug__" : Str)) = false := by decide) : JE X (.Name x pos) (eC (.int i)) := WA (Yea (v := .int i) hg hm ⟨t, rfl⟩ hd) fun _ _ _ => .int
abbrev G2 := P -> P -> YlA -> Option (P × YlA)
def rM (X : Cx) (g : G2) : R2 := fun x y H Q => ∃ as st p q, Rep X.K as st H /\ Den X.K as H x p /\ Den X.K as H y q /\ YlU X as H (g p q st) Q
def YlB (g : G2) (ma mb : ME) : ME := fun ρ st => (ma ρ st).bind fun p st1 => (mb ρ st1).bind fun q st2 => ofO (g p q st2)
theorem YbM {g : G2} {σ : St} {H : Hp} {Q : VK} (h : tE X (YlB g ma mb) σ H Q) : tOp (rM X g) (tE X ma) (tE X mb) σ H Q := by
 show 236
 exact ⟨as, ρ, st, en, rp, YlL.bindE h fun p st1 as1 H1 v x rp1 d h1 => ⟨as1, ρ, st1, en.ext x, rp1, YlL.bindE h1 fun q st2 as2 H2 u x2 rp2 d2 h2 => ⟨as2, st2, p, q, rp2, d.ext x2, d2, YlL.ofO h2⟩⟩⟩
theorem Yf {op : Operator} {g : G2} (ho : OpR X (binaryOp op) (rM X g)) (ha : JE X a ma) (hb : JE X b mb) : JE X (.BinOp a op b pos) (YlB g ma mb) :=
 PE.imp (Yk4 ho ha hb) fun _ _ _ h => YbM h
theorem Yjf {op : CmpOp} {g : G2} (ho : OpR X (compareOp op) (rM X g)) (ha : JE X a ma) (hb : JE X b mb) (hm : behindInMarks op b = false) : JE X (.Compare a [op] [b] pos) (YlB g ma mb) :=
 PE.imp (Yh6 ho ha hb hm) fun _ _ _ h => YbM h
def Yl3 (m : ME) : MT := fun ρ st => (m ρ st).bind fun p st1 => match p with
 | .bl c => .ok c st1
 | _ => .bad
theorem YfU {m : ME} {t : TE} (ht : ∀ σ H Q, tE X m σ H Q -> t σ H Q) {σ : St} {H : Hp} {Q : Bool -> Hp -> Prop} (h : tT X (Yl3 m) σ H Q) : YoD t σ H Q := by
 show 236
 refine ht _ _ _ ⟨as, ρ, st, en, rp, Ymh.bindE h fun p st1 as1 H1 v x rp1 d h1 => ?_⟩
 cases d with
 | bl => exact ⟨_, rfl, h1 as1 H1 Ext.refl rp1⟩
 | _ => exact False.elim h1
theorem YB {op : CmpOp} {g : G2} (ho : OpR X (compareOp op) (rM X g)) (ha : JE X a ma) (hb : JE X b mb) (hm : behindInMarks op b = false) : JT X (.Compare a [op] [b] pos) (Yl3 (YlB g ma mb)) :=
 PT.imp (YhP ho ha hb hm) fun _ _ _ h => YfU (fun _ _ _ h => YbM h) h
def Ym6 (g g' : G2) (ma mb mc : ME) : ME := fun ρ st => (ma ρ st).bind fun p st1 => (mb ρ st1).bind fun q st2 => (ofO (g p q st2)).bind fun z st3 => match z with
 | .bl k => if k = true then (mc ρ st3).bind fun r st4 => ofO (g' q r st4) else .ok (.bl false) st3
 | _ => .bad
theorem Ya3 {g g' : G2} {σ : St} {H : Hp} {Q : VK} (h : tE X (Ym6 g g' ma mb mc) σ H Q) : Yon (rM X g) (rM X g') (tE X ma) (tE X mb) (tE X mc) σ H Q := by
 show 236
 refine ⟨as, ρ, st, en, rp, YlL.bindE h fun p st1 as1 H1 v x rp1 d h1 => ⟨as1, ρ, st1, en.ext x, rp1, YlL.bindE h1 fun q st2 as2 H2 u x2 rp2 d2 h2 => ⟨as2, st2, p, q, rp2, d.ext x2, d2, ?_⟩⟩⟩
 refine YlL.ofO (ρ := ρ) (YlL.bindE h2 fun z st3 as3 H3 w x3 rp3 d3 h3 => ?_)
 cases d3 with
 | bl =>
  rename_i k
  refine ⟨k, rfl, ?_⟩
  cases k with
  | true =>
   rw [ZAE rfl]
   exact ⟨as3, ρ, st3, ((en.ext x).ext x2).ext x3, rp3, YlL.bindE h3 fun r st4 as4 H4 w' x4 rp4 d4 h4 => ⟨as4, st4, q, r, rp4, (d2.ext x3).ext x4, d4, YlL.ofO h4⟩⟩
  | false =>
   rw [ZAF ZAU]
   exact h3 as3 H3 _ Ext.refl rp3 .bl
 | _ => exact False.elim h3
theorem YcD {op op' : CmpOp} {g g' : G2} (ho : OpR X (compareOp op) (rM X g)) (ho' : OpR X (compareOp op') (rM X g')) (ha : JE X a ma) (hb : JE X b mb) (hc : JE X c mc)
 (hm : lastMarks [op, op'] [b, c] = false := by with_unfolding_all rfl) : JE X (.Compare a [op, op'] [b, c] pos) (Ym6 g g' ma mb mc) := PE.imp (YgS ho ho' ha hb hc hm) fun _ _ _ h => Ya3 h
theorem Yf2 {op op' : CmpOp} {g g' : G2} (ho : OpR X (compareOp op) (rM X g)) (ho' : OpR X (compareOp op') (rM X g')) (ha : JE X a ma) (hb : JE X b mb) (hc : JE X c mc)
 (hm : lastMarks [op, op'] [b, c] = false := by with_unfolding_all rfl) : JT X (.Compare a [op, op'] [b, c] pos) (Yl3 (Ym6 g g' ma mb mc)) := PT.imp (Yhw ho ho' ha hb hc hm) fun _ _ _ h => YfU (fun _ _ _ h => Ya3 h) h
variable {na nb : MT} {rest : List Expr}
abbrev JW (X : Cx) (e : Expr) (m : MT) : Prop := PW X e (tT X m)
theorem PW.imp {e : Expr} {t t' : TT} (h : PW X e t) (i : ∀ σ H Q, t' σ H Q -> t σ H Q) : PW X e t' := fun wh pins s σ H Q I q => h wh pins s σ H Q I (i σ H Q q)
def Yno (na nb : MT) : MT := fun ρ st => (na ρ st).bind fun c st1 => if c = true then nb ρ st1 else .ok false st1
def Yn0 (na nb : MT) : MT := fun ρ st => (na ρ st).bind fun c st1 => if c = true then .ok true st1 else nb ρ st1
def Ymu (na : MT) : MT := fun ρ st => (na ρ st).bind fun c st1 => .ok (!c) st1
theorem Vk (ha : JT X a na) : JW X (.BoolOp .And [a] pos) na := Yh2 ha
theorem YbF (ha : JT X a na) : JW X (.BoolOp .Or [a] pos) na := Ykd ha
theorem J2 (ha : JT X a na) (hb : JW X (.BoolOp .And (b :: rest) pos) nb) : JW X (.BoolOp .And (a :: b :: rest) pos) (Yno na nb) :=
 PW.imp (YjX ha hb) fun σ H Q ⟨as, ρ, st, en, rp, h⟩ => ⟨as, ρ, st, en, rp, Ymh.bindB h fun c st1 as1 H1 x rp1 h1 => by
  cases c with
  | true => rw [ZAE rfl] at h1 ⊢; exact ⟨as1, ρ, st1, en.ext x, rp1, h1⟩
  | false => rw [ZAF ZAU] at h1 ⊢; exact h1 as1 H1 Ext.refl rp1⟩
theorem Ybg (ha : JT X a na) (hb : JW X (.BoolOp .Or (b :: rest) pos) nb) : JW X (.BoolOp .Or (a :: b :: rest) pos) (Yn0 na nb) :=
 PW.imp (YkZ ha hb) fun σ H Q ⟨as, ρ, st, en, rp, h⟩ => ⟨as, ρ, st, en, rp, Ymh.bindB h fun c st1 as1 H1 x rp1 h1 => by
  cases c with
  | false => rw [ZAF ZAU] at h1 ⊢; exact ⟨as1, ρ, st1, en.ext x, rp1, h1⟩
  | true => rw [ZAE rfl] at h1 ⊢; exact h1 as1 H1 Ext.refl rp1⟩
theorem ZT (ha : JT X a na) : JT X (.UnaryOp .Not a pos) (Ymu na) :=
 PT.imp (Yj9 ha) fun σ H Q ⟨as, ρ, st, en, rp, h⟩ => ⟨as, ρ, st, en, rp, Ymh.bindB h fun c st1 as1 H1 x rp1 h1 => h1 as1 H1 Ext.refl rp1⟩
def YoP (ma mb : ME) : ME := fun ρ st => (ma ρ st).bind fun p st1 => match p with
 | .bl c => if c = true then mb ρ st1 else .ok (.bl false) st1
 | _ => .bad
def eOr (ma mb : ME) : ME := fun ρ st => (ma ρ st).bind fun p st1 => match p with
 | .bl c => if c = true then .ok (.bl true) st1 else mb ρ st1
 | _ => .bad
def Yp6 (ma : ME) : ME := fun ρ st => (ma ρ st).bind fun p st1 => match p with
 | .bl c => .ok (.bl (!c)) st1
 | _ => .bad
theorem YdM {op} (h : JE X a ma) : JE X (.BoolOp op [a] pos) ma := Yj5 h
theorem YdK (ha : JE X a ma) (hb : JE X (.BoolOp .And (b :: rest) pos) mb) : JE X (.BoolOp .And (a :: b :: rest) pos) (YoP ma mb) :=
 PE.imp (Ykm ha hb) fun σ H Q ⟨as, ρ, st, en, rp, h⟩ => ⟨as, ρ, st, en, rp, YlL.bindE h fun p st1 as1 H1 v x rp1 d h1 => by
  cases d with
  | bl =>
   rename_i c
   refine ⟨c, rfl, ?_⟩
   cases c with
   | true => exact ⟨as1, ρ, st1, en.ext x, rp1, h1⟩
   | false => exact h1 as1 H1 _ Ext.refl rp1 .bl
  | _ => exact False.elim h1⟩
theorem Ylh (ha : JE X a ma) (hb : JE X (.BoolOp .Or (b :: rest) pos) mb) : JE X (.BoolOp .Or (a :: b :: rest) pos) (eOr ma mb) :=
 PE.imp (Yla ha hb) fun σ H Q ⟨as, ρ, st, en, rp, h⟩ => ⟨as, ρ, st, en, rp, YlL.bindE h fun p st1 as1 H1 v x rp1 d h1 => by
  cases d with
  | bl =>
   rename_i c
   refine ⟨c, rfl, ?_⟩
   cases c with
   | false => exact ⟨as1, ρ, st1, en.ext x, rp1, h1⟩
   | true => exact h1 as1 H1 _ Ext.refl rp1 .bl
  | _ => exact False.elim h1⟩
def eIf (nc : MT) (ma mb : ME) : ME := fun ρ st => (nc ρ st).bind fun c st1 => if c = true then ma ρ st1 else mb ρ st1
def cap : Nat := 1000000
def YnV (p : P) (st : YlA) : Option Bool := match p with
 | .non => some false
 | .bl b => some b
 | .int i => some (i != 0)
 | .str x => if x.length <= cap then some (decide (x.length ≠ 0)) else none
 | .tup xs => some (!xs.isEmpty)
 | .ref k => match st[k]? with
  | some (.lst xs) => some (!xs.isEmpty)
  | some (.ro xs) => some (!xs.isEmpty)
  | some (.dct kvs) => some (!kvs.isEmpty)
  | _ => none
def YmK (m : ME) : MT := fun ρ st => (m ρ st).bind fun p st1 => match YnV p st1 with
 | some c => .ok c st1
 | none => .bad
theorem Yx : cap <= sizeLine := by rw [sizeLine_eq]; decide
theorem Dens.isEmpty {K : Frag} {as : List Addr} {H : Hp} {vs : List V} {ps : List P} (h : Dens K as H vs ps) : vs.isEmpty = ps.isEmpty := by cases h <;> rfl
theorem Z0 {K : Frag} {H : Hp} {a : Addr} {vs : List V} (h : (∃ o, H a = some (.frz o (.lst vs))) \/ ∃ (o : Obj) (its : Array Value) (n : Nat), K.lookup a = some o /\ o.cls = .type "list" /\ o.dict = none /\ o.data = .seq its n /\ its.size <= sizeLine /\ Vals vs its.toList) : SqL K H a vs := by
 rcases h with h | h
 ·exact .inl (.inr h)
 ·exact .inr h
theorem YhO {K : Frag} {as : List Addr} {st : YlA} {H : Hp} {v : V} {p : P} {k : Bool} (rp : Rep K as st H) (d : Den K as H v p) (h : YnV p st = some k) : Ypb K v H k := by
 cases d with
 | non => cases h; rfl
 | bl => cases h; rfl
 | int => cases h; rfl
 | str =>
  rename_i x
  unfold YnV at h
  dsimp only at h
  by_cases hx : x.length <= cap
  ·rw [ZAE hx] at h
   refine ⟨ZAO hx Yx, ?_⟩
   rw [<- Option.some.inj h]
   by_cases hz : x.length = 0
   ·simp [hz]
   ·have : ((x.length : Int) != 0) = true := by simp; omega
    rw [this]; simp [hz]
  ·rw [ZAF hx] at h; cases h
 | ref e =>
  rename_i j a
  unfold YnV at h
  dsimp only at h
  cases q : st[j]? with
  | none => show 162
  | some o =>
   show 152
   have r := rp.ob j a o e q
   cases o with
   | lst xs => obtain ⟨vs, h1, h2⟩ := r; exact .inl ⟨vs, .of h1, by rw [h2.isEmpty]; exact (Option.some.inj h).symm⟩
   | ro xs => obtain ⟨vs, h1, h2⟩ := r; exact .inl ⟨vs, Z0 h1, by rw [h2.isEmpty]; exact (Option.some.inj h).symm⟩
   | dct kvs =>
    obtain ⟨ws, h1, h2, h3⟩ := r
    refine .inr (.inr ⟨ws, h1, ?_⟩)
    rw [<- Option.some.inj h]
    have := ZAk List.length h2
    cases ws <;> cases kvs <;> first | rfl | simp at this
   | exc c fs => cases h
   | dtt kvs => cases h
   | fdc kvs => cases h
 | @tup a vs ps e r tk =>
  exact .inr (.inl ⟨_, e, by rw [r.isEmpty]; exact (Option.some.inj h).symm⟩)
theorem Zj (ha : JE X a ma) (he : ∀ whole, isTrue a X.env whole = (do let v <- whole; standAt a.pos; holding [v] (truthy v))) : JT X a (YmK ma) :=
 PT.imp (Yf1 ha he) fun σ H Q ⟨as, ρ, st, en, rp, h⟩ => ⟨as, ρ, st, en, rp, Ymh.bindE h fun p st1 as1 H1 v x rp1 d h1 => by
  cases q : YnV p st1 with
  | none => rw [q] at h1; exact False.elim h1
  | some k => rw [q] at h1; exact ⟨k, YhO rp1 d q, h1 as1 H1 Ext.refl rp1⟩⟩
variable {e : Expr} {es : List Expr} {me : ME} {mr : MA}
def YlD : MA := fun _ st => .ok [] st
def Yly (me : ME) (mr : MA) : MA := fun ρ st => (me ρ st).bind fun p st1 => (mr ρ st1).bind fun ps st2 => .ok (p :: ps) st2
theorem Yb : JA X [] YlD := PA.imp WD fun σ H Q ⟨as, ρ, st, en, rp, h⟩ => h as H [] Ext.refl rp .nil
theorem Ya (ha : JE X e me) (hr : JA X es mr) (hs : starEach (e :: es) X.env = (false, eval e X.env) :: starEach es X.env := by rfl) : JA X (e :: es) (Yly me mr) :=
 PA.imp (Y8 ha hr hs) fun σ H Q ⟨as, ρ, st, en, rp, h⟩ => ⟨as, ρ, st, en, rp, Yml.bindE h fun p st1 as1 H1 v x rp1 d h1 =>
  ⟨as1, ρ, st1, en.ext x, rp1, Yml.bindA h1 fun ps st2 as2 H2 vs x2 rp2 d2 h2 => h2 as2 H2 _ Ext.refl rp2 (.cons (d.ext x2) d2)⟩⟩
def Ymt (mr : MA) : ME := fun ρ st => (mr ρ st).bind fun ps st1 => if ps.length <= cap then .ok (.tup ps) st1 else .bad
theorem Y6 {x1} (h : JA X es mr) : JE X (.Tuple es x1 pos) (Ymt mr) :=
 PE.imp (Yj1 h) fun σ H Q ⟨as, ρ, st, en, rp, h⟩ => ⟨as, ρ, st, en, rp, YlL.bindA h fun ps st1 as1 H1 vs x rp1 d h1 => by
  by_cases hl : ps.length <= cap
  ·rw [ZAE hl] at h1
   exact ⟨by rw [d.length]; exact ZAO hl Yx, fun p hp => h1 as1 _ _ (Ext.laid hp) (rp1.laid hp) (.tup (.of Ym) (d.ext (Ext.laid hp)))⟩
  ·rw [ZAF hl] at h1; exact False.elim h1⟩
def lMk (mr : MA) : MA := fun ρ st => (mr ρ st).bind fun ps st1 => if ps.length <= cap then .ok ps st1 else .bad
theorem Wt (h : JA X es mr) : JL X (.List es pos) (lMk mr) :=
 PE.imp (YkB h) fun σ H Q ⟨as, ρ, st, en, rp, h⟩ => ⟨as, ρ, st, en, rp, by
  unfold lMk at h
  cases q : mr ρ st with
  | bad => show 151
  | exc k st' => show 151
  | ok ps st1 =>
   show 152
   intro as1 H1 vs x rp1 d
   by_cases hl : ps.length <= cap
   ·rw [R.bind_ok, ZAE hl] at h
    exact ⟨by rw [d.length]; exact ZAO hl Yx, fun p hp => h as1 _ p vs (x.trans (Ext.laid hp)) (rp1.laid hp) Ym (rp1.fresh hp) (d.ext (Ext.laid hp))⟩
   ·rw [R.bind_ok, ZAF hl] at h; exact False.elim h⟩
def YmX (m : MA) : ME := fun ρ st => (m ρ st).bind fun ps st1 => .ok (.ref st1.length) (st1 ++ [.lst ps])
theorem ZV {m : MA} (h : JL X e m) : JE X e (YmX m) :=
 PE.imp h fun σ H Q ⟨as, ρ, st, en, rp, h⟩ => ⟨as, ρ, st, en, rp, YlL.bindL h fun ps st1 as1 H1 l vs x rp1 hl fr d h1 =>
  h1 (as1 ++ [l]) H1 (.ref l) Ext.add (rp1.add fr ⟨vs, hl, d.ext Ext.add⟩) (.ref (by rw [<- rp1.len]; exact Yav))⟩
end
section
variable {X : Cx}
theorem opM {f : Value -> Value -> Sem Value} {g : G2} (h : ∀ pins s σ H x y v u Q as st p q, Inv X pins σ H s -> RelV x v -> RelV y u -> Rep X.K as st H -> Den X.K as H x p -> Den X.K as H y q -> YlU X as H (g p q st) Q ->
 wpAny (model X.prog X.w) X.A (f v u) (EP X pins σ Q) X.xe s) : OpR X f (rM X g) :=
 fun pins s σ H x y v u Q I rx ry ⟨as, st, p, q, rp, d1, d2, po⟩ => h pins s σ H x y v u Q as st p q I rx ry rp d1 d2 po
def okP (p : P) (st : YlA) : Option (P × YlA) := some (p, st)
def YmO (xs : List P) (st : YlA) : Option (P × YlA) := if xs.length <= cap then some (.ref st.length, st ++ [.lst xs]) else none
def Yl7 (st : YlA) (k : Nat) : Option (List P) := match st[k]? with
 | some (.lst xs) => some xs
 | _ => none
def Ymo (p : P) (st : YlA) : Option (List P) := match p with
 | .tup xs => some xs
 | .ref k => match st[k]? with
  | some (.lst xs) => some xs
  | some (.ro xs) => some xs
  | _ => none
 | _ => none
theorem Yar {K : Frag} {as : List Addr} {st : YlA} {H : Hp} {k : Nat} {xs : List P} {v : V} (rp : Rep K as st H) (d : Den K as H v (.ref k)) (h : Yl7 st k = some xs) :
 ∃ a vs, v = .ref a /\ as[k]? = some a /\ st[k]? = some (.lst xs) /\ H a = some (.lst vs) /\ Dens K as H vs xs := by
 unfold Yl7 at h
 cases d with
 | ref e =>
  rename_i a
  cases q : st[k]? with
  | none => show 162
  | some o =>
   show 152
   cases o with
   | lst ys =>
    cases h
    obtain ⟨vs, h1, h2⟩ := rp.ob k a _ e q
    exact ⟨a, vs, rfl, e, rfl, h1, h2⟩
   | ro ys => cases h
   | dct ys => cases h
   | exc c ys => cases h
   | dtt kvs => cases h
   | fdc kvs => cases h
theorem YgV {K : Frag} {as : List Addr} {st : YlA} {H : Hp} {p : P} {xs : List P} {v : V} (rp : Rep K as st H) (d : Den K as H v p) (h : Ymo p st = some xs) :
 ∃ a vs, v = .ref a /\ (SqL K H a vs \/ SqT K H a vs) /\ Dens K as H vs xs := by
 unfold Ymo at h
 cases d with
 | ref e =>
  rename_i k a
  simp only at h
  cases q : st[k]? with
  | none => show 162
  | some o =>
   show 152
   have ob := rp.ob k a _ e q
   cases o with
   | lst ys =>
    show 61
    exact ⟨a, vs, rfl, .inl (.of h1), h2⟩
   | ro ys =>
    show 61
    exact ⟨a, vs, rfl, .inl (Z0 h1), h2⟩
   | dct ys => cases h
   | exc c ys => cases h
   | dtt kvs => cases h
   | fdc kvs => cases h
 | tup e r => cases h; exact ⟨_, _, rfl, .inr e, r⟩
 | _ => cases h
theorem YiG {K : Frag} {as : List Addr} {st : YlA} {H : Hp} {p : P} {xs : List P} {v : V} (rp : Rep K as st H) (d : Den K as H v p) (h : Ymo p st = some xs) :
 ∃ a vs, v = .ref a /\ (SqL K H a vs \/ SqT K H a vs /\ H a = some (.tup vs)) /\ Dens K as H vs xs := by
 unfold Ymo at h
 cases d with
 | ref e =>
  rename_i k a
  simp only at h
  cases q : st[k]? with
  | none => show 162
  | some o =>
   show 152
   have ob := rp.ob k a _ e q
   cases o with
   | lst ys =>
    show 61
    exact ⟨a, vs, rfl, .inl (.of h1), h2⟩
   | ro ys =>
    show 61
    exact ⟨a, vs, rfl, .inl (Z0 h1), h2⟩
   | dct ys => cases h
   | exc c ys => cases h
   | dtt kvs => cases h
   | fdc kvs => cases h
 | tup e r tk => cases h; exact ⟨_, _, rfl, .inr ⟨e, tk⟩, r⟩
 | _ => cases h
theorem WL {as : List Addr} {st : YlA} {H : Hp} {xs : List P} {vs : List V} {Q : VK} {l : Addr} (rp : Rep X.K as st H) (d : Dens X.K as H vs xs) (h : YlU X as H (YmO xs st) Q) (hl : H l = none) : Q (.ref l) (upd H l (.lst vs)) := by
 unfold YmO at h
 by_cases z : xs.length <= cap
 ·rw [ZAE z] at h
  exact h (as ++ [l]) _ _ (Ext.new hl) (rp.lnew hl d) (.ref (by rw [<- rp.len]; exact Yav))
 ·rw [ZAF z] at h; exact h.elim
theorem Yhl {as : List Addr} {st : YlA} {H : Hp} {xs : List P} {Q : VK} (h : YlU X as H (YmO xs st) Q) : xs.length <= sizeLine := by
 unfold YmO at h
 by_cases z : xs.length <= cap
 ·exact ZAO z Yx
 ·rw [ZAF z] at h; exact h.elim
def Yl6 : G2 := fun p q st => match p, q with
 | .int i, .int j => okP (.int (i + j)) st
 | .str x, .str y => if x.length + y.length <= cap then okP (.str (x ++ y)) st else none
 | .tup xs, .tup ys => if xs.length + ys.length <= cap then okP (.tup (xs ++ ys)) st else none
 | .ref k, .ref l => match Yl7 st k, Yl7 st l with
  | some xs, some ys => YmO (xs ++ ys) st
  | _, _ => none
 | _, _ => none
theorem YC : OpR X (binaryOp .Add) (rM X Yl6) := opM fun pins s σ H x y v u Q as st p q I rx ry rp d1 d2 h => by
 cases d1 with
 | int =>
  cases d2 with
  | int => exact Yjc pins s σ H _ _ v u Q I rx ry ⟨_, _, rfl, rfl, h as H _ Ext.refl rp .int⟩
  | _ => show 142
 | str =>
  rename_i x
  cases d2 with
  | str =>
   rename_i y
   have h' : YlU X as H (if x.length + y.length <= cap then okP (.str (x ++ y)) st else none) Q := h
   by_cases z : x.length + y.length <= cap
   ·rw [ZAE z] at h'
    exact YdG pins s σ H _ _ v u Q I rx ry ⟨_, _, rfl, rfl, ZAO z Yx, h' as H _ Ext.refl rp .str⟩
   ·show 197
  | _ => show 142
 | @tup a vs xs e r tk =>
  cases d2 with
  | @tup b ws ys e2 r2 tk =>
   have h' : YlU X as H (if xs.length + ys.length <= cap then okP (.tup (xs ++ ys)) st else none) Q := h
   by_cases z : xs.length + ys.length <= cap
   ·rw [ZAE z] at h'
    show 103
    obtain ⟨its, r1, p1, _⟩ := I.tuple e
    obtain ⟨its2, r3, p2, _⟩ := I.tuple e2
    obtain ⟨⟨cls, dd, data, sl⟩, ho, hc, n, hd⟩ := id p1
    obtain ⟨⟨cls2, dd2, data2, sl2⟩, ho2, hc2, n2, hd2⟩ := id p2
    simp only at hc hd hc2 hd2
    subst hc hd hc2 hd2
    by_cases hv : its = []
    ·have hz : xs = [] := List.eq_nil_of_length_eq_zero (by rw [<- r.length, r1.length, hv]; rfl)
     subst hz
     exact concat_meets ⟨_, ho, rfl⟩ ⟨_, ho2, rfl⟩ noFill_tuple_add seq_tuple_add PySem.F.slot_tuple_add PySem.F.entry_tuple_add (PySem.F.args_tuple_add_2 _ _)
      (tuple_addW0 a b its.toArray its2.toArray n n2 dd dd2 sl sl2 (by simp [hv])) ⟨ho, ho2, ⟨.ref b, H, I, rfl, h' as H _ Ext.refl rp (.tup e2 r2)⟩⟩
    ·refine YiJ pins s σ H (.ref a) (.ref b) _ _ Q I rfl rfl ⟨a, b, vs, ws, rfl, rfl, e, e2, fun w => hv (r1.nil_iff.mpr w), ?_, fun w => ?_, fun _ p hp => ?_⟩
     ·rw [r.length, r2.length]; exact ZAO z Yx
     ·subst w
      cases r2
      refine h' as H _ Ext.refl rp ?_
      rw [ZAZ]
      exact .tup e r
     ·exact h' as _ _ (Ext.laid hp) (rp.laid hp) (.tup (.of Ym) ((r.append r2).ext (Ext.laid hp)))
   ·show 197
  | _ => show 142
 | ref e =>
  rename_i k a
  cases d2 with
  | ref e2 =>
   rename_i l b
   have h' : YlU X as H (match Yl7 st k, Yl7 st l with | some xs, some ys => YmO (xs ++ ys) st | _, _ => none) Q := h
   cases q1 : Yl7 st k with
   | none => rw [q1] at h'; exact h'.elim
   | some xs =>
    cases q2 : Yl7 st l with
    | none => rw [q1, q2] at h'; exact h'.elim
    | some ys =>
     rw [q1, q2] at h'
     obtain ⟨a', vs, z1, _, _, h1, h2⟩ := Yar rp (.ref e) q1
     obtain ⟨b', ws, z2, _, _, h3, h4⟩ := Yar rp (.ref e2) q2
     cases z1; cases z2
     have hn := Yhl h'
     rw [ZAD] at hn
     exact Yj0 pins s σ H _ _ v u Q I rx ry ⟨a, b, vs, ws, rfl, rfl, h1, h3, by rw [h2.length, h4.length]; exact hn, fun p hp => WL rp (h2.append h4) h' hp⟩
  | _ => show 142
 | _ => show 142
def YpP : G2 := fun p q st => match p, q with
 | .int i, .int j => okP (.int (i - j)) st
 | _, _ => none
def small64 (i : Int) : Bool := decide (-(2 ^ 64) < i) && decide (i < 2 ^ 64)
def Ypg : G2 := fun p q st => match p, q with
 | .int i, .int j => if (small64 i || small64 j) = true then okP (.int (i * j)) st else none
 | _, _ => none
theorem Yja : OpR X (binaryOp .Mult) (rM X Ypg) := opM fun pins s σ H x y v u Q as st p q I rx ry rp d1 d2 h => by
 cases d1 with
 | int =>
  rename_i i
  cases d2 with
  | int =>
   rename_i j
   have h' : YlU X as H (if (small64 i || small64 j) = true then okP (.int (i * j)) st else none) Q := h
   by_cases z : (small64 i || small64 j) = true
   ·rw [ZAE z] at h'
    refine YjP pins s σ H _ _ v u Q I rx ry ⟨_, _, rfl, rfl, ?_, h' as H _ Ext.refl rp .int⟩
    unfold small64 at z
    rcases Bool.or_eq_true_iff.mp z with w | w
    ·exact .inl ⟨ZA3 (ZBN.mp w).1, ZA3 (ZBN.mp w).2⟩
    ·exact .inr ⟨ZA3 (ZBN.mp w).1, ZA3 (ZBN.mp w).2⟩
   ·show 197
  | _ => show 142
 | _ => show 142
def Ym1 : G2 := fun p q st => match p, q with
 | .int i, .int j => if 0 < j /\ j < 1073741824 then okP (.int (i / j)) st else none
 | _, _ => none
theorem Wa : OpR X (binaryOp .FloorDiv) (rM X Ym1) := opM fun pins s σ H x y v u Q as st p q I rx ry rp d1 d2 h => by
 cases d1 with
 | int =>
  rename_i i
  cases d2 with
  | int =>
   rename_i j
   have h' : YlU X as H (if 0 < j /\ j < 1073741824 then okP (.int (i / j)) st else none) Q := h
   by_cases z : 0 < j /\ j < 1073741824
   ·rw [ZAE z] at h'
    exact Yis pins s σ H _ _ v u Q I rx ry ⟨_, _, rfl, rfl, z, h' as H _ Ext.refl rp .int⟩
   ·show 197
  | _ => show 142
 | _ => show 142
def YmB : G2 := fun p q st => match p, q with
 | .int i, .int j => if 0 < j then okP (.int (i % j)) st else none
 | _, _ => none
theorem YY : OpR X (binaryOp .Mod) (rM X YmB) := opM fun pins s σ H x y v u Q as st p q I rx ry rp d1 d2 h => by
 cases d1 with
 | int =>
  rename_i i
  cases d2 with
  | int =>
   rename_i j
   have h' : YlU X as H (if 0 < j then okP (.int (i % j)) st else none) Q := h
   by_cases z : 0 < j
   ·rw [ZAE z] at h'
    exact Ykn pins s σ H _ _ v u Q I rx ry ⟨_, _, rfl, rfl, z, h' as H _ Ext.refl rp .int⟩
   ·show 197
  | _ => show 142
 | _ => show 142
def Ynp (x y : Str) : Bool := decide (x.cps.toList < y.cps.toList)
def ltP : G2 := fun p q st => match p, q with
 | .int i, .int j => okP (.bl (decide (i < j))) st
 | .str x, .str y => okP (.bl (Ynp x y)) st
 | _, _ => none
def leP : G2 := fun p q st => match p, q with
 | .int i, .int j => okP (.bl (decide (i <= j))) st
 | .str x, .str y => okP (.bl (!Ynp y x)) st
 | _, _ => none
def gtP : G2 := fun p q st => match p, q with
 | .int i, .int j => okP (.bl (decide (j < i))) st
 | _, _ => none
def geP : G2 := fun p q st => match p, q with
 | .int i, .int j => okP (.bl (decide (j <= i))) st
 | _, _ => none
theorem Yi0 : OpR X (compareOp .Lt) (rM X ltP) := opM fun pins s σ H x y v u Q as st p q I rx ry rp d1 d2 h => by
 cases d1 with
 | int =>
  cases d2 with
  | int => exact YkI pins s σ H _ _ v u Q I rx ry ⟨_, _, rfl, rfl, h as H _ Ext.refl rp .bl⟩
  | _ => show 142
 | str =>
  cases d2 with
  | str => exact Yfp pins s σ H _ _ v u Q I rx ry ⟨_, _, rfl, rfl, h as H _ Ext.refl rp .bl⟩
  | _ => show 142
 | _ => show 142
theorem YaW : OpR X (compareOp .LtE) (rM X leP) := opM fun pins s σ H x y v u Q as st p q I rx ry rp d1 d2 h => by
 cases d1 with
 | int =>
  cases d2 with
  | int => exact YkU pins s σ H _ _ v u Q I rx ry ⟨_, _, rfl, rfl, h as H _ Ext.refl rp .bl⟩
  | _ => show 142
 | str =>
  cases d2 with
  | str =>
   show 22
   exact PySem.P.le_str ⟨.bl _, H, I, rfl, h as H _ Ext.refl rp .bl⟩
  | _ => show 142
 | _ => show 142
theorem YcL : OpR X (compareOp .Gt) (rM X gtP) := opM fun pins s σ H x y v u Q as st p q I rx ry rp d1 d2 h => by
 cases d1 with
 | int =>
  cases d2 with
  | int => exact Ylf pins s σ H _ _ v u Q I rx ry ⟨_, _, rfl, rfl, h as H _ Ext.refl rp .bl⟩
  | _ => show 142
 | _ => show 142
def YoH : P -> Bool
 | .non => true
 | _ => false
def isP : G2 := fun p q st => match q with
 | .non => okP (.bl (YoH p)) st
 | _ => none
theorem YiF {K : Frag} {as : List Addr} {H : Hp} {v : V} {p : P} (d : Den K as H v p) : decide (v = .non) = YoH p := by
 cases d <;> simp [YoH]
theorem YiW : OpR X (compareOp .Is) (rM X isP) := opM fun pins s σ H x y v u Q as st p q I rx ry rp d1 d2 h => by
 cases d2 with
 | non => exact Yjs pins s σ H _ _ v u Q I rx ry ⟨rfl, by rw [YiF d1]; exact h as H _ Ext.refl rp .bl⟩
 | _ => show 142
end
def RS.ofE {α : Type} (ρ : Rho) (r : R α) (f : α -> YlA -> RS) : RS := match r with
 | .ok p st => f p st
 | .exc k st => .exc k ρ st
 | .bad => .bad
@[simp] theorem RS.ofE_ok {α : Type} {ρ : Rho} {p : α} {st : YlA} {f : α -> YlA -> RS} : RS.ofE ρ (.ok p st) f = f p st := rfl
@[simp] theorem RS.ofE_exc {α : Type} {ρ : Rho} {k : Xc} {st : YlA} {f : α -> YlA -> RS} : RS.ofE ρ (.exc k st) f = .exc k ρ st := rfl
@[simp] theorem RS.ofE_bad {α : Type} {ρ : Rho} {f : α -> YlA -> RS} : RS.ofE ρ .bad f = .bad := rfl
def Ymk : MS := fun ρ st => .nx ρ st
def RS.seq (r : RS) (m : MS) : RS := match r with
 | .nx ρ st => m ρ st
 | r => r
@[simp] theorem RS.seq_nx {ρ : Rho} {st : YlA} {m : MS} : (RS.nx ρ st).seq m = m ρ st := rfl
@[simp] theorem RS.seq_rt {p : P} {st : YlA} {m : MS} : (RS.rt p st).seq m = .rt p st := rfl
@[simp] theorem RS.seq_bk {ρ : Rho} {st : YlA} {m : MS} : (RS.bk ρ st).seq m = .bk ρ st := rfl
@[simp] theorem RS.seq_ct {ρ : Rho} {st : YlA} {m : MS} : (RS.ct ρ st).seq m = .ct ρ st := rfl
@[simp] theorem RS.seq_exc {k : Xc} {ρ : Rho} {st : YlA} {m : MS} : (RS.exc k ρ st).seq m = .exc k ρ st := rfl
@[simp] theorem RS.seq_bad {m : MS} : RS.bad.seq m = .bad := rfl
def YlN (m1 m2 : MS) : MS := fun ρ st => (m1 ρ st).seq m2
section
variable {X : Cx} {a b c e : Expr} {me ma : ME} {pos : Pos} {s : Stmt} {rest ss tt : List Stmt} {m m1 m2 : MS} {nc : MT}
theorem YlP.ofE {as : List Addr} {H : Hp} {ρ : Rho} {r : R P} {f : P -> YlA -> RS} {D : Ends} {Q' : VK} (h : YlP X as H (RS.ofE ρ r f) D)
 (go : ∀ p st1 as1 H1 v, Ext as H as1 H1 -> Rep X.K as1 st1 H1 -> Den X.K as1 H1 v p -> YlP X as1 H1 (f p st1) D -> Q' v H1) : YlL X as H ρ r Q' := by
 cases r with
 | ok p st1 => exact fun as1 H1 v x rp d => go p st1 as1 H1 v x rp d (YlP.ext x h)
 | exc k st' => exact h
 | bad => exact h
theorem YlP.ofB {as : List Addr} {H : Hp} {ρ : Rho} {r : R Bool} {f : Bool -> YlA -> RS} {D : Ends} {Q' : Bool -> Hp -> Prop} (h : YlP X as H (RS.ofE ρ r f) D)
 (go : ∀ b st1 as1 H1, Ext as H as1 H1 -> Rep X.K as1 st1 H1 -> YlP X as1 H1 (f b st1) D -> Q' b H1) : Ymh X as H ρ r Q' := by
 cases r with
 | ok p st1 => exact fun as1 H1 x rp => go p st1 as1 H1 x rp (YlP.ext x h)
 | exc k st' => exact h
 | bad => exact h
theorem Yy : JSs X [] Ymk := PSs.imp Yio fun D σ H ⟨as, ρ, st, en, rp, h⟩ => h as H σ Ext.refl rp en
theorem YlP.seq {as : List Addr} {H : Hp} {r : RS} {m : MS} {D : Ends} (h : YlP X as H (r.seq m) D) : YlP X as H r { D with nx := tS X m D } := by
 cases r with
 | nx ρ st => exact fun as' H' σ' x rp en => ⟨as', ρ, st, en, rp, YlP.ext x h⟩
 | rt p st => exact h
 | bk ρ st => exact h
 | ct ρ st => exact h
 | exc k ρ st => exact h
 | bad => exact h
theorem Yc (h1 : JS X s m1) (h2 : JSs X rest m2) : JSs X (s :: rest) (YlN m1 m2) :=
 PSs.imp (YhI h1 h2) fun D σ H ⟨as, ρ, st, en, rp, h⟩ => ⟨as, ρ, st, en, rp, YlP.seq h⟩
theorem Yd (h1 : JS X s m1) : JSs X [s] m1 := YiA h1
def YlZ (me : ME) : MS := fun ρ st => RS.ofE ρ (me ρ st) fun p st1 => .rt p st1
def Ypu : MS := fun _ st => .rt .non st
def YmW (me : ME) : MS := fun ρ st => RS.ofE ρ (me ρ st) fun _ st1 => .nx ρ st1
def Yma (i : Nat) (me : ME) : MS := fun ρ st => RS.ofE ρ (me ρ st) fun p st1 => .nx (ρ.set i (some p)) st1
def sIf (nc : MT) (m1 m2 : MS) : MS := fun ρ st => RS.ofE ρ (nc ρ st) fun c st1 => if c = true then m1 ρ st1 else m2 ρ st1
def Ypi : MS := fun ρ st => .bk ρ st
def Ypl : MS := fun ρ st => .ct ρ st
theorem Yo (he : JE X e me) : JS X (.Return (some e) pos) (YlZ me) :=
 PS.imp (Yky he) fun D σ H ⟨as, ρ, st, en, rp, h⟩ => ⟨as, ρ, st, en, rp, YlP.ofE h fun p st1 as1 H1 v x rp1 d h1 => h1 as1 H1 v Ext.refl rp1 d⟩
theorem Z9 (he : JE X e me) (hs : swapsWith e none pos.line X.env = pure false := by rfl) : JS X (.Expr e pos) (YmW me) :=
 PS.imp (YiI he hs) fun D σ H ⟨as, ρ, st, en, rp, h⟩ => ⟨as, ρ, st, en, rp, YlP.ofE h fun p st1 as1 H1 v x rp1 d h1 => h1 as1 H1 σ Ext.refl rp1 (en.ext x)⟩
theorem Yr {i : Nat} {x : Str} {pos' : Pos} (hN : X.N.Nodup) (hi : X.N[i]? = some x) (hx : Loc X.env.scope x) (he : JE X e me) (hs : swapsWith e (some (.Name x pos')) pos.line X.env = pure false := by rfl) (hf : X.fn x = true \/ X.env.scope.names.lookup x = some .local := by first | exact .inl rfl | exact .inr rfl | assumption) :
 JS X (.Assign [.Name x pos'] e pos) (Yma i me) :=
 PS.imp (Ykp hN hi hx he hs hf) fun D σ H ⟨as, ρ, st, en, rp, h⟩ => ⟨as, ρ, st, en, rp, YlP.ofE h fun p st1 as1 H1 v x rp1 d h1 => h1 as1 H1 _ Ext.refl rp1 ((en.ext x).set d)⟩
theorem YS (hc : JT X c nc) (h1 : JSs X ss m1) (h2 : JSs X tt m2) : JS X (.If c ss tt pos) (sIf nc m1 m2) :=
 PS.imp (Yk7 hc h1 h2) fun D σ H ⟨as, ρ, st, en, rp, h⟩ => ⟨as, ρ, st, en, rp, YlP.ofB h fun k st1 as1 H1 x rp1 h1 => by
  cases k with
  | true => rw [ZAE rfl] at h1 ⊢; exact ⟨as1, ρ, st1, en.ext x, rp1, h1⟩
  | false => rw [ZAF ZAU] at h1 ⊢; exact ⟨as1, ρ, st1, en.ext x, rp1, h1⟩⟩
def Ymj (nc : MT) (m : MS) : Nat -> Rho -> YlA -> RS
 | 0, _, _ => .bad
 | n + 1, ρ, st => RS.ofE ρ (nc ρ st) fun c st1 => if c = true then
  match m ρ st1 with
  | .nx ρ' st' => Ymj nc m n ρ' st'
  | .ct ρ' st' => Ymj nc m n ρ' st'
  | .bk ρ' st' => .nx ρ' st'
  | r => r
  else .nx ρ st1
def turns : Nat := 1000000
def Yom (nc : MT) (m : MS) : MS := Ymj nc m turns
theorem Yhd {pos : Pos} (hp : PassesOwn (model X.prog X.w) X.A X.env X.xe) (hc : JT X c nc) (hb : JSs X ss m) : JS X (.While c ss [] pos) (Yom nc m) :=
 PS.imp (Yg0 hp hc hb) fun D σ H ⟨as, ρ, st, en, rp, h⟩ => by
  refine ⟨fun n σ H => ∃ as ρ st, YlO X.K as H ρ σ /\ Rep X.K as st H /\ YlP X as H (Ymj nc m n ρ st) D, ⟨turns, as, ρ, st, en, rp, h⟩, ?_⟩
  rintro n σ H ⟨as, ρ, st, en, rp, h⟩
  cases n with
  | zero => show 142
  | succ n =>
   refine ⟨as, ρ, st, en, rp, YlP.ofB h fun k st1 as1 H1 x rp1 h1 => ?_⟩
   cases k with
   | false => rw [ZAF ZAU] at h1 ⊢; exact h1 as1 H1 σ Ext.refl rp1 (en.ext x)
   | true =>
    rw [ZAE rfl] at h1 ⊢
    refine ⟨fun σ' H' => ∃ as ρ st, YlO X.K as H' ρ σ' /\ Rep X.K as st H' /\ YlP X as H' (Ymj nc m n ρ st) D, fun σ' H' q => ⟨n, ZA5 n, q⟩, as1, ρ, st1, en.ext x, rp1, ?_⟩
    cases q : m ρ st1 with
    | nx ρ' st' => rw [q] at h1; exact fun as' H' σ' x rp en => ⟨as', ρ', st', en, rp, YlP.ext x h1⟩
    | ct ρ' st' => rw [q] at h1; exact fun as' H' σ' x rp en => ⟨as', ρ', st', en, rp, YlP.ext x h1⟩
    | bk ρ' st' => rw [q] at h1; exact h1
    | rt p st' => rw [q] at h1; exact h1
    | exc k ρ' st' => rw [q] at h1; exact h1
    | bad => rw [q] at h1; exact h1
abbrev MG := P -> Rho -> YlA -> Option Rho
abbrev MGs := List P -> Rho -> YlA -> Option Rho
def tG (X : Cx) (g : MG) : TG := fun v σ H Q => ∃ as ρ st p ρ', YlO X.K as H ρ σ /\ Rep X.K as st H /\ Den X.K as H v p /\ g p ρ st = some ρ' /\ ∀ σ', YlO X.K as H ρ' σ' -> Q σ' H
def tGs (X : Cx) (g : MGs) : TGs := fun vs σ H Q => ∃ as ρ st ps ρ', YlO X.K as H ρ σ /\ Rep X.K as st H /\ Dens X.K as H vs ps /\ g ps ρ st = some ρ' /\ ∀ σ', YlO X.K as H ρ' σ' -> Q σ' H
abbrev JG (X : Cx) (t : Expr) (g : MG) : Prop := PG X t (tG X g)
abbrev JGs (X : Cx) (ts : List Expr) (g : MGs) : Prop := PGs X ts (tGs X g)
theorem PG.imp {t t' : TG} (h : PG X e t) (i : ∀ v σ H Q, t' v σ H Q -> t v σ H Q) : PG X e t' := fun pins s σ H v u Q I r q => h pins s σ H v u Q I r (i v σ H Q q)
theorem PGs.imp {es : List Expr} {t t' : TGs} (h : PGs X es t) (i : ∀ v σ H Q, t' v σ H Q -> t v σ H Q) : PGs X es t' := fun pins s σ H v u Q I r q => h pins s σ H v u Q I r (i v σ H Q q)
def YlC (i : Nat) : MG := fun p ρ _ => some (ρ.set i (some p))
def YmG : MGs := fun ps ρ _ => match ps with
 | [] => some ρ
 | _ => none
def YlS (g : MG) (r : MGs) : MGs := fun ps ρ st => match ps with
 | p :: qs => (g p ρ st).bind fun ρ1 => r qs ρ1 st
 | [] => none
theorem Yp {i : Nat} {x : Str} (hN : X.N.Nodup) (hi : X.N[i]? = some x) (hx : Loc X.env.scope x) (hf : X.fn x = true \/ X.env.scope.names.lookup x = some .local := by first | exact .inl rfl | exact .inr rfl | assumption) : JG X (.Name x pos) (YlC i) :=
 PG.imp (Yh8 hN hi hx hf) fun v σ H Q ⟨as, ρ, st, p, ρ', en, rp, d, g, h⟩ => by cases g; exact h _ (en.set d)
theorem Vl : JGs X [] YmG := PGs.imp YiK fun vs σ H Q ⟨as, ρ, st, ps, ρ', en, rp, d, g, h⟩ => by
 cases d with
 | nil => cases g; exact ⟨rfl, h _ en⟩
 | cons a b => cases g
theorem YT {es : List Expr} {g : MG} {r : MGs} (h1 : JG X e g) (h2 : JGs X es r) (hs : (assignEach (e :: es) X.env).map (·.2) = assign e X.env :: (assignEach es X.env).map (·.2) := by rfl) : JGs X (e :: es) (YlS g r) :=
 PGs.imp (YfM h1 h2 hs) fun vs σ H Q ⟨as, ρ, st, ps, ρ', en, rp, d, q, h⟩ => by
  cases d with
  | nil => cases q
  | @cons v p vs ps a b =>
   have q' : (g p ρ st).bind (fun ρ1 => r ps ρ1 st) = some ρ' := q
   cases z : g p ρ st with
   | none => rw [z] at q'; cases q'
   | some ρ1 =>
    rw [z] at q'
    exact ⟨v, vs, rfl, as, ρ, st, p, ρ1, en, rp, a, z, fun σ' en' => ⟨as, ρ1, st, ps, ρ', en', rp, b, q', h⟩⟩
structure Src where
 n : Nat
 nx : Nat -> YlA -> Option (Option P)
abbrev MI := Rho -> YlA -> R Src
structure YnS (K : Frag) (as : List Addr) (H : Hp) (src : Src) (J : It) : Prop where
 go : ∀ i as2 st2 H2 p, Ext as H as2 H2 -> Rep K as2 st2 H2 -> src.nx i st2 = some (some p) -> J.go i H2 /\ ∀ x H3, J.yld i H2 x H3 -> Ext as2 H2 as2 H3 /\ Rep K as2 st2 H3 /\ Den K as2 H3 x p
 stop : ∀ i as2 st2 H2, Ext as H as2 H2 -> Rep K as2 st2 H2 -> src.nx i st2 = some none -> J.stop i H2
def Ymf (X : Cx) (as : List Addr) (H : Hp) (ρ : Rho) (r : R Src) (Q : It -> Hp -> Prop) : Prop :=
 match r with
 | .ok src st' => ∀ as' H' J, Ext as H as' H' -> Rep X.K as' st' H' -> YnS X.K as' H' src J -> Q J H'
 | .exc k st' => XOk X as H ρ k st'
 | .bad => False
def tI (X : Cx) (m : MI) : TI := fun σ H R => ∃ as ρ st, YlO X.K as H ρ σ /\ Rep X.K as st H /\ Ymf X as H ρ (m ρ st) R
abbrev JI (X : Cx) (tg iter : Expr) (m : MI) : Prop := PI X tg iter (tI X m)
def Ymi (src : Src) (g : MG) (m : MS) : Nat -> Nat -> Rho -> YlA -> RS
 | 0, i, ρ, st => match src.nx i st with
  | some none => .nx ρ st
  | _ => .bad
 | n + 1, i, ρ, st => match src.nx i st with
  | some none => .nx ρ st
  | none => .bad
  | some (some p) => match g p ρ st with
   | none => .bad
   | some ρ1 => match m ρ1 st with
    | .nx ρ' st' => Ymi src g m n (i + 1) ρ' st'
    | .ct ρ' st' => Ymi src g m n (i + 1) ρ' st'
    | .bk ρ' st' => .nx ρ' st'
    | r => r
def YmZ (mi : MI) (g : MG) (m : MS) : MS := fun ρ st => RS.ofE ρ (mi ρ st) fun src st1 => Ymi src g m src.n 0 ρ st1
theorem ZU {tg iter : Expr} {mi : MI} {g : MG} {pos : Pos} (hp : PassesOwn (model X.prog X.w) X.A X.env X.xe) (hc : X.calm = true) (hi : JI X tg iter mi) (hg : JG X tg g) (hb : JSs X ss m)
 (hs : ∀ x, foldedSetIterable iter X.env x = pure x := by intro _; rfl) : JS X (.For tg iter ss [] pos) (YmZ mi g m) :=
 PS.imp (Ykt hp hc hi hg hb hs) fun D σ H ⟨as, ρ, st, en, rp, h⟩ => by
  refine ⟨as, ρ, st, en, rp, ?_⟩
  unfold YmZ at h
  cases q : mi ρ st with
  | bad => show 151
  | exc k st' => show 151
  | ok src st1 =>
   show 152
   intro as1 H1 J x rp1 ok
   have h1 : YlP X as1 H1 (Ymi src g m src.n 0 ρ st1) D := YlP.ext x h
   refine ⟨fun i n σ H => ∃ as ρ st, Ext as1 H1 as H /\ YlO X.K as H ρ σ /\ Rep X.K as st H /\ YlP X as H (Ymi src g m n i ρ st) D, ⟨src.n, as1, ρ, st1, Ext.refl, en.ext x, rp1, h1⟩, ?_⟩
   rintro i n σ H ⟨as2, ρ, st2, x2, en, rp2, h⟩
   have stopC : src.nx i st2 = some none -> YlP X as2 H (.nx ρ st2) D -> J.stop i H /\ D.nx σ H := fun e p => ⟨ok.stop i as2 st2 H x2 rp2 e, p as2 H σ Ext.refl rp2 en⟩
   cases n with
   | zero =>
    cases e : src.nx i st2 with
    | none => simp only [Ymi, e] at h; exact h.elim
    | some o =>
     cases o with
     | some p => simp only [Ymi, e] at h; exact h.elim
     | none => simp only [Ymi, e] at h; exact .inl (stopC e h)
   | succ n =>
    cases e : src.nx i st2 with
    | none => simp only [Ymi, e] at h; exact h.elim
    | some o =>
     cases o with
     | none => simp only [Ymi, e] at h; exact .inl (stopC e h)
     | some p =>
      obtain ⟨g1, g2⟩ := ok.go i as2 st2 H p x2 rp2 e
      cases z : g p ρ st2 with
      | none => simp only [Ymi, e, z] at h; exact h.elim
      | some ρ1 =>
       simp only [Ymi, e, z] at h
       refine .inr ⟨g1, fun σ' H' => ∃ as ρ st, Ext as1 H1 as H' /\ YlO X.K as H' ρ σ' /\ Rep X.K as st H' /\ YlP X as H' (Ymi src g m n (i + 1) ρ st) D, fun σ' H' q => ⟨n, ZA5 n, q⟩, fun v H3 y => ?_⟩
       obtain ⟨x3, rp3, d⟩ := g2 v H3 y
       refine ⟨as2, ρ, st2, p, ρ1, en.ext x3, rp3, d, z, fun σ2 en2 => ⟨as2, ρ1, st2, en2, rp3, ?_⟩⟩
       have h := YlP.ext x3 h
       cases w : m ρ1 st2 with
       | nx ρ' st' => rw [w] at h; exact fun as' H' σ' x4 rp en => ⟨as', ρ', st', (x2.trans x3).trans x4, en, rp, YlP.ext x4 h⟩
       | ct ρ' st' => rw [w] at h; exact fun as' H' σ' x4 rp en => ⟨as', ρ', st', (x2.trans x3).trans x4, en, rp, YlP.ext x4 h⟩
       | bk ρ' st' => rw [w] at h; exact h
       | rt p st' => rw [w] at h; exact h
       | exc k ρ' st' => rw [w] at h; exact h
       | bad => rw [w] at h; exact h
end
def ItR (X : Cx) (tg : Expr) (r : V -> Hp -> (It -> Hp -> Prop) -> Prop) : Prop :=
 ∀ (pins : LAO) (s : Shared) (σ : St) (H : Hp) (x : V) (v : Value) (R : It -> Hp -> Prop), Inv X pins σ H s -> RelV x v -> r x H R -> wpAny (model X.prog X.w) X.A (pyIter v) (PIE X pins σ tg R) X.xe s
def Its (z : Str) : It := ⟨fun i _ => i < z.cps.size, fun i H x H' => H' = H /\ ∃ c, z.cps[i]? = some c /\ x = .str ⟨#[c]⟩, fun i _ => i = z.cps.size⟩
section
variable {X : Cx} {tg : Expr}
theorem Yix : ItR X tg (fun x H R => ∃ a, x = .ref a /\ (∃ xs, SqL X.K H a xs) /\ R (Itl X.K a) H) := by
 show 220
 obtain ⟨a, rfl, ⟨xs, hq⟩, q⟩ := h
 cases rx
 obtain ⟨its, rv, p, hz⟩ := I.list hq
 refine ZB2 p.isList ?_
 refine ⟨s.heap.objs.size, [s.heap.objs.size], _, _, H, rfl, I.kept (t' := s.toks) fun b o e => ZAB _ e, YeR a _, ⟨_, ZAK _ rfl, rfl, rfl⟩, fun b hb => ?_, q⟩
 have e : b = s.heap.objs.size := by simpa using hb
 subst e
 exact I.fpOk (ZAI _) (I.hok.fresh (ZAI _))
theorem YjY : ItR X tg (fun x H R => ∃ a, x = .ref a /\ (∃ xs, SqT X.K H a xs) /\ R (Itt X.K a) H) := by
 show 220
 obtain ⟨a, rfl, ⟨xs, hq⟩, q⟩ := h
 cases rx
 obtain ⟨its, rv, p, hz⟩ := I.tuple hq
 refine ZCG (show s.heap.IsTuple a its.toArray from p) ?_
 refine ⟨s.heap.objs.size, [s.heap.objs.size], _, _, H, rfl, I.kept (t' := s.toks) fun b o e => ZAB _ e, Ydx a _, ⟨_, ZAK _ rfl, rfl, rfl⟩, fun b hb => ?_, q⟩
 have e : b = s.heap.objs.size := by simpa using hb
 subst e
 exact I.fpOk (ZAI _) (I.hok.fresh (ZAI _))
theorem Yce {P : Program} {w : World} {K : Frag} {n : String} {z : Str} {t : Tok} (it : Addr)
 (hn : ["enumerate", "zip", "dict_itemiterator", "dict_reverseitemiterator", "odict_iterator", "itertools.zip_longest", "itertools.pairwise"].contains n = false)
 (W : ∀ A : Around, A.handled = none -> Walks P w A it [it] [it] z.cps.size (SignAt z) (fun i h => h.IsStrIter it n z t i))
 (sf : ∀ (A : Around) (i : Nat) (s : Shared) (Q : VSP) (E : VSP), s.heap.IsStrIter it n z t i -> Q (.ref it) s -> wpAny (model P w) A (pyIter (.ref it)) Q E s) : Turn P w K tg (Its z) [it] it (fun i h => h.IsStrIter it n z t i) where
 mem := by simp
 obj := fun i h st b hb => by
  show 40
  obtain ⟨o, e, c, d⟩ := st
  exact ⟨o, e, fun v z => by rw [d] at z; cases z⟩
 keep := fun i h h' st k => by
  obtain ⟨o, e, r⟩ := st
  exact ⟨o, k it (by simp) o e, r⟩
 item := by
  show 67
  refine (W X.A (I.ok.hd hc)).item i s _ _ hg st fun v h' tk hv st' kk => ?_
  obtain ⟨c, u, hc', rfl⟩ := hv
  have I1 : Inv X pins σ H { s with heap := h', toks := tk } := I.turned (fun b o hb e => kk b o (by simpa using hb) e) f0 f1 f3 f4 f5
  obtain ⟨o, e, c', d⟩ := id st'
  exact ⟨_, rfl, Yej (s := { s with heap := h', toks := tk }) e c' d hn ⟨.str ⟨#[c]⟩, H, I1, ⟨u, rfl⟩, ⟨rfl, c, hc', rfl⟩, st', fun b hb => (hf b hb).1⟩⟩
 done := by
  show 67
  have e : i = z.cps.size := hg
  subst e
  exact (W X.A (I.ok.hd hc)).done s _ _ st fun h' tk kk => ⟨rfl, I.turned (fun b o hb e => kk b o (by simpa using hb) e) f0 f1 f3 f4 f5⟩
 self := fun A i s Q E st h => sf A i s Q E st h
theorem Yks : ItR X tg (fun x H R => ∃ z, x = .str z /\ R (Its z) H) := by
 show 220
 obtain ⟨z, rfl, q⟩ := h
 show 163
 have fp : ∀ b ∈ [s.heap.objs.size], YmR X pins H b := fun b hb => by
  have e : b = s.heap.objs.size := by simpa using hb
  subst e
  exact I.fpOk (ZAI _) (I.hok.fresh (ZAI _))
 cases ha : z.cps.all (· < 128)
 ·refine wpAny_pyIter_wide ha ?_
  exact ⟨s.heap.objs.size, [s.heap.objs.size], _, _, H, rfl, I.kept (t' := s.toks) fun b o e => ZAB _ e, Yce _ (by decide) (fun A hA => Walks.strWide hA _ z t) (fun A i s Q E st h => wpAny_pyIter_striter_wide st h), ⟨_, ZAK _ rfl, rfl, rfl⟩, fp, q⟩
 ·refine wpAny_pyIter_ascii ha ?_
  exact ⟨s.heap.objs.size, [s.heap.objs.size], _, _, H, rfl, I.kept (t' := s.toks) fun b o e => ZAB _ e, Yce _ (by decide) (fun A hA => Walks.strAscii hA _ z t) (fun A i s Q E st h => wpAny_pyIter_striter_ascii st h), ⟨_, ZAK _ rfl, rfl, rfl⟩, fp, q⟩
def Yn4 (c : Nat) : P := .str ⟨#[c]⟩
def Ynr (xs : List P) : Src := ⟨xs.length, fun i _ => some xs[i]?⟩
def Ynj (z : Str) : Src := ⟨z.cps.size, fun i _ => if i < z.cps.size then some ((z.cps[i]?).map Yn4) else if i = z.cps.size then some none else none⟩
def YmN (k : Nat) (n : Nat) : Src := ⟨n, fun i st => match st[k]? with
 | some (.lst ys) => some ys[i]?
 | some (.ro ys) => some ys[i]?
 | _ => none⟩
def srcOf (p : P) (st : YlA) : Option Src := match p with
 | .tup xs => some (Ynr xs)
 | .str z => some (Ynj z)
 | .ref k => match st[k]? with
  | some (.lst xs) => some (YmN k xs.length)
  | some (.ro xs) => some (YmN k xs.length)
  | _ => none
 | _ => none
theorem Ya1 {K : Frag} {as : List Addr} {H : Hp} {k n : Nat} {a : Addr} (hk : as[k]? = some a) : YnS K as H (YmN k n) (Itl K a) where
 go := fun i as2 st2 H2 p x rp e => by
  have hk2 := x.pre k a hk
  have e' : (match st2[k]? with | some (.lst ys) => some ys[i]? | some (.ro ys) => some ys[i]? | _ => none) = some (some p) := e
  cases q : st2[k]? with
  | none => rw [q] at e'; cases e'
  | some o =>
   rw [q] at e'
   have ob := rp.ob k a o hk2 q
   cases o with
   | lst ys =>
    show 179
    obtain ⟨v, h3, h4⟩ := h2.get (Option.some.inj e')
    exact ⟨⟨vs, v, .of h1, h3⟩, fun y H3 ⟨z1, z2⟩ => by subst z1; rw [z2 vs (.of h1)] at h3; cases h3; exact ⟨Ext.refl, rp, h4⟩⟩
   | ro ys =>
    show 179
    obtain ⟨v, h3, h4⟩ := h2.get (Option.some.inj e')
    exact ⟨⟨vs, v, Z0 h1, h3⟩, fun y H3 ⟨z1, z2⟩ => by subst z1; rw [z2 vs (Z0 h1)] at h3; cases h3; exact ⟨Ext.refl, rp, h4⟩⟩
   | dct ys => cases e'
   | exc c ys => cases e'
   | dtt kvs => cases e'
   | fdc kvs => cases e'
 stop := fun i as2 st2 H2 x rp e => by
  have hk2 := x.pre k a hk
  have e' : (match st2[k]? with | some (.lst ys) => some ys[i]? | some (.ro ys) => some ys[i]? | _ => none) = some none := e
  cases q : st2[k]? with
  | none => rw [q] at e'; cases e'
  | some o =>
   rw [q] at e'
   have ob := rp.ob k a o hk2 q
   cases o with
   | lst ys =>
    show 179
    exact ⟨vs, .of h1, by rw [h2.length]; exact ZBr.mp (Option.some.inj e')⟩
   | ro ys =>
    show 179
    exact ⟨vs, Z0 h1, by rw [h2.length]; exact ZBr.mp (Option.some.inj e')⟩
   | dct ys => cases e'
   | exc c ys => cases e'
   | dtt kvs => cases e'
   | fdc kvs => cases e'
theorem YgW {K : Frag} {as : List Addr} {H : Hp} {a : Addr} {vs : List V} {xs : List P} (h1 : SqT K H a vs) (h2 : Dens K as H vs xs) : YnS K as H (Ynr xs) (Itt K a) where
 go := fun i as2 st2 H2 p x rp e => by
  have e' : some xs[i]? = some (some p) := e
  obtain ⟨v, h3, h4⟩ := (h2.ext x).get (Option.some.inj e')
  exact ⟨⟨vs, v, SqT.ext x h1, h3⟩, fun y H3 ⟨z1, z2⟩ => by subst z1; rw [z2 vs (SqT.ext x h1)] at h3; cases h3; exact ⟨Ext.refl, rp, h4⟩⟩
 stop := fun i as2 st2 H2 x rp e => by
  have e' : some xs[i]? = some none := e
  exact ⟨vs, SqT.ext x h1, by rw [h2.length]; exact ZBr.mp (Option.some.inj e')⟩
theorem Yg2 {K : Frag} {as : List Addr} {H : Hp} {z : Str} : YnS K as H (Ynj z) (Its z) where
 go := fun i as2 st2 H2 p x rp e => by
  have e' : (if i < z.cps.size then some ((z.cps[i]?).map Yn4) else if i = z.cps.size then some none else none) = some (some p) := e
  by_cases hi : i < z.cps.size
  ·rw [ZAE hi] at e'
   refine ⟨hi, fun y H3 ⟨z1, c, z2, z3⟩ => ?_⟩
   subst z1; subst z3
   rw [z2] at e'
   cases Option.some.inj (Option.some.inj e')
   exact ⟨Ext.refl, rp, .str⟩
  ·rw [ZAF hi] at e'
   by_cases hj : i = z.cps.size
   ·rw [ZAE hj] at e'; cases e'
   ·rw [ZAF hj] at e'; cases e'
 stop := fun i as2 st2 H2 x rp e => by
  have e' : (if i < z.cps.size then some ((z.cps[i]?).map Yn4) else if i = z.cps.size then some none else none) = some none := e
  by_cases hi : i < z.cps.size
  ·rw [ZAE hi] at e'
   have := Option.some.inj e'
   simp [hi] at this
  ·rw [ZAF hi] at e'
   by_cases hj : i = z.cps.size
   ·exact hj
   ·rw [ZAF hj] at e'; cases e'
def YmQ (me : ME) : MI := fun ρ st => (me ρ st).bind fun p st1 => match srcOf p st1 with
 | some s => .ok s st1
 | none => .bad
theorem Ymf.ext {as as1 : List Addr} {H H1 : Hp} {ρ : Rho} {r : R Src} {Q : It -> Hp -> Prop} (x : Ext as H as1 H1) (h : Ymf X as H ρ r Q) : Ymf X as1 H1 ρ r Q := by
 cases r with
 | ok p st' => exact fun as' H' J y => h as' H' J (x.trans y)
 | exc k st' => show 180
 | bad => exact h
theorem Ymf.bindE {as : List Addr} {H : Hp} {ρ : Rho} {r : R P} {f : P -> YlA -> R Src} {Q : It -> Hp -> Prop} {Q' : VK} (h : Ymf X as H ρ (r.bind f) Q)
 (go : ∀ p st1 as1 H1 v, Ext as H as1 H1 -> Rep X.K as1 st1 H1 -> Den X.K as1 H1 v p -> Ymf X as1 H1 ρ (f p st1) Q -> Q' v H1) : YlL X as H ρ r Q' := by
 cases r with
 | ok p st1 => exact fun as1 H1 v x rp d => go p st1 as1 H1 v x rp d (Ymf.ext x h)
 | exc k st' => exact h
 | bad => exact h
theorem Ymf.bindA {as : List Addr} {H : Hp} {ρ : Rho} {r : R (List P)} {f : List P -> YlA -> R Src} {Q : It -> Hp -> Prop} {Q' : List V -> Hp -> Prop} (h : Ymf X as H ρ (r.bind f) Q)
 (go : ∀ p st1 as1 H1 v, Ext as H as1 H1 -> Rep X.K as1 st1 H1 -> Dens X.K as1 H1 v p -> Ymf X as1 H1 ρ (f p st1) Q -> Q' v H1) : Yml X as H ρ r Q' := by
 cases r with
 | ok p st1 => exact fun as1 H1 v x rp d => go p st1 as1 H1 v x rp d (Ymf.ext x h)
 | exc k st' => exact h
 | bad => exact h
theorem Ymf.bindL {as : List Addr} {H : Hp} {ρ : Rho} {r : R (List P)} {f : List P -> YlA -> R Src} {Q : It -> Hp -> Prop} {Q' : VK} (h : Ymf X as H ρ (r.bind f) Q)
 (go : ∀ ps st1 as1 H1 l vs, Ext as H as1 H1 -> Rep X.K as1 st1 H1 -> H1 l = some (.lst vs) -> YnK as1 st1 l -> Dens X.K as1 H1 vs ps -> Ymf X as1 H1 ρ (f ps st1) Q -> Q' (.ref l) H1) : Yl1 X as H ρ r Q' := by
 cases r with
 | ok p st1 => exact fun as1 H1 l v x rp hl nl d => go p st1 as1 H1 l v x rp hl nl d (Ymf.ext x h)
 | exc k st' => exact h
 | bad => exact h
theorem Yjr : ItR X tg (fun x H R => (∃ a, x = .ref a /\ (∃ xs, SqL X.K H a xs) /\ R (Itl X.K a) H) \/ (∃ a, x = .ref a /\ (∃ xs, SqT X.K H a xs) /\ R (Itt X.K a) H) \/ ∃ z, x = .str z /\ R (Its z) H) := by
 show 220
 rcases h with h | h | h
 ·exact Yix pins s σ H x v R I rx h
 ·exact YjY pins s σ H x v R I rx h
 ·exact Yks pins s σ H x v R I rx h
theorem Zr {e : Expr} {me : ME} (he : JE X e me) : JI X tg e (YmQ me) := by
 intro pins s σ H R I ⟨as, ρ, st, en, rp, h⟩
 refine thn (he pins s σ H (fun x H1 => (∃ a, x = .ref a /\ (∃ xs, SqL X.K H1 a xs) /\ R (Itl X.K a) H1) \/ (∃ a, x = .ref a /\ (∃ xs, SqT X.K H1 a xs) /\ R (Itt X.K a) H1) \/ ∃ z, x = .str z /\ R (Its z) H1) I
  ⟨as, ρ, st, en, rp, Ymf.bindE h fun p st1 as1 H1 v x rp1 d h1 => ?_⟩) fun v s1 ⟨x, H1, I1, r1, q1⟩ => Yjr pins s1 σ H1 x v R I1 r1 q1
 cases d with
 | str => exact .inr (.inr ⟨_, rfl, h1 as1 H1 _ Ext.refl rp1 Yg2⟩)
 | tup e r => exact .inr (.inl ⟨_, rfl, ⟨_, e⟩, h1 as1 H1 _ Ext.refl rp1 (YgW e r)⟩)
 | ref e =>
  rename_i k a
  have h2 : Ymf X as1 H1 ρ (match (match st1[k]? with | some (.lst xs) => some (YmN k xs.length) | some (.ro xs) => some (YmN k xs.length) | _ => none) with | some s => .ok s st1 | none => .bad) R := h1
  cases q : st1[k]? with
  | none => rw [q] at h2; exact h2.elim
  | some o =>
   rw [q] at h2
   have ob := rp1.ob k a o e q
   cases o with
   | lst ys => obtain ⟨vs, g1, g2⟩ := ob; exact .inl ⟨a, rfl, ⟨vs, .of g1⟩, h2 as1 H1 _ Ext.refl rp1 (Ya1 e)⟩
   | ro ys => obtain ⟨vs, g1, g2⟩ := ob; exact .inl ⟨a, rfl, ⟨vs, Z0 g1⟩, h2 as1 H1 _ Ext.refl rp1 (Ya1 e)⟩
   | dct ys => exact h2.elim
   | exc c ys => exact h2.elim
   | dtt kvs => exact h2.elim
   | fdc kvs => exact h2.elim
 | _ => exact h1.elim
def YmF (lo : Int) (n : Nat) : Src := ⟨n, fun i _ => some (if i < n then some (.int (lo + i)) else none)⟩
theorem Ydr {K : Frag} {as : List Addr} {H : Hp} {lo : Int} {n : Nat} : YnS K as H (YmF lo n) (Itr lo n) where
 go := fun i as2 st2 H2 p x rp e => by
  have e' : some (if i < n then some (P.int (lo + i)) else none) = some (some p) := e
  by_cases hi : i < n
  ·rw [ZAE hi] at e'
   cases Option.some.inj (Option.some.inj e')
   exact ⟨hi, fun y H3 ⟨z1, z2⟩ => by subst z1; subst z2; exact ⟨Ext.refl, rp, .int⟩⟩
  ·rw [ZAF hi] at e'; cases Option.some.inj e'
 stop := fun i as2 st2 H2 x rp e => by
  have e' : some (if i < n then some (P.int (lo + i)) else none) = some none := e
  by_cases hi : i < n
  ·rw [ZAE hi] at e'; cases Option.some.inj e'
  ·exact Nat.le_of_not_lt hi
def small62 (i : Int) : Bool := decide (-(2 ^ 62) <= i) && decide (i < 2 ^ 62)
theorem Ja {i : Int} (h : small62 i = true) : -(2 ^ 62) <= i /\ i < 2 ^ 62 := ⟨ZA3 (ZBN.mp h).1, ZA3 (ZBN.mp h).2⟩
def YmC (mr : MA) : MI := fun ρ st => (mr ρ st).bind fun ps st1 => match ps with
 | [.int j] => if small62 j = true then .ok (YmF 0 j.toNat) st1 else .bad
 | [.int i, .int j] => if small62 i = true /\ small62 j = true then .ok (YmF i (j - i).toNat) st1 else .bad
 | _ => .bad
theorem ZA {a : Expr} {mr : MA} {p pos : Pos} (hg : Gl X "range") (hm : X.mg "range" = none) (ha : JA X [a] mr) (hl : ∀ ρ st ps st', mr ρ st = .ok ps st' -> ps.length = 1) (hs : starEach [a] X.env = [(false, eval a X.env)] := by rfl) : JI X tg (.Call (.Name "range" p) [a] [] pos) (YmC mr) := by
 intro pins s σ H R I ⟨as, ρ, st, en, rp, h⟩
 refine YeK (tg := tg) hg hm ha hs pins s σ H R I ⟨as, ρ, st, en, rp, ?_⟩
 unfold YmC at h
 cases q : mr ρ st with
 | bad => show 151
 | exc k st' => show 151
 | ok ps st1 =>
  show 152
  have hl := hl ρ st ps st1 q
  intro as1 H1 vs x rp1 d
  have h1 := Ymf.ext x h
  cases d with
  | nil => cases hl
  | cons d1 d2 =>
   cases d2 with
   | cons d3 d4 => cases hl
   | nil =>
    cases d1 with
    | int =>
     rename_i j
     have h2 : Ymf X as1 H1 ρ (if small62 j = true then .ok (YmF 0 j.toNat) st1 else .bad) R := h1
     by_cases hj : small62 j = true
     ·rw [ZAE hj] at h2
      exact ⟨j, rfl, (Ja hj).1, (Ja hj).2, h2 as1 H1 _ Ext.refl rp1 Ydr⟩
     ·rw [ZAF hj] at h2; exact h2.elim
    | _ => exact h1.elim
theorem Zz {me : ME} {mr : MA} {n : Nat} (h : ∀ ρ st ps st', mr ρ st = .ok ps st' -> ps.length = n) : ∀ ρ st ps st', Yly me mr ρ st = .ok ps st' -> ps.length = n + 1 := by
 intro ρ st ps st' e
 unfold Yly at e
 cases q : me ρ st with
 | bad => show 191
 | exc k s => show 191
 | ok p s1 =>
  rw [q, R.bind_ok] at e
  cases q2 : mr ρ s1 with
  | bad => rw [q2] at e; cases e
  | exc k s => rw [q2] at e; cases e
  | ok qs s2 =>
   rw [q2, R.bind_ok] at e
   cases e
   rw [ZAQ, h _ _ _ _ q2]
theorem Z8 : ∀ ρ st ps st', YlD ρ st = .ok ps st' -> ps.length = 0 := by
 intro ρ st ps st' e
 cases e
 rfl
end
def Ymc (cells : List (Str × Addr)) : List (Str × NameKind) -> List (Str × Addr) -> List (Str × Addr)
 | [], acc => acc
 | (n, k) :: r, acc => if (k == NameKind.free) = true then match cells.lookup n with
  | some c => Ymc cells r ((n, c) :: acc)
  | none => Ymc cells r acc
  else Ymc cells r acc
theorem YaN {scope : Scope} {env : Env} (h : ∀ x ∈ scope.names, x.2 = .free -> ∃ c, env.cells.lookup x.1 = some c) : closureFor scope env = pure (Ymc env.cells scope.names []) := by
 unfold closureFor
 have key : ∀ (names : List (Str × NameKind)) (acc : List (Str × Addr)), (∀ x ∈ names, x.2 = .free -> ∃ c, env.cells.lookup x.1 = some c) ->
  (forIn names acc fun x r => match x with | (name, kind) => (if (kind == NameKind.free) = true then do let y <- cellOf env name; pure (ForInStep.yield ((name, y) :: r)) else pure (ForInStep.yield r) : Sem (ForInStep (List (Str × Addr))))) = (pure (Ymc env.cells names acc) : Sem _) := by
  intro names
  induction names with
  | nil => intro acc _; rfl
  | cons x r ih =>
   intro acc hx
   obtain ⟨n, k⟩ := x
   rw [List.forIn_cons]
   have hr := fun y hy => hx y (ZAW _ hy)
   by_cases hk : (k == NameKind.free) = true
   ·obtain ⟨c, hc⟩ := hx (n, k) List.mem_cons_self (by simpa using hk)
    simp only [hk, if_true, Ymc]
    have hc' : env.cells.lookup n = some c := hc
    have e : cellOf env n = pure c := by unfold cellOf; rw [hc']
    rw [e, hc']
    exact ih _ hr
   ·simp only [hk, Ymc]
    exact ih _ hr
 exact Eq.trans (ZAk (fun m => m >>= fun cs => pure cs) (key scope.names [] h)) rfl
theorem Zm {cells : List (Str × Addr)} {x : Str} {c : Addr} : ∀ {names : List (Str × NameKind)} {acc : List (Str × Addr)}, (Ymc cells names acc).lookup x = some c -> acc.lookup x = some c \/ cells.lookup x = some c
 | [], acc, h => .inl h
 | (n, k) :: r, acc, h => by
  unfold Ymc at h
  split at h
  ·split at h
   ·rename_i c' hc
    rcases Zm h with z | z
    ·rw [ZA6] at z
     cases hx : x == n with
     | true =>
      rw [hx] at z
      have := eq_of_beq hx
      subst this
      exact .inr (by rw [hc]; exact z)
     | false => rw [hx] at z; exact .inl z
    ·exact .inr z
   ·exact Zm h
  ·exact Zm h
theorem Wc {cells : List (Str × Addr)} {x : Str} : ∀ {names : List (Str × NameKind)} {acc : List (Str × Addr)}, (∃ c, acc.lookup x = some c) -> ∃ c, (Ymc cells names acc).lookup x = some c
 | [], acc, h => h
 | (n, k) :: r, acc, h => by
  unfold Ymc
  split
  ·split
   ·refine Wc ?_
    rw [ZA6]
    cases hx : x == n with
    | true => exact ⟨_, rfl⟩
    | false => exact h
   ·exact Wc h
  ·exact Wc h
theorem ZI {cells : List (Str × Addr)} {x : Str} {c : Addr} (hc : cells.lookup x = some c) : ∀ {names : List (Str × NameKind)} {acc : List (Str × Addr)}, (x, NameKind.free) ∈ names -> ∃ c, (Ymc cells names acc).lookup x = some c
 | [], acc, h => by cases h
 | (n, k) :: r, acc, h => by
  unfold Ymc
  rcases ZAT.mp h with e | e
  ·cases e
   simp only [beq_self_eq_true, if_true, hc]
   exact Wc ⟨c, by simp [List.lookup_cons]⟩
  ·split
   ·split
    ·exact ZI hc e
    ·exact ZI hc e
   ·exact ZI hc e
theorem ZG {scope : Scope} {env : Env} {x : Str} {k : NameKind} (h : (relabel scope env).names.lookup x = some k) : scope.names.lookup x = some k \/ (k = .cell /\ scope.names.lookup x = some .free) := by
 unfold relabel at h
 simp only at h
 generalize scope.names = names at h ⊢
 induction names with
 | nil => cases h
 | cons y r ih =>
  obtain ⟨n, j⟩ := y
  rw [ZAV] at h
  rw [ZA6]
  cases hx : x == n with
  | true =>
   simp only
   split at h
   ·rename_i hc
    rw [ZA6, hx] at h
    simp only [Bool.and_eq_true, beq_iff_eq] at hc
    rw [hc.1.1]
    exact .inr ⟨(Option.some.inj h).symm, rfl⟩
   ·rw [ZA6, hx] at h
    exact .inl h
  | false =>
   simp only
   split at h
   ·rw [ZA6, hx] at h; exact ih h
   ·rw [ZA6, hx] at h; exact ih h
theorem Yev {prog : Program} {w : World} {A : Around} {R : Result -> Shared -> Prop} {s : Shared} {elt target iter : Expr} {ifs : List Expr} {scope : Scope} {pos : Pos} {it acc : Value} {env : Env} (I : Nat -> Shared -> Prop)
 (turn : ∀ n s, I n s -> wpAny (model prog w) A (pyNext it) (fun r s₁ => match r with
  | none => R (.ok .next) s₁
  | some v => wpAny (model prog w) A (letOwnedTupleGo target it v) (fun _ s₁' => wpAny (model prog w) A (assign target env v) (fun _ s₂ =>
   wpAny (model prog w) A (forIn ifs true fun c r => if r = true then do let ok <- isTrue c env (eval c env); pure (ForInStep.yield ok) else pure (ForInStep.yield r)) (fun ok s₃ =>
    if ok = true then wpAny (model prog w) A (eval elt env) (fun x s₄ =>
     wpAny (model prog w) A (call (.builtin "list.append") [acc, x]) (fun _ s₅ => ∃ m, m < n /\ I m s₅) (notedBy (model prog w) A env fun e s' => R (.error e) s') s₄) (notedBy (model prog w) A env fun e s' => R (.error e) s') s₃
    else ∃ m, m < n /\ I m s₃) (notedBy (model prog w) A env fun e s' => R (.error e) s') s₂) (notedBy (model prog w) A env fun e s' => R (.error e) s') s₁') (notedBy (model prog w) A env fun e s' => R (.error e) s') s₁) (notedBy (model prog w) A env fun e s' => R (.error e) s') s)
 (n : Nat) (h : I n s) :
 codeAny (model prog w) A (.compLoop (.ListComp elt [⟨target, iter, ifs, 0⟩] scope pos) 0 it acc env) R s := by
 refine codeAny_loop rfl I (fun n s hI => ?_) n h
 show wpAny _ A ((compTurn (.ListComp elt [⟨target, iter, ifs, 0⟩] scope pos) 0 it acc env).onRaise (fun x => do noteFrame x env; theTreesLotGoes x)) _ _ s
 refine wpAny_noted ?_
 rw [compTurn_list]
 refine ZAA (ZBl (ZAA (ZAi (turn n s hI) (fun r s₁ h₁ => ?_) fun _ _ h' => h')))
 cases r with
 | none => exact ZAC h₁
 | some v =>
  refine ZAA (ZAi h₁ (fun _ s₁' h₁' => ?_) fun _ _ h' => h')
  refine ZAA (ZAi h₁' (fun _ s₂ h₂ => ZAA (ZAi h₂ (fun ok s₃ h₃ => ?_) fun _ _ h' => h')) fun _ _ h' => h')
  cases ok with
  | false => exact ZAC ⟨rfl, h₃⟩
  | true =>
   exact ZAA (ZAA (ZAi h₃ (fun x s₄ h₄ => ZAA (ZAi h₄ (fun _ s₅ h₅ => ZAC (ZAC ⟨rfl, h₅⟩)) fun _ _ h' => h')) fun _ _ h' => h'))
def YlY (X : Cx) (scope : Scope) (N : List Str) (C : Addr) (s₀ : Shared) (H₀ : Hp) (ex : List Addr) : Cx where
 prog := X.prog
 w := X.w
 K := X.K
 mg := X.mg
 base := X.base
 A := X.A
 N := N
 s₀ := s₀
 H₀ := H₀
 env := compEnvC scope (Ymc X.env.cells scope.names []) C X.env
 outer := X.stack
 stack := X.stack
 ex := ex
 fn := fun _ => false
 calm := X.calm
 pn := []
 xe := fun _ _ => False
structure Ymr (X : Cx) (scope : Scope) (TN FN : List Str) (fr : List Nat) : Prop where
 cell : ∀ y ∈ scope.names, y.2 ≠ .cell
 kind : scope.kind = .function
 names : ∀ y ∈ scope.names, y.2 = .local -> scope.names.lookup y.1 = some .local
 free : ∀ y ∈ scope.names, y.2 = .free -> X.env.kindOf y.1 = some .cell \/ X.env.kindOf y.1 = some .free
 lk : ∀ y, scope.names.lookup y = some .free -> (y, NameKind.free) ∈ scope.names
 flen : FN.length = fr.length
 at_ : ∀ (j : Nat) x k, FN[j]? = some x -> fr[j]? = some k -> X.N[k]? = some x /\ scope.names.lookup x = some .free
def rho0 (n : Nat) (fr : List Nat) (ρ : Rho) : Rho := List.replicate n none ++ fr.map fun k => (ρ[k]?).join
section
variable {X : Cx} {scope : Scope} {TN FN : List Str} {fr : List Nat} {pins : LAO} {σ : St} {H : Hp} {s₂ s₄ : Shared} {fp : List Addr} {C : Addr}
theorem Ymr.has (c : Ymr X scope TN FN fr) (ok : X.Ok) : ∀ x ∈ scope.names, x.2 = .free -> ∃ c, X.env.cells.lookup x.1 = some c := fun x hx e => ok.has x.1 (c.free x hx e)
theorem Ymr.cl (c : Ymr X scope TN FN fr) {x : Str} {a : Addr} (h : (Ymc X.env.cells scope.names []).lookup x = some a) : X.env.cells.lookup x = some a := by
 rcases Zm h with z | z
 ·cases z
 ·exact z
theorem Ymr.freeOf (c : Ymr X scope TN FN fr) {x : Str} (h : (relabel scope X.env).names.lookup x = some .cell \/ (relabel scope X.env).names.lookup x = some .free) : scope.names.lookup x = some .free := by
 have nc : scope.names.lookup x ≠ some .cell := fun z => c.cell _ (PySem.mem_of_lookup z) rfl
 rcases h with h | h
 ·rcases ZG h with z | ⟨_, z⟩
  ·exact absurd z nc
  ·exact z
 ·rcases ZG h with z | ⟨z, _⟩
  ·exact z
  ·cases z
theorem YkH (c : Ymr X scope TN FN fr) (I : Inv X pins σ H s₂) (hf : ∀ b ∈ fp, YmR X pins H b) (hfo : ∀ b ∈ fp, ∃ o, s₂.heap.get? b = some o) (hC : s₂.heap.objs.size <= C) : (YlY X scope (TN ++ FN) C s₂ H fp).Ok where
 mod := I.ok.mod
 kind := c.kind
 glob := I.ok.glob
 blt := I.ok.blt
 above := hC
 inj := fun x y a h1 h2 => I.ok.inj x y a (c.cl h1) (c.cl h2)
 has := fun x h => by
  have hx := c.freeOf h
  obtain ⟨a, ha⟩ := c.has I.ok _ (c.lk x hx) rfl
  exact ZI ha (c.lk x hx)
 cab := fun x a h => by cases h
 hd := I.ok.hd
 frames := I.ok.frames
 stk := .inl rfl
 exf := fun b hb => by
  obtain ⟨f0, f1, f2, f3, f4, f5⟩ := hf b hb
  obtain ⟨o, ho⟩ := hfo b hb
  exact ⟨ZAP (ZAM (ZAG ho) hC), fun x a h => f4 x a (c.cl h)⟩
 bs := I.bs
 bsz := ZAO I.ok.bsz I.sz
 noex := fun b o e hb => by
  obtain ⟨f0, f1, f2, f3, f4, f5⟩ := hf b hb
  rcases f3 with z | z
  ·exact I.ok.noex b o e z
  ·exact absurd (ZAM (ZAG e) (ZAO I.ok.bsz z)) (ZBH _)
 exfs := fun b hb hz => by
  obtain ⟨f0, f1, f2, f3, f4, f5⟩ := hf b hb
  rcases ZAT.mp (I.stkSub b hz) with e | e
  ·exact f1 e
  ·exact f2 e
 funs := I.stack
 frf := I.stkFree
theorem getElem?_rho0 {n : Nat} {ρ : Rho} {i : Nat} {p : P} (h : (rho0 n fr ρ)[i]? = some (some p)) : ∃ j k, i = n + j /\ fr[j]? = some k /\ ρ[k]? = some (some p) := by
 unfold rho0 at h
 by_cases hi : i < n
 ·rw [List.getElem?_append_left (by simpa using hi), List.getElem?_replicate, if_pos hi] at h
  cases h
 ·rw [List.getElem?_append_right (by simpa using hi), List.length_replicate, List.getElem?_map] at h
  refine ⟨i - n, ?_⟩
  cases q : fr[i - n]? with
  | none => show 162
  | some k =>
   show 152
   refine ⟨k, by omega, rfl, ?_⟩
   have h' : (ρ[k]?).join = some p := Option.some.inj h
   cases w : ρ[k]? with
   | none => rw [w] at h'; cases h'
   | some o => rw [w] at h'; rw [show o = some p from h']
def sig0 (n : Nat) (fr : List Nat) (σ : St) : St := List.replicate n none ++ fr.map fun k => (σ[k]?).join
theorem Yf7 {n : Nat} : (sig0 n fr σ).length = n + fr.length := by simp [sig0]
theorem getElem?_sig0 {n : Nat} {i : Nat} {v : V} (h : (sig0 n fr σ)[i]? = some (some v)) : ∃ j k, i = n + j /\ fr[j]? = some k /\ σ[k]? = some (some v) := by
 unfold sig0 at h
 by_cases hi : i < n
 ·rw [List.getElem?_append_left (by simpa using hi), List.getElem?_replicate, if_pos hi] at h
  cases h
 ·rw [List.getElem?_append_right (by simpa using hi), List.length_replicate, List.getElem?_map] at h
  refine ⟨i - n, ?_⟩
  cases q : fr[i - n]? with
  | none => show 162
  | some k =>
   show 152
   refine ⟨k, by omega, rfl, ?_⟩
   have h' : (σ[k]?).join = some v := Option.some.inj h
   cases w : σ[k]? with
   | none => rw [w] at h'; cases h'
   | some o => rw [w] at h'; rw [show o = some v from h']
theorem env0 {K : Frag} {as : List Addr} {ρ : Rho} {n : Nat} (en : YlO K as H ρ σ) : YlO K as H (rho0 n fr ρ) (sig0 n fr σ) :=
 ⟨by simp [rho0, sig0], fun i p e => by
  obtain ⟨j, k, e1, e2, e3⟩ := getElem?_rho0 e
  obtain ⟨v, h1, h2⟩ := en.val k p e3
  refine ⟨v, ?_, h2⟩
  subst e1
  unfold sig0
  rw [List.getElem?_append_right (by simp), List.length_replicate, List.getElem?_map]
  have : n + j - n = j := by omega
  rw [this, e2]
  simp [h1]⟩
theorem Yhp (c : Ymr X scope TN FN fr) (I : Inv X pins σ H s₂) (hf : ∀ b ∈ fp, YmR X pins H b) (hfo : ∀ b ∈ fp, ∃ o, s₂.heap.get? b = some o) (hC : s₂.heap.objs.size <= C) {h' : Heap} {tk : Nat}
 (hk : ∀ b o, s₂.heap.get? b = some o -> h'.get? b = some o) (hn : h'.Ns C fun _ => none) : Inv (YlY X scope (TN ++ FN) C s₂ H fp) [] (sig0 TN.length fr σ) H { s₂ with heap := h', toks := tk } where
 ok := YkH c I hf hfo hC
 os := rfl
 bare := I.bare
 base := Un.kept hk
 loc := ⟨_, hn, fun i x v h1 h2 h3 => by
  obtain ⟨j, k, e1, e2, e3⟩ := getElem?_sig0 h2
  have h1' : (TN ++ FN)[i]? = some x := h1
  subst e1
  rw [ZBI (by omega)] at h1'
  have : TN.length + j - TN.length = j := by omega
  rw [this] at h1'
  obtain ⟨g1, g2⟩ := c.at_ j x k h1' e2
  obtain ⟨m, _, hl⟩ := I.loc
  have hcf := c.free _ (c.lk x g2) rfl
  have vis : Vis X.env.scope x := .inr hcf
  obtain ⟨u, r, q⟩ := hl k x v g1 e3 vis
  refine ⟨u, r, .inr ?_⟩
  rcases q with ⟨q1, _⟩ | ⟨_, a, q2, q3⟩
  ·rcases hcf with z | z
   ·have : X.env.kindOf x = some .cell := z
    rw [q1] at this; cases this
   ·have : X.env.kindOf x = some .free := z
    rw [q1] at this; cases this
  ·refine ⟨?_, a, ?_, ?_⟩
   ·rcases h3 with z | z | z
    ·have w : (relabel scope X.env).names.lookup x = some .local := z
     rcases ZG w with w | ⟨w, _⟩
     ·rw [g2] at w; cases w
     ·cases w
    ·exact .inl z
    ·exact .inr z
   ·obtain ⟨a', ha'⟩ := ZI (cells := X.env.cells) q2 (acc := []) (c.lk x g2)
    have := c.cl ha'
    rw [q2] at this; cases this
    exact ha'
   ·obtain ⟨o, ho, hd⟩ := q3
    exact ⟨o, hk a o ho, hd⟩⟩
 cell := fun x a h => by
  obtain ⟨v, o, ho, hd⟩ := I.cell x a (c.cl h)
  exact ⟨v, o, hk a o ho, hd⟩
 free := I.hok.fresh hC
 freeC := fun x a h => I.freeC x a (c.cl h)
 pin := fun p hp => absurd (show p ∈ ([] : LAO) from hp) (by simp)
 hok := I.hok.kept hk
 len := by
  rw [Yf7]
  show _ = (TN ++ FN).length
  rw [ZAD, c.flen]
theorem Inv.track {s : Shared} {D : Addr} {vs : List V} {its : List Value} {n : Nat} (I : Inv X pins σ H s) (hD : s.heap.get? D = some { cls := .type "list", data := .seq its.toArray n }) (hn : H D = none) (rv : Vals vs its) (hz : vs.length <= sizeLine)
 (h1 : X.s₀.heap.objs.size <= D) (h2 : D ≠ X.env.locals) (h3 : ∀ x c, X.env.cells.lookup x = some c -> c ≠ D) (h4 : ∀ p ∈ X.pn ++ pins, p.1 ≠ D) : Inv X pins σ (upd H D (.lst vs)) s := by
 have q := I.step (H' := upd H D (.lst vs)) (h' := s.heap) (g' := s.gens) (t' := s.toks) (d' := s.drawn) (ch := [D]) (fun b hb => by
  have e : b = D := by simpa using hb
  subst e
  exact ⟨.inr h1, h2, h3, h4⟩) (fun b o _ _ _ e _ => e) (fun b o _ _ _ e _ => ⟨o.slots, e⟩) (fun b o hb e n => by rw [Yi (by simpa using hb)]; exact n) (fun b o _ e => ⟨o, e⟩)
  (fun b xs e => by rw [Yi (Yg e hn)]; exact e) (fun b o u e => by rw [Yi (Yg e hn)]; exact e) (fun b ps e => ⟨#[], by rw [Yi (Yg e hn), e]; simp⟩) (fun m h => h) (fun b u e => ?_) I.bare
 ·exact q
 ·by_cases hb : b = D
  ·subst hb
   rw [Ym] at e
   cases e
   exact ⟨hz, its, n, rv, hD⟩
  ·rw [Yi hb] at e
   exact (I.hok b u e).stay (fun c v _ q => q) (fun c q => by rw [Yi (Yg q hn)]; exact q) fun c xs q => by rw [Yi (Yg q hn)]; exact q
end
def YlV (src : Src) (g : MG) (nt : MT) (me : ME) (ρ0 : Rho) : Nat -> Nat -> YlA -> List P -> R (List P)
 | 0, i, st, acc => match src.nx i st with
  | some none => .ok acc st
  | _ => .bad
 | n + 1, i, st, acc => match src.nx i st with
  | some none => .ok acc st
  | none => .bad
  | some (some p) => match g p ρ0 st with
   | none => .bad
   | some ρ1 => match nt ρ1 st with
    | .ok false st1 => YlV src g nt me ρ0 n (i + 1) st1 acc
    | .ok true st1 => match me ρ1 st1 with
     | .ok q st2 => if acc.length < cap then YlV src g nt me ρ0 n (i + 1) st2 (acc ++ [q]) else .bad
     | _ => .bad
    | _ => .bad
def Ymp (mi : MI) (n : Nat) (fr : List Nat) (g : MG) (nt : MT) (me : ME) : MA := fun ρ st => (mi ρ st).bind fun src st1 => YlV src g nt me (rho0 n fr ρ) src.n 0 st1 []
def PTs (X : Cx) (ifs : List Expr) (t : TT) : Prop :=
 ∀ (pins : LAO) (s : Shared) (σ : St) (H : Hp) (Q : Bool -> Hp -> Prop), Inv X pins σ H s -> t σ H Q ->
  wpAny (model X.prog X.w) X.A (forIn ifs true fun c r => if r = true then do let ok <- isTrue c X.env (eval c X.env); pure (ForInStep.yield ok) else pure (ForInStep.yield r)) (TP X pins σ Q) X.xe s
abbrev JTs (X : Cx) (ifs : List Expr) (nt : MT) : Prop := PTs X ifs (tT X nt)
def Ymd : MT := fun _ st => .ok true st
theorem Zv {X : Cx} : JTs X [] Ymd := fun pins s σ H Q I ⟨as, ρ, st, en, rp, h⟩ => wpAny_tests_nil ⟨H, I, h as H Ext.refl rp⟩
theorem Yek {X : Cx} {c : Expr} {nt : MT} (h : JT X c nt) : JTs X [c] nt := fun pins s σ H Q I t => wpAny_tests_one (h pins s σ H Q I t)
def YnL (n : Nat) (g : MG) : Prop := ∀ p ρ st ρ1, g p ρ st = some ρ1 -> ρ1.length = ρ.length /\ ∀ i : Nat, n <= i -> ρ1[i]? = ρ[i]?
def YnU (n : Nat) (g : MGs) : Prop := ∀ p ρ st ρ1, g p ρ st = some ρ1 -> ρ1.length = ρ.length /\ ∀ i : Nat, n <= i -> ρ1[i]? = ρ[i]?
theorem Y3 {n i : Nat} (h : i < n) : YnL n (YlC i) := fun p ρ st ρ1 e => by
 cases e
 exact ⟨by simp, fun j hj => by rw [List.getElem?_set_ne (by omega)]⟩
theorem Yie {n : Nat} : YnU n YmG := fun p ρ st ρ1 e => by
 cases p with
 | nil => cases e; exact ⟨rfl, fun _ _ => rfl⟩
 | cons a b => cases e
theorem YcX {n : Nat} {g : MG} {r : MGs} (h1 : YnL n g) (h2 : YnU n r) : YnU n (YlS g r) := fun p ρ st ρ1 e => by
 cases p with
 | nil => cases e
 | cons a b =>
  have e' : (g a ρ st).bind (fun ρ1 => r b ρ1 st) = some ρ1 := e
  cases z : g a ρ st with
  | none => rw [z] at e'; cases e'
  | some ρ2 =>
   rw [z] at e'
   obtain ⟨a1, a2⟩ := h1 _ _ _ _ z
   obtain ⟨b1, b2⟩ := h2 _ _ _ _ (show r b ρ2 st = some ρ1 from e')
   exact ⟨b1.trans a1, fun i hi => (b2 i hi).trans (a2 i hi)⟩
section
variable {X : Cx}
theorem YlO.back {K : Frag} {as : List Addr} {H : Hp} {n : Nat} {fr : List Nat} {ρ ρ1 : Rho} {σ : St} (e : YlO K as H ρ1 σ) (hl : ρ1.length = (rho0 n fr ρ).length) (hk : ∀ i : Nat, n <= i -> ρ1[i]? = (rho0 n fr ρ)[i]?) : YlO K as H (rho0 n fr ρ) σ :=
 ⟨by rw [<- hl]; exact e.len, fun i p q => by
  obtain ⟨j, k, e1, _, _⟩ := getElem?_rho0 q
  exact e.val i p (by rw [hk i (by omega)]; exact q)⟩
set_option maxHeartbeats 4000000 in
theorem Ya7 {elt tg iter : Expr} {ifs : List Expr} {scope : Scope} {pos pos0 : Pos} {TN FN : List Str} {fr : List Nat} {mi : MI} {g : MG} {nt : MT} {me : ME} {use : Option (Value -> Sem Unit)} {Q0 : VSP} {pins : LAO} {s : Shared} {σ : St} {H : Hp} {Q : VK}
 (hc : X.calm = true) (c : Ymr X scope TN FN fr) (hi : JI X tg iter mi) (hgo : YnL TN.length g)
 (hb : ∀ C s₀ H₀ ex, JG (YlY X scope (TN ++ FN) C s₀ H₀ ex) tg g /\ JTs (YlY X scope (TN ++ FN) C s₀ H₀ ex) ifs nt /\ JE (YlY X scope (TN ++ FN) C s₀ H₀ ex) elt me)
 (hs : ∀ x, foldedSetIterable iter X.env x = pure x) (I : Inv X pins σ H s) (ht : tL X (Ymp mi TN.length fr g nt me) σ H Q)
 (hend : ∀ (s4 : Shared) (C D : Addr) (H' : Hp), (∃ m, s4.heap.Ns C m) -> H' C = none -> YmR X pins H' C -> (∀ h', Heap.SameBut C s4.heap h' -> Inv X pins σ H' { s4 with heap := h' }) -> Q (.ref D) H' -> compPost (model X.prog X.w) X.A X.xe use Q0 (.ref D) C (.ok .next) s4) :
 wpAny (model X.prog X.w) X.A (comprehension (.ListComp elt [⟨tg, iter, ifs, 0⟩] scope pos) scope X.env pos0 (newList []) false (eval iter X.env) use) Q0 X.xe s := by
 obtain ⟨as, ρ, st, en, rp, h⟩ := ht
 refine wpAny_comprehension_free (use := use) rfl hs (YaN (c.has I.ok)) c.kind c.names ?_
 refine thn (hi pins s σ H (fun J H1 => ∃ as1 src st1, Ext as H as1 H1 /\ Rep X.K as1 st1 H1 /\ YnS X.K as1 H1 src J /\ Yl1 X as1 H1 ρ (YlV src g nt me (rho0 TN.length fr ρ) src.n 0 st1 []) Q) I ⟨as, ρ, st, en, rp, ?_⟩) fun v s1 h1 => thn h1 fun itv s2 h2 => ?_
 ·unfold Ymp at h
  cases q : mi ρ st with
  | bad => show 151
  | exc k st' => show 151
  | ok src st1 =>
   show 152
   exact fun as1 H1 J x rp1 ok => ⟨as1, src, st1, x, rp1, ok, Yl1.ext x h⟩
 obtain ⟨it, fp, tn, J, H2, rfl, I2, T, st2, f2, as1, src, st1, x1, rp1, ok, hp⟩ := h2
 have hfo : ∀ b ∈ fp, ∃ o, s2.heap.get? b = some o := fun b hb => let ⟨o, e, _⟩ := T.obj 0 _ st2 b hb; ⟨o, e⟩
 have hfl : ∀ b ∈ fp, b < s2.heap.objs.size := fun b hb => let ⟨o, e⟩ := hfo b hb; ZAG e
 refine wpAny_newObj_type (wpAny_newFunctionEnv c.cell (by intro y hy; simp at hy) (fun h₁ hns hsb => ?_) c.kind)
 dsimp only at hns hsb ⊢
 generalize hH2 : s2.heap.push { cls := .type "list", dict := none, data := .seq ([] : List Value).toArray } = G at hns hsb ⊢
 have hGC : G.objs.size = s2.heap.objs.size + 1 := by rw [<- hH2, ZAw]
 have hDC : s2.heap.objs.size ≠ G.objs.size := by omega
 have hC : s2.heap.objs.size <= G.objs.size := by omega
 have keep : ∀ b o, s2.heap.get? b = some o -> h₁.get? b = some o := fun b o e => hsb.extBut b o (ZAP (ZAM (ZAG e) hC)) (ZAB _ (hH2 ▸ ZAB _ e))
 have hD0 : h₁.get? s2.heap.objs.size = some { cls := .type "list", data := .seq ([] : List Value).toArray 0 } := hsb.extBut _ _ hDC (ZAB _ (hH2 ▸ ZAK _ rfl))
 have hns' : h₁.Ns G.objs.size fun _ => none := by simpa using hns
 obtain ⟨bg, bt, be⟩ := hb G.objs.size s2 H2 fp
 have HD0 : H2 s2.heap.objs.size = none := I2.hok.fresh (ZAI _)
 have loop : ∀ s₃ : Shared, s₃ = { s2 with heap := h₁, toks := s2.toks + ([] : List (Str × Value)).length } ->
  codeAny (model X.prog X.w) X.A (.compLoop (.ListComp elt [⟨tg, iter, ifs, 0⟩] scope pos) 0 (.ref it) (.ref s2.heap.objs.size) (compEnvC scope (Ymc X.env.cells scope.names []) G.objs.size X.env))
   (compPost (model X.prog X.w) X.A X.xe use Q0 (.ref s2.heap.objs.size) G.objs.size) s₃ := by
  rintro s₃ rfl
  have IY := Yhp (tk := s2.toks + ([] : List (Str × Value)).length) c I2 f2 hfo hC keep hns'
  have stat : ∀ {H' : Hp} {pl : LAO}, (∀ b ∈ fp, H' b = none) -> (∀ p ∈ pl, ∀ b ∈ fp, p.1 ≠ b) -> ∀ b ∈ fp, YmR (YlY X scope (TN ++ FN) G.objs.size s2 H2 fp) pl H' b := fun {H' pl} hn hpl b hb => by
   obtain ⟨f0, f1, f2', f3, f4, f5⟩ := f2 b hb
   refine ⟨hn b hb, ?_, ?_, .inl hb, fun y a e => f4 y a (c.cl e), fun p hp => hpl p hp b hb⟩
   ·exact ZAP (ZAM (hfl b hb) hC)
   ·intro z
    rcases ZAT.mp (I2.stkSub b z) with e | e
    ·exact f1 e
    ·exact f2' e
  have nDf : s2.heap.objs.size ∉ frs X.stack := fun z => by
   rcases ZAT.mp (I2.stkSub _ z) with e | e
   ·exact absurd (e ▸ I2.lt) (ZBH _)
   ·exact I2.nofs (ZAI _) e
  have cellD : ∀ y a, X.env.cells.lookup y = some a -> a ≠ s2.heap.objs.size := fun y a e => by
   obtain ⟨v, q⟩ := I2.cell y a e
   exact ZAP q.lt
  refine Yev (fun n s' => ∃ i as' st' H' σ' acc vs its m, Inv (YlY X scope (TN ++ FN) G.objs.size s2 H2 fp) [] σ' H' s' /\ YlO X.K as' H' (rho0 TN.length fr ρ) σ' /\ Ext as1 H2 as' H' /\ Rep X.K as' st' H' /\ tn i s'.heap /\ (∀ b ∈ fp, H' b = none) /\
   s'.heap.get? s2.heap.objs.size = some { cls := .type "list", data := .seq its.toArray m } /\ H' s2.heap.objs.size = none /\ Vals vs its /\ Dens X.K as' H' vs acc /\ acc.length <= cap /\ Yl1 X as' H' ρ (YlV src g nt me (rho0 TN.length fr ρ) n i st' acc) Q) ?_ src.n
   ⟨0, as1, st1, H2, _, [], [], [], 0, IY, env0 (YlO.ext x1 en), Ext.refl, rp1, T.keep _ _ _ st2 fun b hb o e => keep b o e, fun b hb => (f2 b hb).1, hD0, HD0, .nil, .nil, ZBb _, hp⟩
  rintro n s3 ⟨i, as3, st3, H3, σ3, acc, vs, its, m, I3, en3, x3, rp3, tn3, fr3, hD, nD, rv, dn, hl, h⟩
  have nDloc : s2.heap.objs.size ≠ (YlY X scope (TN ++ FN) G.objs.size s2 H2 fp).env.locals := hDC
  have IP : Inv (YlY X scope (TN ++ FN) G.objs.size s2 H2 fp) [(s2.heap.objs.size, { cls := .type "list", data := .seq its.toArray m })] σ3 H3 s3 := I3.pins_of fun p hp => by
   have e : p = (s2.heap.objs.size, { cls := .type "list", data := .seq its.toArray m }) := by simpa using hp
   subst e
   exact ⟨hD, nD, nDloc, nDf, fun v z => by cases z⟩
  have hpl : ∀ p ∈ [(s2.heap.objs.size, ({ cls := .type "list", data := .seq its.toArray m } : Obj))], ∀ b ∈ fp, p.1 ≠ b := fun p hp b hb => by
   have e : p = (s2.heap.objs.size, { cls := .type "list", data := .seq its.toArray m }) := by simpa using hp
   subst e
   exact ZBV (hfl b hb)
  have done : src.nx i st3 = some none -> Yl1 X as3 H3 ρ (.ok acc st3) Q -> wpAny (model X.prog X.w) X.A (pyNext (.ref it)) (fun r s₁ => r = none /\ compPost (model X.prog X.w) X.A X.xe use Q0 (.ref s2.heap.objs.size) G.objs.size (.ok .next) s₁)
   (notedBy (model X.prog X.w) X.A (compEnvC scope (Ymc X.env.cells scope.names []) G.objs.size X.env) fun e s' => compPost (model X.prog X.w) X.A X.xe use Q0 (.ref s2.heap.objs.size) G.objs.size (.error e) s') s3 := fun e h => by
   refine thn (T.done (YlY X scope (TN ++ FN) G.objs.size s2 H2 fp) rfl rfl rfl hc i _ s3 σ3 H3 _ IP (stat fr3 hpl) tn3 (ok.stop i as3 st3 H3 x3 rp3 e)) fun r s4 ⟨hr, I4⟩ => ⟨hr, ?_⟩
   obtain ⟨m4, hn4, _⟩ := id I4.loc
   obtain ⟨hD4, nD4, _⟩ := I4.pin _ (ZAX _ ZAc)
   have inv : ∀ h', Heap.SameBut G.objs.size s4.heap h' -> Inv X pins σ (upd H3 s2.heap.objs.size (.lst vs)) { s4 with heap := h' } := fun h' sb => by
    have un : Un (frs X.stack) fp H2 H3 s2.heap h' := by
     have u := I4.base
     have up : ∀ b o, s2.heap.get? b = some o -> b ≠ G.objs.size := fun b o e => ZAP (ZAM (ZAG e) hC)
     exact ⟨fun b o e n hb hx => (sb.2 b (up b o e)).trans (u.keep b o e n hb hx), fun b o e n hb hx => let ⟨sl, q⟩ := u.slot b o e n hb hx; ⟨sl, (sb.2 b (up b o e)).trans q⟩, u.free, fun b o e hx => let ⟨o', q⟩ := u.there b o e hx; ⟨o', (sb.2 b (up b o e)).trans q⟩, u.tups, u.frzs, u.tbls⟩
    have hok : HOk X.prog X.w H3 h' := fun b u e => (I4.hok b u e).stay (fun c' v hc' q => by
     refine (sb.2 c' ?_).trans q
     rintro rfl
     have nC : H3 G.objs.size = none := I4.free
     rcases hc' with z | z
     ·rw [<- z, nC] at e; cases e
     ·rw [nC] at z; cases z) (fun _ q => q) fun _ _ q => q
    have IX : Inv X pins σ H3 { s4 with heap := h' } := I2.call' (s' := { s4 with heap := h' }) (ch := fp) I4.os un hok I4.bare fun b hb => ⟨(f2 b hb).2.2.2.1, (f2 b hb).2.1, (f2 b hb).2.2.2.2.1, (f2 b hb).2.2.2.2.2⟩
    have hDh : h'.get? s2.heap.objs.size = some { cls := .type "list", data := .seq its.toArray m } := (sb.2 _ hDC).trans hD4
    have IT := Inv.track (s := { s4 with heap := h' }) IX hDh nD rv (by rw [dn.length]; exact ZAO hl Yx) I2.sz (by have := I2.lt; exact ZBV this) cellD (fun p hp => ZAP (ZAG (I2.pin p hp).1))
    exact IT
   have nC : (upd H3 s2.heap.objs.size (.lst vs)) G.objs.size = none := by rw [Yi (ZBA hDC)]; exact I4.free
   exact hend s4 G.objs.size s2.heap.objs.size _ ⟨m4, hn4⟩ nC (I2.fpOk hC nC) inv (h as3 _ _ vs (Ext.laid nD) (rp3.laid nD) Ym (rp3.fresh nD) (dn.ext (Ext.laid nD)))
  have bad : ∀ {r : Option Value -> Shared -> Prop} {E : VSP}, False -> wpAny (model X.prog X.w) X.A (pyNext (.ref it)) r E s3 := fun f => f.elim
  cases e : src.nx i st3 with
  | none => cases n <;> (simp only [YlV, e] at h; exact h.elim)
  | some o =>
   cases o with
   | none =>
    have h' : Yl1 X as3 H3 ρ (.ok acc st3) Q := by cases n <;> (simp only [YlV, e] at h; exact h)
    exact thn (done e h') fun r s4 ⟨hr, q⟩ => by subst hr; exact q
   | some p =>
    cases n with
    | zero => simp only [YlV, e] at h; exact h.elim
    | succ n =>
     obtain ⟨g1, g2⟩ := ok.go i as3 st3 H3 p x3 rp3 e
     cases zg : g p (rho0 TN.length fr ρ) st3 with
     | none => simp only [YlV, e, zg] at h; exact h.elim
     | some ρ1 =>
      obtain ⟨gl, gk⟩ := hgo _ _ _ _ zg
      refine thn (T.item (YlY X scope (TN ++ FN) G.objs.size s2 H2 fp) rfl rfl rfl hc i _ s3 σ3 H3 _ IP (stat fr3 hpl) tn3 g1) fun r s4 ⟨u, hr, h4⟩ => ?_
      subst hr
      refine thn h4 fun _ s5 ⟨x, H5, I5, r5, y5, st5, fr5⟩ => ?_
      obtain ⟨x5, rp5, d5⟩ := g2 x H5 y5
      have nD5 : H5 s2.heap.objs.size = none := (I5.pin _ (ZAX _ ZAc)).2.1
      have I5' := I5.pinned (stat fr5 hpl) (T.obj _ _ st5)
      refine ZAi (bg _ s5 σ3 H5 x u (fun σ' H' => H' = H5 /\ YlO X.K as3 H5 ρ1 σ') I5' r5 ⟨as3, _, st3, p, ρ1, en3.ext x5, rp5, d5, zg, fun σ' en' => ⟨rfl, en'⟩⟩) (fun _ s6 ⟨σ6, H6, I6, e6, en6⟩ => ?_) fun _ _ f => f.elim
      subst e6
      cases zt : nt ρ1 st3 with
      | bad => simp only [YlV, e, zg, zt] at h; exact h.elim
      | exc k st' => simp only [YlV, e, zg, zt] at h; exact h.elim
      | ok k st4 =>
       refine ZAi (bt _ s6 σ6 H6 (fun k' H' => k' = k /\ ∃ as', Ext as3 H6 as' H' /\ Rep X.K as' st4 H') I6 ⟨as3, ρ1, st3, en6, rp5, by rw [zt]; exact fun as' H' x rp => ⟨rfl, as', x, rp⟩⟩) (fun k' s7 ⟨H7, I7, ek, as7, x7, rp7⟩ => ?_) fun _ _ f => f.elim
       subst ek
       have fin : ∀ {H8 : Hp} {s8 : Shared} {as8 : List Addr} {st8 : YlA} {acc' : List P} {vs' : List V} {its' : List Value} {m' : Nat} {s9 : Shared}, Inv (YlY X scope (TN ++ FN) G.objs.size s2 H2 fp) ([] : LAO) σ6 H8 s9 -> Ext as7 H7 as8 H8 -> Rep X.K as8 st8 H8 ->
        tn (i + 1) s9.heap -> (∀ b ∈ fp, H8 b = none) -> s9.heap.get? s2.heap.objs.size = some { cls := .type "list", data := .seq its'.toArray m' } -> H8 s2.heap.objs.size = none -> Vals vs' its' -> Dens X.K as8 H8 vs' acc' -> acc'.length <= cap ->
        Yl1 X as8 H8 ρ (YlV src g nt me (rho0 TN.length fr ρ) n (i + 1) st8 acc') Q -> ∃ m, m < n + 1 /\ ∃ i as' st' H' σ' acc vs its m_1, Inv (YlY X scope (TN ++ FN) G.objs.size s2 H2 fp) [] σ' H' s9 /\ YlO X.K as' H' (rho0 TN.length fr ρ) σ' /\ Ext as1 H2 as' H' /\ Rep X.K as' st' H' /\ tn i s9.heap /\ (∀ b ∈ fp, H' b = none) /\
         s9.heap.get? s2.heap.objs.size = some { cls := .type "list", data := .seq its.toArray m_1 } /\ H' s2.heap.objs.size = none /\ Vals vs its /\ Dens X.K as' H' vs acc /\ acc.length <= cap /\ Yl1 X as' H' ρ (YlV src g nt me (rho0 TN.length fr ρ) m i st' acc) Q :=
        fun {H8 s8 as8 st8 acc' vs' its' m' s9} I8 x8 rp8 t8 fr8 hD8 nD8 rv8 dn8 hl8 h8 => ⟨n, ZA5 n, i + 1, as8, st8, H8, σ6, acc', vs', its', m', I8, YlO.ext x8 (YlO.ext x7 (en6.back gl gk)), ((x3.trans x5).trans x7).trans x8, rp8, t8, fr8, hD8, nD8, rv8, dn8, hl8, h8⟩
       have stay : ∀ {H8 : Hp} {s8 : Shared}, Inv (YlY X scope (TN ++ FN) G.objs.size s2 H2 fp) ([(s2.heap.objs.size, ({ cls := .type "list", data := .seq its.toArray m } : Obj))] ++ Ynw fp s5.heap) σ6 H8 s8 ->
        tn (i + 1) s8.heap /\ (∀ b ∈ fp, H8 b = none) /\ s8.heap.get? s2.heap.objs.size = some { cls := .type "list", data := .seq its.toArray m } /\ H8 s2.heap.objs.size = none := fun {H8 s8} I8 => by
        refine ⟨T.keep _ _ _ st5 fun b hb o e => (I8.pin (b, o) (ZAX _ (ZAX _ (Wi hb e)))).1, fun b hb => ?_, ?_⟩
        ·obtain ⟨o, e, d⟩ := T.obj _ _ st5 b hb
         exact (I8.pin (b, o) (ZAX _ (ZAX _ (Wi hb e)))).2.1
        ·have q := I8.pin (s2.heap.objs.size, { cls := .type "list", data := .seq its.toArray m }) (ZAX _ (ZA4 _ ZAc))
         exact ⟨q.1, q.2.1⟩
       have nopins : ∀ {H8 : Hp} {s8 : Shared} {pl : LAO}, Inv (YlY X scope (TN ++ FN) G.objs.size s2 H2 fp) pl σ6 H8 s8 -> Inv (YlY X scope (TN ++ FN) G.objs.size s2 H2 fp) [] σ6 H8 s8 := fun {H8 s8 pl} I8 => I8.pins_of fun p hp => by cases hp
       cases k' with
       | false =>
        simp only [YlV, e, zg, zt] at h
        rw [ZAF ZAU]
        obtain ⟨t7, f7, hD7, nD7⟩ := stay I7
        exact fin (s8 := s7) (nopins I7) Ext.refl rp7 t7 f7 hD7 nD7 rv (dn.ext (x5.trans x7)) hl (Yl1.ext (x5.trans x7) h)
       | true =>
        rw [ZAE rfl]
        cases ze : me ρ1 st4 with
        | bad => simp only [YlV, e, zg, zt, ze] at h; exact h.elim
        | exc k st' => simp only [YlV, e, zg, zt, ze] at h; exact h.elim
        | ok q st8 =>
         simp only [YlV, e, zg, zt, ze] at h
         by_cases hlt : acc.length < cap
         ·rw [ZAE hlt] at h
          refine ZAi (be _ s7 σ6 H7 (fun v' H' => ∃ as', Ext as7 H7 as' H' /\ Rep X.K as' st8 H' /\ Den X.K as' H' v' q) I7 ⟨as7, ρ1, st4, en6.ext x7, rp7, by rw [ze]; exact fun as' H' v' x rp d => ⟨as', x, rp, d⟩⟩) (fun w' s8 ⟨y, H8, I8, r8, as8, x8, rp8, d8⟩ => ?_) fun _ _ f => f.elim
          obtain ⟨t8, f8, hD8, nD8⟩ := stay I8
          have hll : its.length <= cap := by rw [<- rv.length, dn.length]; exact hl
          refine call_meets F.slot_list_append ⟨_, hD8, rfl⟩ F.entry_list_append (F.args_list_append_2 _ _) (PySem.list_append s2.heap.objs.size its.toArray m w' (by rw [ZAd]; exact ZAO hll Yx)) ⟨hD8, ?_⟩
          have hD9 := PySem.IsL.update hD8 (fun a => a.push w')
          rw [show its.toArray.push w' = (its ++ [w']).toArray by simp] at hD9
          have oth : ∀ b o, b ≠ s2.heap.objs.size -> s8.heap.get? b = some o -> (s8.heap.update s2.heap.objs.size (Obj.mapSeq fun a => a.push w')).get? b = some o := fun b o hb e => (ZAY _ _ (ZBA hb)).trans e
          have I9 : Inv (YlY X scope (TN ++ FN) G.objs.size s2 H2 fp) [] σ6 H8 { s8 with heap := s8.heap.update s2.heap.objs.size (Obj.mapSeq fun a => a.push w'), toks := s8.toks } :=
           Inv.turned (it := s2.heap.objs.size) (nopins I8) oth nD8 nDloc (.inr (ZAI _)) (fun y a e => cellD y a (c.cl e)) fun p hp => by cases hp
          refine fin (s8 := s8) (its' := its ++ [w']) I9 x8 rp8 (T.keep _ _ _ t8 fun b hb o e => oth b o (ZAP (hfl b hb)) e) f8 hD9 nD8 (rv.append (.cons r8 .nil)) ((dn.ext ((x5.trans x7).trans x8)).append (.cons d8 .nil)) ?_ (Yl1.ext ((x5.trans x7).trans x8) h)
          rw [ZAD, ZAg]; exact hlt
         ·rw [ZAF hlt] at h; exact h.elim
 exact codeAny_compStart_list (loop _ rfl) (T.self _ 0 _ _ _ (T.keep _ _ _ st2 fun b hb o e => keep b o e) (loop _ rfl))
theorem Zn {elt tg iter : Expr} {ifs : List Expr} {scope : Scope} {pos : Pos} {TN FN : List Str} {fr : List Nat} {mi : MI} {g : MG} {nt : MT} {me : ME} (hc : X.calm = true) (c : Ymr X scope TN FN fr) (hi : JI X tg iter mi) (hgo : YnL TN.length g)
 (hb : ∀ C s₀ H₀ ex, JG (YlY X scope (TN ++ FN) C s₀ H₀ ex) tg g /\ JTs (YlY X scope (TN ++ FN) C s₀ H₀ ex) ifs nt /\ JE (YlY X scope (TN ++ FN) C s₀ H₀ ex) elt me)
 (hs : ∀ x, foldedSetIterable iter X.env x = pure x := by intro _; rfl) : JL X (.ListComp elt [⟨tg, iter, ifs, 0⟩] scope pos) (Ymp mi TN.length fr g nt me) := by
 intro pins s σ H Q I ht
 rw [eval_ListComp]
 exact Ya7 hc c hi hgo hb hs I ht fun s4 C D H' ⟨m, hn⟩ _ _ inv q => ⟨m, hn, fun h' sb => ⟨.ref D, H', inv h' sb, rfl, q⟩⟩
def Yor (i : Nat) (ml : MA) : MS := fun ρ st => RS.ofE ρ (ml ρ st) fun ps st1 => .nx (ρ.set i (some (.ref st1.length))) (st1 ++ [.lst ps])
theorem YdL {elt tg iter : Expr} {ifs : List Expr} {scope : Scope} {pos pos' cpos : Pos} {TN FN : List Str} {fr : List Nat} {mi : MI} {g : MG} {nt : MT} {me : ME} {i : Nat} {x : Str} (hN : X.N.Nodup) (hi' : X.N[i]? = some x) (hx : Loc X.env.scope x)
 (hc : X.calm = true) (c : Ymr X scope TN FN fr) (hi : JI X tg iter mi) (hgo : YnL TN.length g)
 (hb : ∀ C s₀ H₀ ex, JG (YlY X scope (TN ++ FN) C s₀ H₀ ex) tg g /\ JTs (YlY X scope (TN ++ FN) C s₀ H₀ ex) ifs nt /\ JE (YlY X scope (TN ++ FN) C s₀ H₀ ex) elt me)
 (hs : ∀ x, foldedSetIterable iter X.env x = pure x := by intro _; rfl) (hsw : swapsWith (.ListComp elt [⟨tg, iter, ifs, 0⟩] scope cpos) (some (.Name x pos')) pos.line X.env = pure true := by rfl)
 (hf : X.fn x = true \/ X.env.scope.names.lookup x = some .local := by first | exact .inl rfl | exact .inr rfl | assumption) :
 JS X (.Assign [.Name x pos'] (.ListComp elt [⟨tg, iter, ifs, 0⟩] scope cpos) pos) (Yor i (Ymp mi TN.length fr g nt me)) := by
 intro pins s σ H D I ⟨as, ρ, st, en, rp, h⟩
 rw [exec_Assign_Name_used _ _ _ _ hsw]
 refine ZAA (ZBl (ZAA ?_))
 rw [arm_evalThenUse_ListComp]
 show 168
 refine Ya7 (Q := fun v H' => ∃ as' ρ' st', YlO X.K as' H' ρ σ /\ Rep X.K as' st' H' /\ Den X.K as' H' v (.ref (st'.length - 1)) /\ ρ' = ρ.set i (some (.ref (st'.length - 1))) /\ YlP X as' H' (.nx ρ' st') D) hc c hi hgo hb hs I ⟨as, ρ, st, en, rp, ?_⟩ ?_
 ·unfold Yor at h
  cases q : Ymp mi TN.length fr g nt me ρ st with
  | bad => show 151
  | exc k st' => show 151
  | ok ps st1 =>
   show 152
   intro as' H' l vs x rp' hl fr' d
   have en' : YlO X.K (as' ++ [l]) H' ρ σ := (en.ext x).ext Ext.add
   have rp'' : Rep X.K (as' ++ [l]) (st1 ++ [.lst ps]) H' := rp'.add fr' ⟨vs, hl, d.ext Ext.add⟩
   have el : (st1 ++ [O.lst ps]).length - 1 = st1.length := by simp
   refine ⟨as' ++ [l], _, st1 ++ [.lst ps], en', rp'', ?_, rfl, ?_⟩
   ·rw [el]; exact .ref (by rw [<- rp'.len]; exact Yav)
   ·rw [el]; exact YlP.ext (x.trans Ext.add) h
 ·intro s4 C Dl H' ⟨m, hn⟩ nC fo inv ⟨as', ρ', st', en', rp', d', hρ, hq⟩
  have I4 : Inv X pins σ H' s4 := inv s4.heap (Heap.SameBut.refl _ _)
  show wpAny _ _ (assign (.Name x pos') X.env (.ref Dl)) _ _ _
  refine wpAny_assign_Name (Yba I4 hN hi' hx (v := .ref Dl) rfl (fun s5 I5 ⟨a, sb, ha⟩ => ?_) hf)
  have hCa : C ≠ a := by
   rcases ha with rfl | ha
   ·exact fo.2.1
   ·exact fun z => fo.2.2.2.2.1 x a ha z.symm
  have hn5 : s5.heap.Ns C m := by
   obtain ⟨o, es, ep, e, r⟩ := hn
   exact ⟨o, es, ep, (sb.2 C hCa).trans e, r⟩
  refine ⟨m, hn5, fun h' sb' => ZAC ?_⟩
  have I6 : Inv X pins (σ.set i (some (.ref Dl))) H' { s5 with heap := h', toks := s5.toks } := I5.turned (it := C) (fun b o hb e => (sb'.2 b hb).trans e) nC fo.2.1 fo.2.2.2.1 fo.2.2.2.2.1 fo.2.2.2.2.2
  refine ZAC ⟨σ.set i (some (.ref Dl)), H', I6, hq as' H' _ Ext.refl rp' ?_⟩
  rw [hρ]
  exact en'.set d'
end
abbrev MF := List P -> YlA -> R P
def fnM (n : Nat) (m : MS) : MF := fun ps st => match m (ps.map some ++ List.replicate (n - ps.length) none) st with
 | .nx _ st' => .ok .non st'
 | .rt p st' => .ok p st'
 | _ => .bad
def spM (K : Frag) (n : Nat) (mf : MF) : Sp := fun vs H Q _ => vs.length = n /\ ∃ as st ps, Rep K as st H /\ Dens K as H vs ps /\ match mf ps st with
 | .ok p st' => ∀ as' H' v, Ext as H as' H' -> Rep K as' st' H' -> Den K as' H' v p -> Q v H'
 | _ => False
abbrev FM (P' : Program) (w : World) (K : Frag) (mg : SOV) (base : Heap) (k : Nat) (f : Addr) (fd : FuncData) (ps : List Str) (mf : MF) : Prop := Ynb P' w K mg base CX0 k f fd ps (spM K ps.length mf)
theorem VY {K : Frag} {as : List Addr} {H : Hp} {vs : List V} {ps : List P} {N : List Str} (d : Dens K as H vs ps) : YlO K as H (ps.map some ++ List.replicate (N.length - ps.length) none) (L2.start N vs) :=
 ⟨by unfold L2.start; simp [d.length], fun i p e => by
  have hl := d.length
  by_cases hi : i < ps.length
  ·rw [List.getElem?_append_left (by simpa using hi), List.getElem?_map] at e
   cases q : ps[i]? with
   | none => show 191
   | some p' =>
    rw [q] at e
    cases e
    obtain ⟨v, h1, h2⟩ := d.get q
    refine ⟨v, ?_, h2⟩
    unfold L2.start
    rw [List.getElem?_append_left (by simp; omega), List.getElem?_map, h1]
    rfl
  ·rw [List.getElem?_append_right (by simpa using hi), List.getElem?_replicate] at e
   split at e <;> cases e⟩
section
variable {P' : Program} {w : World} {K : Frag} {mg : SOV} {base : Heap}
theorem Fun.mirror {x qual : Str} {st : Stmt} {f : Addr} {fd : FuncData} {N ps : List Str} {k : Nat} {m : MS} (F : Fun K x qual st f fd) (S : YlI N ps (Ylx st))
 (hbody : ∀ (cdv : Value) (A : Around) (outer : List Env) (s : Shared) (H : Hp) (E : XK), Ymb k (A.deeper (envOfC qual (Ylx st) s.heap.objs.size f cdv)) -> JSs (cxOf CX0 P' w K mg base N qual (Ylx st) f cdv A outer s H E).nox (YlE st) m) :
 FM P' w K mg base (k + 1) f fd ps (fnM N.length m) := by
 refine F.ok S (fun vs H Q E h => h.1) (fun cdv A outer s H vs Q E hr h => ⟨_, hbody cdv A outer s H E hr, ?_⟩)
 obtain ⟨hl, as, st', qs, rp, d, h⟩ := h
 refine ⟨as, _, st', VY d, rp, ?_⟩
 unfold fnM at h
 cases q : m (qs.map some ++ List.replicate (N.length - qs.length) none) st' with
 | nx ρ' s' => rw [q] at h; exact fun as' H' σ' x rp en => h as' H' .non x rp .non
 | rt p s' => show 151
 | bk ρ' s' => show 166
 | ct ρ' s' => show 166
 | exc k ρ' s' => show 166
 | bad => show 166
end
section
variable {X : Cx} {k : Nat} {f : Addr} {fd : FuncData} {ps : List Str} {mf : MF} {x : Str} {p pos : Pos} {e : Expr} {es : List Expr} {mr : MA}
def YlQ (n : Nat) (mf : MF) (mr : MA) : ME := fun ρ st => (mr ρ st).bind fun ps st1 => if ps.length = n then match mf ps st1 with
 | .ok p st2 => .ok p st2
 | _ => .bad else .bad
theorem Yir (F : FM X.prog X.w X.K X.mg X.base k f fd ps mf) (hr : Ymb k X.A) (hg : Gl X x) (hm : X.mg x = some (.ref f)) (hk : PySem.W.keepIn X.K (.ref f) = true) (hb : Binds X.K fd ps [])
 (ha : JA X (e :: es) mr) (hdb : (x == ("__debug__" : Str)) = false := by decide) (he : starEach (e :: es) X.env = (false, eval e X.env) :: starEach es X.env := by rfl) (hpl : (backTo pos (starEach es X.env)).any (·.1) = false := by rfl) :
 JE X (.Call (.Name x p) (e :: es) [] pos) (YlQ ps.length mf mr) :=
 PE.imp (YiH F hr hg hm hk hb .nil (pass0 (X := X)) ha hdb he hpl) fun σ H Q ⟨as, ρ, st, en, rp, h⟩ => ⟨as, ρ, st, en, rp, YlL.bindA h fun qs st1 as1 H1 vs x rp1 d h1 => by
  rw [ZAZ]
  by_cases hl : qs.length = ps.length
  ·rw [ZAE hl] at h1
   refine ⟨by rw [d.length]; exact hl, as1, st1, qs, rp1, d, ?_⟩
   cases z : mf qs st1 with
   | ok p' st2 => rw [z] at h1; exact h1
   | exc k s' => show 187
   | bad => show 187
  ·rw [ZAF hl] at h1; exact h1.elim⟩
end
abbrev GC := List P -> YlA -> Option (P × YlA)
def rMC (X : Cx) (g : GC) : List V -> Hp -> VK -> Prop := fun xs H Q => ∃ as st ps, Rep X.K as st H /\ Dens X.K as H xs ps /\ YlU X as H (g ps st) Q
def eB (g : GC) (mr : MA) : ME := fun ρ st => (mr ρ st).bind fun ps st1 => ofO (g ps st1)
section
variable {X : Cx} {x : Str} {p pos : Pos} {e : Expr} {es : List Expr} {mr : MA} {id T : String} {g : GC}
theorem Ygn {σ : St} {H : Hp} {Q : VK} (h : tE X (eB g mr) σ H Q) : tCB (rMC X g) (tA X mr) σ H Q := by
 show 236
 exact ⟨as, ρ, st, en, rp, YlL.bindA h fun ps st1 as1 H1 vs x rp1 d h1 => ⟨as1, st1, ps, rp1, d, YlL.ofO h1⟩⟩
theorem je_B (hc : Ymw X (.builtin id) (rMC X g)) (hg : Gl X x) (hm : X.mg x = none) (hv : bootBuiltins x = some (.builtin id)) (ha : JA X (e :: es) mr) (hn : x ≠ "__name__" := by decide) (hdb : (x == ("__debug__" : Str)) = false := by decide)
 (he : starEach (e :: es) X.env = (false, eval e X.env) :: starEach es X.env := by rfl) (hpl : (backTo pos (starEach es X.env)).any (·.1) = false := by rfl) : JE X (.Call (.Name x p) (e :: es) [] pos) (eB g mr) :=
 PE.imp (Wx hc hg hm hv ha hn hdb he hpl) fun _ _ _ h => Ygn h
theorem YkW (hc : Ymw X (.type T) (rMC X g)) (hg : Gl X x) (hm : X.mg x = none) (hv : bootBuiltins x = some (.type T)) (ha : JA X (e :: es) mr) (hn : x ≠ "__name__" := by decide) (hdb : (x == ("__debug__" : Str)) = false := by decide)
 (he : starEach (e :: es) X.env = (false, eval e X.env) :: starEach es X.env := by rfl) (hpl : (backTo pos (starEach es X.env)).any (·.1) = false := by rfl) : JE X (.Call (.Name x p) (e :: es) [] pos) (eB g mr) :=
 PE.imp (Ybk hc hg hm hv ha hn hdb he hpl) fun _ _ _ h => Ygn h
theorem cM {f : Value} (h : ∀ pins s σ H xs us Q as st ps, Inv X pins σ H s -> Vals xs us -> Rep X.K as st H -> Dens X.K as H xs ps -> YlU X as H (g ps st) Q -> wpAny (model X.prog X.w) X.A (call f us) (EP X pins σ Q) X.xe s) : Ymw X f (rMC X g) :=
 fun pins s σ H xs us Q I rv ⟨as, st, ps, rp, d, po⟩ => h pins s σ H xs us Q as st ps I rv rp d po
def Yl5 : GC := fun ps st => match ps with
 | [.str z] => if z.length <= cap then okP (.int z.length) st else none
 | [.ref k] => match st[k]? with
  | some (.lst xs) => okP (.int xs.length) st
  | some (.ro xs) => okP (.int xs.length) st
  | some (.dct kvs) => okP (.int kvs.length) st
  | _ => none
 | [.tup xs] => okP (.int xs.length) st
 | _ => none
theorem Dens.one {K : Frag} {as : List Addr} {H : Hp} {xs : List V} {p : P} (d : Dens K as H xs [p]) : ∃ v, xs = [v] /\ Den K as H v p := by
 cases d with
 | cons a b => cases b; exact ⟨_, rfl, a⟩
theorem Ylt {ps : List P} {α : Type} {f : P -> Option α} {r : α} (h : (match ps with | [p] => f p | _ => none) = some r) : ∃ p, ps = [p] /\ f p = some r := by
 match ps, h with
 | [p], h => exact ⟨p, rfl, h⟩
theorem YK : Ymw X (.builtin "len") (rMC X Yl5) := cM fun pins s σ H xs us Q as st ps I rv rp d h => by
 match ps, d, h with
 | [], _, h => show 142
 | _ :: _ :: _, _, h => exact (by simp only [Yl5] at h; exact h.elim)
 | [p], d, h =>
  obtain ⟨v, rfl, d1⟩ := d.one
  cases d1 with
  | @str z =>
   have h' : YlU X as H (if z.length <= cap then okP (.int z.length) st else none) Q := h
   by_cases hz : z.length <= cap
   ·rw [ZAE hz] at h'
    exact Ybw pins s σ H _ us Q I rv ⟨z, rfl, ZAO hz Yx, h' as H _ Ext.refl rp .int⟩
   ·show 228
  | tup e r =>
   refine Wm pins s σ H _ us Q I rv ⟨_, _, rfl, .inr e, ?_⟩
   rw [r.length]
   exact h as H _ Ext.refl rp .int
  | @ref k a e =>
   have h' : YlU X as H (match st[k]? with | some (.lst xs) => okP (.int xs.length) st | some (.ro xs) => okP (.int xs.length) st | some (.dct kvs) => okP (.int kvs.length) st | _ => none) Q := h
   cases q : st[k]? with
   | none => show 210
   | some o =>
    rw [q] at h'
    have ob := rp.ob k a o e q
    cases o with
    | lst ys =>
     show 179
     refine Wm pins s σ H _ us Q I rv ⟨_, _, rfl, .inl (.of h1), ?_⟩
     rw [h2.length]
     exact h' as H _ Ext.refl rp .int
    | ro ys =>
     show 179
     refine Wm pins s σ H _ us Q I rv ⟨_, _, rfl, .inl (Z0 h1), ?_⟩
     rw [h2.length]
     exact h' as H _ Ext.refl rp .int
    | dct kvs =>
     obtain ⟨ws, h1, h2, h3⟩ := ob
     refine YfC pins s σ H _ us Q I rv ⟨_, _, rfl, h1, ?_⟩
     have : ws.length = kvs.length := by simpa using congrArg List.length h2
     rw [this]
     exact h' as H _ Ext.refl rp .int
    | exc c fs => show 161
    | dtt kvs => show 161
    | fdc kvs => show 161
  | _ => show 142
def Ynm : GC := fun ps st => match ps with
 | [p] => match Ymo p st with
  | some xs => okP (.tup xs) st
  | none => none
 | _ => none
theorem YgI : Ymw X (.type "tuple") (rMC X Ynm) := cM fun pins s σ H xs us Q as st ps I rv rp d h => by
 match ps, d, h with
 | [], _, h => show 142
 | _ :: _ :: _, _, h => exact (by simp only [Ynm] at h; exact h.elim)
 | [p], d, h =>
  obtain ⟨v, rfl, d1⟩ := d.one
  have h' : YlU X as H (match Ymo p st with | some xs => okP (.tup xs) st | none => none) Q := h
  cases q : Ymo p st with
  | none => show 210
  | some xs =>
   rw [q] at h'
   obtain ⟨a, vs, rfl, hq, r⟩ := YiG rp d1 q
   refine WX pins s σ H _ us Q I rv ⟨a, vs, rfl, ?_⟩
   rcases hq with hq | ⟨hq, tk⟩
   ·exact .inl ⟨hq, fun l hl => h' as _ _ (Ext.laid hl) (rp.laid hl) (.tup (.of Ym) (r.ext (Ext.laid hl)))⟩
   ·exact .inr ⟨hq, h' as H _ Ext.refl rp (.tup hq r)⟩
def Yot (m : MA) : ME := fun ρ st => (m ρ st).bind fun ps st1 => .ok (.tup ps) st1
theorem YaV {m : MA} (hg : Gl X "tuple") (hm : X.mg "tuple" = none) (hv : bootBuiltins "tuple" = some (.type "tuple")) (h : JL X e m)
 (he : starEach [e] X.env = (false, eval e X.env) :: starEach [] X.env := by rfl) : JE X (.Call (.Name "tuple" p) [e] [] pos) (Yot m) :=
 PE.imp (Ybk WX hg hm hv (Y8 h WD he) (by decide) (by decide) he) fun σ H Q ⟨as, ρ, st, en, rp, h⟩ => ⟨as, ρ, st, en, rp, YlL.bindL h fun ps st1 as1 H1 l vs x rp1 hl fr d h1 =>
  ⟨l, vs, rfl, .inl ⟨.of hl, fun p hp => h1 as1 _ _ (Ext.laid hp) (rp1.laid hp) (.tup (.of Ym) (d.ext (Ext.laid hp)))⟩⟩⟩
end
abbrev GM := P -> List P -> YlA -> Option (P × YlA)
def rMM (X : Cx) (g : GM) : V -> List V -> Hp -> VK -> Prop := fun x xs H Q => ∃ as st p ps, Rep X.K as st H /\ Den X.K as H x p /\ Dens X.K as H xs ps /\ YlU X as H (g p ps st) Q
def isStr : P -> YlA -> Bool := fun p _ => match p with
 | .str _ => true
 | _ => false
def Ynd : P -> YlA -> Bool := fun p st => match p with
 | .ref k => (match st[k]? with
  | some (.lst _) => true
  | some (.ro _) => true
  | _ => false)
 | _ => false
def eM (ty : P -> YlA -> Bool) (g : GM) (me : ME) (mr : MA) : ME := fun ρ st => (me ρ st).bind fun p st1 => if ty p st1 = true then (mr ρ st1).bind fun ps st2 => ofO (g p ps st2) else .bad
def YoZ (T : String) (ty : P -> YlA -> Bool) : Prop := ∀ (K : Frag) as st H v p, Rep K as st H -> Den K as H v p -> ty p st = true -> tyV K T v H
theorem W7 : YoZ "str" isStr := fun K as st H v p rp d h => by
 cases d with
 | str => rfl
 | _ => cases h
theorem YbX : YoZ "list" Ynd := fun K as st H v p rp d h => by
 cases d with
 | @ref k a e =>
  have h' : (match st[k]? with | some (.lst _) => true | some (.ro _) => true | _ => false) = true := h
  cases q : st[k]? with
  | none => rw [q] at h'; cases h'
  | some o =>
   rw [q] at h'
   have ob := rp.ob k a o e q
   cases o with
   | lst ys => obtain ⟨vs, h1, _⟩ := ob; exact .inl ⟨rfl, vs, .of h1⟩
   | ro ys => obtain ⟨vs, h1, _⟩ := ob; exact .inl ⟨rfl, vs, Z0 h1⟩
   | dct ys => cases h'
   | exc c fs => cases h'
   | dtt kvs => cases h'
   | fdc kvs => cases h'
 | _ => cases h
section
variable {X : Cx} {o e : Expr} {es : List Expr} {me : ME} {mr : MA} {name : Str} {apos cpos : Pos} {T id : String} {g : GM} {ty : P -> YlA -> Bool}
theorem Yi3 (hT : YoZ T ty) (pa : PlainAttrs T) (slot : Slot T name id) (hty : typeOf (.builtin id) = pure (.type "method_descriptor")) (hm : MtR X id (rMM X g)) (ho : JE X o me)
 (hbase : attributeBase o name X.env (eval o X.env) = eval o X.env := by rfl) (hline : (apos.endLine == cpos.line) = true := by rfl) : JE X (.Call (.Attribute o name apos) [] [] cpos) (eM ty g me YlD) :=
 PE.imp (Yi9 pa slot hty hm ho hbase hline) fun σ H Q ⟨as, ρ, st, en, rp, h⟩ => ⟨as, ρ, st, en, rp, YlL.bindE h fun p st1 as1 H1 v x rp1 d h1 => by
  by_cases z : ty p st1 = true
  ·rw [ZAE z] at h1
   exact ⟨hT _ _ _ _ _ _ rp1 d z, as1, st1, p, [], rp1, d, .nil, YlL.ofO h1⟩
  ·rw [ZAF z] at h1; exact h1.elim⟩
theorem je_M (hT : YoZ T ty) (pa : PlainAttrs T) (slot : Slot T name id) (hty : typeOf (.builtin id) = pure (.type "method_descriptor")) (hm : MtR X id (rMM X g)) (ho : JE X o me) (ha : JA X (e :: es) mr)
 (hbase : attributeBase o name X.env (eval o X.env) = eval o X.env := by rfl)
 (hfew : ((backTo cpos (starEach (e :: es) X.env)).all (fun x => !x.1) && (backToKw cpos (keywordEach [] X.env)).all (fun x => x.1.isSome)
  && decide ((e :: es).length + ([] : List Keyword).length + (if ([] : List Keyword).isEmpty then 0 else 1) < 30)) = true := by rfl)
 (hline : (apos.endLine == cpos.line) = true := by rfl) (hs : starEach (e :: es) X.env = (false, eval e X.env) :: starEach es X.env := by rfl) (hplain : (backTo cpos (starEach es X.env)).any (·.1) = false := by rfl) :
 JE X (.Call (.Attribute o name apos) (e :: es) [] cpos) (eM ty g me mr) :=
 PE.imp (YiU pa slot hty hm ho ha hbase hfew hline hs hplain) fun σ H Q ⟨as, ρ, st, en, rp, h⟩ => ⟨as, ρ, st, en, rp, YlL.bindE h fun p st1 as1 H1 v x rp1 d h1 => by
  by_cases z : ty p st1 = true
  ·rw [ZAE z] at h1
   exact ⟨hT _ _ _ _ _ _ rp1 d z, as1, ρ, st1, en.ext x, rp1, YlL.bindA h1 fun ps st2 as2 H2 vs x2 rp2 d2 h2 => ⟨as2, st2, p, ps, rp2, d.ext x2, d2, YlL.ofO h2⟩⟩
  ·rw [ZAF z] at h1; exact h1.elim⟩
theorem mM (h : ∀ pins s σ H x xs v us Q as st p ps, Inv X pins σ H s -> RelV x v -> Vals xs us -> Rep X.K as st H -> Den X.K as H x p -> Dens X.K as H xs ps -> YlU X as H (g p ps st) Q ->
 wpAny (model X.prog X.w) X.A (call (.builtin id) (v :: us)) (EP X pins σ Q) X.xe s) : MtR X id (rMM X g) :=
 fun pins s σ H x xs v us Q I rx rv ⟨as, st, p, ps, rp, d1, d2, po⟩ => h pins s σ H x xs v us Q as st p ps I rx rv rp d1 d2 po
def YpX : GM := fun p ps st => match p, ps with
 | .str x, [] => if x.length <= cap then okP (.str (Txt.upper x)) st else none
 | _, _ => none
def Ynz : GM := fun p ps st => match p, ps with
 | .str x, [] => okP (.bl (Txt.isupper x)) st
 | _, _ => none
theorem Ydi : MtR X "str.isupper" (rMM X Ynz) := mM fun pins s σ H x xs v us Q as st p ps I rx rv rp d1 d2 h => by
 cases d1 with
 | str =>
  cases d2 with
  | cons a b => show 142
  | nil =>
   cases rv
   show 163
   exact SC.isupper ⟨.bl _, H, I, rfl, h as H _ Ext.refl rp .bl⟩
 | _ => show 142
def YmH : GM := fun p ps st => match p, ps with
 | .ref k, [q] => match Yl7 st k with
  | some xs => if xs.length < cap then some (.non, st.set k (.lst (xs ++ [q]))) else none
  | none => none
 | _, _ => none
theorem VO : MtR X "list.append" (rMM X YmH) := mM fun pins s σ H x xs v us Q as st p ps I rx rv rp d1 d2 h => by
 match p, ps, d1, d2, h with
 | .ref k, [q], d1, d2, h =>
  have h' : YlU X as H (match Yl7 st k with | some xs => if xs.length < cap then some (.non, st.set k (.lst (xs ++ [q]))) else none | none => none) Q := h
  cases z : Yl7 st k with
  | none => rw [z] at h'; exact h'.elim
  | some ys =>
   rw [z] at h'
   obtain ⟨a, vs, rfl, e, hk, h1, h2⟩ := Yar rp d1 z
   obtain ⟨y, rfl, dy⟩ := d2.one
   by_cases hl : ys.length < cap
   ·simp only [if_pos hl] at h'
    refine YeL pins s σ H _ _ v us Q I rx rv ⟨a, vs, y, rfl, rfl, h1, by rw [h2.length]; exact ZAM hl Yx, ?_⟩
    exact h' as _ _ (Ext.write h1 trivial) (rp.lset e h1 hk (h2.append (.cons dy .nil))) .non
   ·simp only [if_neg hl] at h'; exact h'.elim
 | .ref k, [], _, _, h => show 142
 | .ref k, _ :: _ :: _, _, _, h => show 142
 | .non, _, _, _, h => show 142
 | .bl _, _, _, _, h => show 142
 | .int _, _, _, _, h => show 142
 | .str _, _, _, _, h => show 142
 | .tup _, _, _, _, h => show 142
def YmM : List P -> Option (List Str)
 | [] => some []
 | .str x :: r => (YmM r).map (x :: ·)
 | _ :: _ => none
theorem W6 {K : Frag} {as : List Addr} {H : Hp} : ∀ {ps : List P} {vs : List V} {us : List Value} {ys : List Str}, Dens K as H vs ps -> Vals vs us -> YmM ps = some ys -> StrsAre us ys
 | [], _, _, _, .nil, .nil, h => by cases h; exact .nil
 | p :: r, _, _, ys, .cons d d', .cons r1 r2, h => by
  cases d with
  | @str x =>
   have h' : (YmM r).map (x :: ·) = some ys := h
   cases q : YmM r with
   | none => rw [q] at h'; cases h'
   | some zs =>
    rw [q] at h'
    cases h'
    obtain ⟨t, rfl⟩ := r1
    exact .cons x t (W6 d' r2 q)
  | _ => cases h
def Yms (x : Str) (ys : List Str) : Nat := (ys.map (·.length)).sum + ys.length * x.length
def Ynh (me : ME) (m : MA) : ME := fun ρ st => (me ρ st).bind fun p st1 => match p with
 | .str x => (m ρ st1).bind fun ps st2 => match YmM ps with
  | some ys => if Yms x ys <= cap then .ok (.str (Txt.join x ys)) st2 else .bad
  | none => .bad
 | _ => .bad
theorem Yho : MtR X "str.join" (fun x xs H Q => ∃ z a vs ys, x = .str z /\ xs = [.ref a] /\ (SqL X.K H a vs \/ SqT X.K H a vs) /\ (∀ us, Vals vs us -> StrsAre us ys) /\ Yms z ys <= cap /\ Q (.str (Txt.join z ys)) H) := by
 intro pins s σ H x xs v us Q I rx rv h
 obtain ⟨z, a, vs, ys, rfl, rfl, hq, hs, hl, q⟩ := h
 show 163
 obtain ⟨u, rfl, ru⟩ := rv.one
 cases ru
 have hc : Yms z ys <= 16777216 := ZAO hl (by decide)
 rcases hq with hq | hq
 ·obtain ⟨its, r, p, _⟩ := I.list hq
  exact join_list p.isList (hs _ (by simpa using r)) hc fun t' k => ⟨.str _, H, I.tok _, ⟨_, rfl⟩, q⟩
 ·obtain ⟨its, r, p, _⟩ := I.tuple hq
  exact join_tuple p (hs _ (by simpa using r)) hc fun t' k => ⟨.str _, H, I.tok _, ⟨_, rfl⟩, q⟩
theorem Vo {m : MA} (ho : JE X o me) (h : JL X e m)
 (hbase : attributeBase o "join" X.env (eval o X.env) = eval o X.env := by rfl)
 (hfew : ((backTo cpos (starEach [e] X.env)).all (fun x => !x.1) && (backToKw cpos (keywordEach [] X.env)).all (fun x => x.1.isSome)
  && decide (([e] : List Expr).length + ([] : List Keyword).length + (if ([] : List Keyword).isEmpty then 0 else 1) < 30)) = true := by rfl)
 (hline : (apos.endLine == cpos.line) = true := by rfl) (hs : starEach [e] X.env = (false, eval e X.env) :: starEach [] X.env := by rfl) : JE X (.Call (.Attribute o "join" apos) [e] [] cpos) (Ynh me m) :=
 PE.imp (YiU PySem.F.plainAttrs_str PySem.F.slot_str_join PySem.F.type_str_join Yho ho (Y8 h WD hs) hbase hfew hline hs) fun σ H Q ⟨as, ρ, st, en, rp, h⟩ => ⟨as, ρ, st, en, rp, YlL.bindE h fun p st1 as1 H1 v x rp1 d h1 => by
  cases d with
  | @str z =>
   refine ⟨rfl, as1, ρ, st1, en.ext x, rp1, YlL.bindL h1 fun ps st2 as2 H2 l vs x2 rp2 hl fr d2 h2 => ?_⟩
   cases q : YmM ps with
   | none => rw [q] at h2; exact h2.elim
   | some ys =>
    rw [q] at h2
    by_cases hz : Yms z ys <= cap
    ·simp only [if_pos hz] at h2
     exact ⟨z, l, vs, ys, rfl, rfl, .inl (.of hl), fun us r => W6 d2 r q, hz, h2 as2 H2 _ Ext.refl rp2 .str⟩
    ·simp only [if_neg hz] at h2; exact h2.elim
  | _ => exact h1.elim⟩
end
def Yns : P -> Option Key
 | .int i => some (.inl i)
 | .str x => some (.inr x)
 | _ => none
theorem Yb1 {K : Frag} {as : List Addr} {H : Hp} {v : V} {p : P} {k : Key} (d : Den K as H v p) (h : Yns p = some k) : v = kV k := by
 cases d with
 | int => cases h; rfl
 | str => cases h; rfl
 | _ => cases h
def Ymq {κ : Type} [DecidableEq κ] (kvs : List (κ × P)) (k : κ) : Option P := (kvs.find? fun kv => decide (kv.1 = k)).map (·.2)
def YnC {κ : Type} [DecidableEq κ] (kvs : List (κ × P)) (k : κ) (v : P) : List (κ × P) :=
 if (kvs.any fun kv => decide (kv.1 = k)) = true then kvs.map fun kv => if kv.1 = k then (kv.1, v) else kv else kvs ++ [(k, v)]
inductive OptDen (K : Frag) (as : List Addr) (H : Hp) : Option V -> Option P -> Prop where
 | none : OptDen K as H none none
 | some {v : V} {p : P} : Den K as H v p -> OptDen K as H (some v) (some p)
section
variable {K : Frag} {as : List Addr} {H : Hp}
theorem Vp {κ : Type} [DecidableEq κ] {k : κ} : ∀ {ws : List (κ × V)} {kvs : List (κ × P)}, ws.map (·.1) = kvs.map (·.1) -> Dens K as H (ws.map (·.2)) (kvs.map (·.2)) -> OptDen K as H (Ync ws k) (Ymq kvs k)
 | [], [], _, _ => .none
 | [], _ :: _, h, _ => by simp at h
 | _ :: _, [], h, _ => by simp at h
 | (k1, v) :: ws, (k2, p) :: kvs, h, d => by
  simp only [List.map_cons, List.cons.injEq] at h
  obtain ⟨rfl, h⟩ := h
  cases d with
  | cons d1 d2 =>
   by_cases e : k1 = k
   ·rw [Vu (p := (k1, v)) e]
    have : Ymq ((k1, p) :: kvs) k = some p := by simp [Ymq, List.find?_cons, e]
    rw [this]; exact .some d1
   ·rw [Vw (p := (k1, v)) e]
    have : Ymq ((k1, p) :: kvs) k = Ymq kvs k := by simp [Ymq, List.find?_cons, e]
    rw [this]; exact Vp h d2
theorem YiE {κ : Type} [DecidableEq κ] {k : κ} {v : V} {p : P} (dv : Den K as H v p) {ws : List (κ × V)} {kvs : List (κ × P)} (h : ws.map (·.1) = kvs.map (·.1)) (d : Dens K as H (ws.map (·.2)) (kvs.map (·.2))) :
 (putK ws k v).map (·.1) = (YnC kvs k p).map (·.1) /\ Dens K as H ((putK ws k v).map (·.2)) ((YnC kvs k p).map (·.2)) := by
 have hany : (ws.any fun kv => decide (kv.1 = k)) = (kvs.any fun kv => decide (kv.1 = k)) := by
  have e1 : (ws.any fun kv => decide (kv.1 = k)) = (ws.map (·.1)).any fun x => decide (x = k) := by rw [List.any_map]; rfl
  have e2 : (kvs.any fun kv => decide (kv.1 = k)) = (kvs.map (·.1)).any fun x => decide (x = k) := by rw [List.any_map]; rfl
  rw [e1, e2, h]
 unfold putK YnC
 rw [hany]
 by_cases z : (kvs.any fun kv => decide (kv.1 = k)) = true
 ·rw [ZAE z, ZAE z]
  clear z hany
  induction ws generalizing kvs with
  | nil =>
   cases kvs with
   | nil => exact ⟨rfl, .nil⟩
   | cons a b => simp at h
  | cons a ws ih =>
   cases kvs with
   | nil => simp at h
   | cons b kvs =>
    obtain ⟨k1, v1⟩ := a
    obtain ⟨k2, p2⟩ := b
    simp only [List.map_cons, List.cons.injEq] at h
    obtain ⟨rfl, h⟩ := h
    cases d with
    | cons d1 d2 =>
     obtain ⟨i1, i2⟩ := ih h d2
     simp only [List.map_cons]
     by_cases e : k1 = k
     ·simp only [if_pos e]
      exact ⟨by rw [i1], .cons dv i2⟩
     ·simp only [if_neg e]
      exact ⟨by rw [i1], .cons d1 i2⟩
 ·rw [ZAF z, ZAF z, ZAf, ZAf, ZAf, ZAf, h]
  exact ⟨rfl, d.append (.cons dv .nil)⟩
theorem YbC {st : YlA} {k : Nat} {kvs : List (Key × P)} {v : V} (rp : Rep K as st H) (d : Den K as H v (.ref k)) (h : st[k]? = some (.dct kvs)) :
 ∃ a ws, v = .ref a /\ as[k]? = some a /\ H a = some (.dK ws) /\ ws.map (·.1) = kvs.map (·.1) /\ Dens K as H (ws.map (·.2)) (kvs.map (·.2)) := by
 cases d with
 | ref e =>
  obtain ⟨ws, h1, h2, h3⟩ := rp.ob k _ _ e h
  exact ⟨_, ws, rfl, e, h1, h2, h3⟩
end
def ixI (xs : List P) (q : P) (st : YlA) : Option (P × YlA) := match q with
 | .int i => (atI xs i).map fun p => (p, st)
 | _ => none
def ixP : G2 := fun p q st => match p with
 | .str z => (match q with
  | .int i => if z.length <= cap then (atI z.cps.toList i).map fun c => (P.str ⟨#[c]⟩, st) else none
  | _ => none)
 | .tup xs => ixI xs q st
 | .ref k => (match st[k]? with
  | some (.lst xs) => ixI xs q st
  | some (.ro xs) => ixI xs q st
  | some (.dct kvs) => (match Yns q with
   | some k => (Ymq kvs k).map fun p => (p, st)
   | none => none)
  | _ => none)
 | _ => none
theorem IxR.imp {X : Cx} {r r' : R2} (h : IxR X r) (i : ∀ x y H Q, r' x y H Q -> r x y H Q) : IxR X r' := fun value slice pins s σ H x y v u Q I rx ry q => h value slice pins s σ H x y v u Q I rx ry (i x y H Q q)
theorem YbB {K : Frag} {as : List Addr} {H : Hp} {vs : List V} {xs : List P} {i : Int} {p : P} (d : Dens K as H vs xs) (h : atI xs i = some p) : ∃ v, atI vs i = some v /\ Den K as H v p := by
 unfold atI at h ⊢
 rw [d.length]
 cases e : ixN xs.length i with
 | none => rw [e] at h; cases h
 | some j =>
  rw [e] at h
  obtain ⟨v, h1, h2⟩ := d.get (show xs[j]? = some p from h)
  exact ⟨v, h1, h2⟩
section
variable {X : Cx} {a b c o i e : Expr} {ma mb mo mi me : ME} {pos pos' : Pos}
theorem Yii (hu : X.A.units + 1 < cLine) : IxR X (fun x y H Q => ∃ a v, x = .ref a /\ YnA H a y (some v) /\ Q v H) := by
 show 237
 obtain ⟨a, w, rfl, g, q⟩ := h
 cases rx
 exact tail_any (Ycn I g) PySem.F.slot_dict_getitem.lookup (YeE hu I g ry fun w' s3 I3 rw' => ⟨w, H, I3, rw', q⟩) hs
theorem Yk2 (hu : X.A.units + 1 < cLine) : IxR X (rM X ixP) := IxR.imp ((Ykf (X := X)).or (Yii hu)) fun x y H Q ⟨as, st, p, q, rp, d1, d2, h⟩ => by
 cases d1 with
 | @str z =>
  cases d2 with
  | @int j =>
   have h' : YlU X as H (if z.length <= cap then (atI z.cps.toList j).map fun c => (P.str ⟨#[c]⟩, st) else none) Q := h
   by_cases hz : z.length <= cap
   ·rw [ZAE hz] at h'
    cases e : atI z.cps.toList j with
    | none => rw [e] at h'; exact h'.elim
    | some c => rw [e] at h'; exact .inl (.inr (.inr ⟨z, j, c, rfl, rfl, ZAO hz Yx, e, h' as H _ Ext.refl rp .str⟩))
   ·show 228
  | _ => show 142
 | @tup a vs xs e r =>
  cases d2 with
  | @int j =>
   have h' : YlU X as H ((atI xs j).map fun p => (p, st)) Q := h
   cases q : atI xs j with
   | none => show 210
   | some p =>
    rw [q] at h'
    obtain ⟨v, h1, h2⟩ := YbB r q
    exact .inl (.inr (.inl ⟨a, vs, j, v, rfl, rfl, e, h1, h' as H _ Ext.refl rp h2⟩))
  | _ => show 142
 | @ref k a e =>
  have h' : YlU X as H (match st[k]? with
   | some (.lst xs) => ixI xs q st
   | some (.ro xs) => ixI xs q st
   | some (.dct kvs) => (match Yns q with
    | some k => (Ymq kvs k).map fun p => (p, st)
    | none => none)
   | _ => none) Q := h
  cases w : st[k]? with
  | none => rw [w] at h'; exact h'.elim
  | some ob =>
   rw [w] at h'
   have r := rp.ob k a ob e w
   cases ob with
   | lst xs =>
    obtain ⟨vs, h1, h2⟩ := r
    cases d2 with
    | @int j =>
     have h' : YlU X as H ((atI xs j).map fun p => (p, st)) Q := h'
     cases q : atI xs j with
     | none => show 210
     | some p =>
      rw [q] at h'
      obtain ⟨v, g1, g2⟩ := YbB h2 q
      exact .inl (.inl ⟨a, vs, j, v, rfl, rfl, .of h1, g1, h' as H _ Ext.refl rp g2⟩)
    | _ => show 161
   | ro xs =>
    obtain ⟨vs, h1, h2⟩ := r
    cases d2 with
    | @int j =>
     have h' : YlU X as H ((atI xs j).map fun p => (p, st)) Q := h'
     cases q : atI xs j with
     | none => show 210
     | some p =>
      rw [q] at h'
      obtain ⟨v, g1, g2⟩ := YbB h2 q
      exact .inl (.inl ⟨a, vs, j, v, rfl, rfl, Z0 h1, g1, h' as H _ Ext.refl rp g2⟩)
    | _ => show 161
   | dct kvs =>
    obtain ⟨ws, h1, h2, h3⟩ := r
    cases z : Yns q with
    | none => simp only [z] at h'; exact h'.elim
    | some key =>
     simp only [z] at h'
     have ev := Yb1 d2 z
     subst ev
     cases zz : Ymq kvs key with
     | none => rw [zz] at h'; exact h'.elim
     | some p =>
      rw [zz] at h'
      have od := Vp (k := key) h2 h3
      rw [zz] at od
      cases hv : Ync ws key with
      | none => rw [hv] at od; cases od
      | some v =>
       rw [hv] at od
       cases od with
       | some dd => exact .inr ⟨a, v, rfl, by rw [<- hv]; exact YnA.k h1, h' as H _ Ext.refl rp dd⟩
   | exc c fs => show 161
   | dtt kvs => show 161
   | fdc kvs => show 161
 | _ => show 142
theorem YV (hu : X.A.units + 1 < cLine) (ha : JE X a ma) (hb : JE X b mb) (hs : Yos b) : JE X (.Subscript a b pos) (YlB ixP ma mb) := PE.imp (Yk1 (Yk2 hu) ha hb hs) fun _ _ _ h => YbM h
def YnB (o i v : P) (st : YlA) : Option YlA := match o with
 | .ref k => (match st[k]? with
  | some (.lst xs) => (match i with
   | .int j => (ixN xs.length j).map fun n => st.set k (.lst (xs.set n v))
   | _ => none)
  | some (.dct kvs) => (match Yns i with
   | some key => if kvs.length < cap then some (st.set k (.dct (YnC kvs key v))) else none
   | none => none)
  | _ => none)
 | _ => none
def YoB (mo mi me : ME) : MS := fun ρ st => RS.ofE ρ (me ρ st) fun v st1 => RS.ofE ρ (mo ρ st1) fun o st2 => RS.ofE ρ (mi ρ st2) fun i st3 => match YnB o i v st3 with
 | some st4 => .nx ρ st4
 | none => .bad
theorem Yjx (hu : X.A.units + 1 < cLine) {to ti te : TE} (ho : PE X o to) (hi : PE X i ti) (hv : PE X e te) (hs : swapsWith e (some (.Subscript o i pos')) pos.line X.env = pure false) :
 PS X (.Assign [.Subscript o i pos'] e pos) (fun D σ H => te σ H fun v H1 => to σ H1 fun x H2 => ti σ H2 fun y H3 => Yo7 x y v H3 (fun H4 => D.nx σ H4) \/ ∃ a H4, x = .ref a /\ YoJ H3 a y v H4 /\ D.nx σ H4) := by
 show 173
 refine wpAny_Assign_Subscript (thn (hv pins s σ H _ I h) fun r s1 ⟨v, H1, I1, rv, q1⟩ => thn (ho pins s1 σ H1 _ I1 q1) fun u s2 ⟨x, H2, I2, rx, q2⟩ => thn (hi pins s2 σ H2 _ I2 q2) fun iv s3 ⟨y, H3, I3, ry, q3⟩ => ?_) hs
 rcases q3 with q3 | ⟨a, H4, ex, g, q3⟩
 ·exact thn (Ygo pins s3 σ H3 x y v u iv r _ I3 rx ry rv q3) fun _ s4 ⟨H4, I4, q4⟩ => ⟨σ, H4, I4, q4⟩
 ·subst ex
  obtain rfl : u = Value.ref a := rx
  exact Yes hu I3 g ry rv fun s4 I4 => ⟨σ, H4, I4, q3⟩
theorem YdB (hu : X.A.units + 1 < cLine) (ho : JE X o mo) (hi : JE X i mi) (hv : JE X e me) (hs : swapsWith e (some (.Subscript o i pos')) pos.line X.env = pure false := by rfl) : JS X (.Assign [.Subscript o i pos'] e pos) (YoB mo mi me) :=
 PS.imp (Yjx hu ho hi hv hs) fun D σ H ⟨as, ρ, st, en, rp, h⟩ => ⟨as, ρ, st, en, rp, YlP.ofE h fun pv st1 as1 H1 v x1 rp1 dv h1 => ⟨as1, ρ, st1, en.ext x1, rp1, YlP.ofE h1 fun po st2 as2 H2 x x2 rp2 dx h2 =>
  ⟨as2, ρ, st2, (en.ext x1).ext x2, rp2, YlP.ofE h2 fun pi st3 as3 H3 y x3 rp3 dy h3 => by
   have dv := (dv.ext x2).ext x3
   have dx := dx.ext x3
   have en3 := ((en.ext x1).ext x2).ext x3
   cases q : YnB po pi pv st3 with
   | none => rw [q] at h3; exact h3.elim
   | some st4 =>
    rw [q] at h3
    unfold YnB at q
    cases po with
    | ref k =>
     simp only at q
     cases w : st3[k]? with
     | none => rw [w] at q; cases q
     | some ob =>
      rw [w] at q
      cases ob with
      | lst xs =>
       simp only at q
       cases pi with
       | int j =>
        simp only at q
        cases z : ixN xs.length j with
        | none => rw [z] at q; cases q
        | some n =>
         rw [z] at q
         cases q
         obtain ⟨a, vs, rfl, e1, e2, h4, h5⟩ := Yar (xs := xs) rp3 dx (by unfold Yl7; rw [w])
         cases dy with
         | int => exact .inl ⟨a, vs, j, n, rfl, rfl, h4, by rw [h5.length]; exact z, h3 as3 _ _ (Ext.write h4 trivial) (rp3.lset e1 h4 e2 (Dens.set dv n h5)) (en3.ext (Ext.write h4 trivial))⟩
       | _ => cases q
      | dct kvs =>
       simp only at q
       cases z : Yns pi with
       | none => rw [z] at q; cases q
       | some key =>
        rw [z] at q
        simp only at q
        by_cases hl : kvs.length < cap
        ·rw [ZAE hl] at q
         cases q
         obtain ⟨a, ws, rfl, e1, h4, h5, h6⟩ := YbC rp3 dx w
         have ev := Yb1 dy z
         subst ev
         obtain ⟨g1, g2⟩ := YiE (k := key) dv h5 h6
         have hlen : ws.length = kvs.length := by simpa using congrArg List.length h5
         refine .inr ⟨a, _, rfl, YoJ.k h4 (by rw [hlen]; exact ZAM hl Yx), ?_⟩
         exact h3 as3 _ _ (Ext.write h4 trivial) (rp3.write e1 h4 trivial (fun z => z) (by rw [w]; exact fun z => z) ⟨_, Ym, g1, g2.ext (Ext.write h4 trivial)⟩) (en3.ext (Ext.write h4 trivial))
        ·rw [ZAF hl] at q; cases q
      | ro xs => cases q
      | exc c fs => cases q
      | dtt kvs => cases q
      | fdc kvs => cases q
    | _ => cases q⟩⟩⟩
def Yof : ME := fun _ st => .ok (.ref st.length) (st ++ [.dct []])
theorem YfT : JE X (.Dict [] [] pos) Yof := PE.imp YgB fun σ H Q ⟨as, ρ, st, en, rp, h⟩ p hp =>
 h (as ++ [p]) _ _ (Ext.new hp) (rp.new hp ⟨[], Ym, rfl, .nil⟩) (.ref (by rw [<- rp.len]; exact Yav))
def YoI (md mk mx : ME) : ME := fun ρ st => (md ρ st).bind fun d st1 => match d with
 | .ref k => (match st1[k]? with
  | some (.dct _) => (mk ρ st1).bind fun y st2 => (mx ρ st2).bind fun z st3 => (match st3[k]?, Yns y with
   | some (.dct kvs), some key => .ok ((Ymq kvs key).getD z) st3
   | _, _ => .bad)
  | _ => .bad)
 | _ => .bad
theorem Yki {md mk mx : ME} {f : Expr} {apos cpos : Pos} (hu : X.A.units + 1 < cLine) (ho : JE X o md) (he : JE X e mk) (hf : JE X f mx) (m : M2 X o "get" apos e f cpos) : JE X (.Call (.Attribute o "get" apos) [e, f] [] cpos) (YoI md mk mx) :=
 PE.imp (YhK hu ho he hf m) fun σ H Q ⟨as, ρ, st, en, rp, h⟩ => ⟨as, ρ, st, en, rp, YlL.bindE h fun pd st1 as1 H1 x x1 rp1 dx h1 => by
  cases dx with
  | @ref k a ek =>
   simp only at h1
   cases w : st1[k]? with
   | none => rw [w] at h1; exact h1.elim
   | some ob =>
    rw [w] at h1
    cases ob with
    | dct kvs0 =>
     simp only at h1
     obtain ⟨a', ws, e0, e1, h4, h5, h6⟩ := YbC rp1 (.ref ek) w
     cases e0
     refine ⟨a, rfl, .inl ⟨ws, .inl h4⟩, as1, ρ, st1, en.ext x1, rp1, YlL.bindE h1 fun py st2 as2 H2 y x2 rp2 dy h2 => ⟨as2, ρ, st2, (en.ext x1).ext x2, rp2, YlL.bindE h2 fun pz st3 as3 H3 z x3 rp3 dz h3 => ?_⟩⟩
     cases w3 : st3[k]? with
     | none => rw [w3] at h3; exact h3.elim
     | some ob3 =>
      rw [w3] at h3
      cases ob3 with
      | dct kvs =>
       cases zk : Yns py with
       | none => rw [zk] at h3; exact h3.elim
       | some key =>
        rw [zk] at h3
        simp only at h3
        have ea : as3[k]? = some a := x3.pre _ _ (x2.pre _ _ ek)
        obtain ⟨a3, ws3, e3, _, g4, g5, g6⟩ := YbC rp3 (.ref ea) w3
        cases e3
        have ev := Yb1 (dy.ext x3) zk
        subst ev
        refine ⟨_, YnA.k g4, ?_⟩
        have od := Vp (k := key) g5 g6
        refine h3 as3 H3 _ Ext.refl rp3 ?_
        cases hv : Ync ws3 key with
        | none =>
         rw [hv] at od
         cases hp : Ymq kvs key with
         | none => exact dz
         | some q => rw [hp] at od; cases od
        | some v =>
         rw [hv] at od
         cases hp : Ymq kvs key with
         | none => rw [hp] at od; cases od
         | some q => rw [hp] at od; cases od with | some dd => exact dd
      | lst xs => exact h3.elim
      | ro xs => exact h3.elim
      | exc c fs => exact h3.elim
      | dtt kvs => exact h3.elim
      | fdc kvs => exact h3.elim
    | lst xs => exact h1.elim
    | ro xs => exact h1.elim
    | exc c fs => exact h1.elim
    | dtt kvs => exact h1.elim
    | fdc kvs => exact h1.elim
  | _ => exact h1.elim⟩
def inP : G2 := fun p q st => match p, q with
 | .str x, .str y => okP (.bl (!(Builtin.Str.occurrences y x 0 y.length 1).isEmpty)) st
 | p, .ref k => (match st[k]? with
  | some (.dct kvs) => (match Yns p with
   | some key => okP (.bl (Ymq kvs key).isSome) st
   | none => none)
  | _ => none)
 | _, _ => none
theorem YaJ {K : Frag} {as : List Addr} {H : Hp} {v : Option V} {p : Option P} (h : OptDen K as H v p) : v.isSome = p.isSome := by cases h <;> rfl
theorem Ylj (hu : X.A.units + 1 < cLine) : OpR X (compareOp .In) (rM X inP) := opM fun pins s σ H x y v u Q as st p q I rx ry rp d1 d2 h => by
 cases d2 with
 | str =>
  cases d1 with
  | str => exact YeB pins s σ H _ _ v u Q I rx ry ⟨_, _, rfl, rfl, h as H _ Ext.refl rp .bl⟩
  | _ => show 142
 | @ref k a e =>
  have h' : YlU X as H (match st[k]? with
   | some (.dct kvs) => (match Yns p with
    | some key => okP (.bl (Ymq kvs key).isSome) st
    | none => none)
   | _ => none) Q := by cases d1 <;> exact h
  cases w : st[k]? with
  | none => rw [w] at h'; exact h'.elim
  | some ob =>
   rw [w] at h'
   cases ob with
   | dct kvs =>
    cases z : Yns p with
    | none => simp only [z] at h'; exact h'.elim
    | some key =>
     simp only [z] at h'
     obtain ⟨a', ws, e0, _, g4, g5, g6⟩ := YbC rp (.ref e) w
     cases e0
     have ev := Yb1 d1 z
     subst ev
     cases ry
     refine d_in hu I (YnA.k (k := key) g4) rx fun s3 I3 => ⟨.bl _, H, I3, rfl, ?_⟩
     rw [YaJ (Vp (k := key) g5 g6)]
     exact h' as H _ Ext.refl rp .bl
   | _ => show 161
 | _ => cases d1 <;> exact h.elim
end
section
variable {prog : Program} {w : World} {A : Around} {E : VSP} {s : Shared}
theorem WV {t sl : Addr} {items : Array Value} {vl vu : Value} {lo hi : Option Int} {Q : VSP} (ht : IsTup s.heap t items) (hs : s.heap.IsSliceOf sl vl vu .none) (pl : IsPart vl lo) (pu : IsPart vu hi)
 (hw : HT.sIx items.size 0 lo = 0 /\ HT.sIx items.size items.size hi = items.size) (h : Q (.ref t) s) : wpAny (model prog w) A (getItem (.ref t) (.ref sl)) Q E s := by
 obtain ⟨os, hos, hcs, hds⟩ := id hs
 have hTs : s.TypeIs (.ref sl) "slice" := ⟨os, hos, hcs⟩
 unfold getItem
 try with_reducible refine ZAh ?_
 first | refine ZAA (ZAC ?_) | skip
 refine ZAA (wpAny_sequenceKey ht.typeIs (by decide) ?_)
 refine ZAA (wpAny_callSpecial?_slot (name := Str.ofString "__getitem__") ht.typeIs PyProof.Rows.slot_tuple_getitem
  (ZA2 PyProof.Rows.slot_tuple_getitem ht.typeIs entry_tuple_getitem ?_ (args_tuple_getitem _ _)))
 show wpAny _ _ (Builtin.Tuple.tupleItemsOf (.ref t) >>= _) _ _ s
 refine ZAA (tupleItemsOf_ ht ?_)
 refine ZAA (ZBe hTs ?_)
 rw [ZAE (by decide)]
 refine ZAA (HT.sliceApplied_gen hs pl pu ?_)
 have hno : (((HT.sIx items.size 0 lo : Nat) : Int) == 0 && (1 : Int) == 1 && (HT.sIx items.size items.size hi - HT.sIx items.size 0 lo) == items.size) = true := by
  rw [hw.1, hw.2]; simp
 show wpAny _ _ (if (((HT.sIx items.size 0 lo : Nat) : Int) == 0 && (1 : Int) == 1 && (HT.sIx items.size items.size hi - HT.sIx items.size 0 lo) == items.size) = true then _ else _) _ _ s
 rw [ZAE hno]
 show 168
 unfold Builtin.Tuple.tupleIsExact
 refine ZAA (ZBe ht.typeIs (ZAC ?_))
 rw [ZAE (by decide)]
 exact ZAA (ZB7 (ZAC ⟨_, rfl, ZAC h⟩))
end
abbrev MO := Rho -> YlA -> R (Option Int)
def Ym3 (X : Cx) (as : List Addr) (H : Hp) (ρ : Rho) (r : R (Option Int)) (Q : Option Int -> Hp -> Prop) : Prop :=
 match r with
 | .ok o st' => ∀ as' H', Ext as H as' H' -> Rep X.K as' st' H' -> Q o H'
 | .exc k st' => XOk X as H ρ k st'
 | .bad => False
def tO (X : Cx) (m : MO) : TO := fun σ H Q => ∃ as ρ st, YlO X.K as H ρ σ /\ Rep X.K as st H /\ Ym3 X as H ρ (m ρ st) Q
abbrev JO (X : Cx) (e : Option Expr) (m : MO) : Prop := PO X e (tO X m)
theorem PO.imp {X : Cx} {e : Option Expr} {t t' : TO} (h : PO X e t) (i : ∀ σ H Q, t' σ H Q -> t σ H Q) : PO X e t' := fun pins s σ H Q I q => h pins s σ H Q I (i σ H Q q)
def Yna : MO := fun _ st => .ok none st
def Ymx (me : ME) : MO := fun ρ st => (me ρ st).bind fun p st1 => match p with
 | .int i => .ok (some i) st1
 | _ => .bad
section
variable {X : Cx} {e : Expr} {me : ME} {lo hi : Option Expr} {ml mh : MO} {pos p2 : Pos}
theorem Ym3.ext {as as1 : List Addr} {H H1 : Hp} {ρ : Rho} {r : R (Option Int)} {Q : Option Int -> Hp -> Prop} (x : Ext as H as1 H1) (h : Ym3 X as H ρ r Q) : Ym3 X as1 H1 ρ r Q := by
 cases r with
 | ok p st' => exact fun as' H' y => h as' H' (x.trans y)
 | exc k st' => show 180
 | bad => exact h
theorem Ym3.bindE {as : List Addr} {H : Hp} {ρ : Rho} {r : R P} {f : P -> YlA -> R (Option Int)} {Q : Option Int -> Hp -> Prop} {Q' : VK} (h : Ym3 X as H ρ (r.bind f) Q)
 (go : ∀ p st1 as1 H1 v, Ext as H as1 H1 -> Rep X.K as1 st1 H1 -> Den X.K as1 H1 v p -> Ym3 X as1 H1 ρ (f p st1) Q -> Q' v H1) : YlL X as H ρ r Q' := by
 cases r with
 | ok p st1 => exact fun as1 H1 v x rp d => go p st1 as1 H1 v x rp d (Ym3.ext x h)
 | exc k st' => exact h
 | bad => exact h
theorem YlL.bindN {as : List Addr} {H : Hp} {ρ : Rho} {r : R (Option Int)} {f : Option Int -> YlA -> R P} {Q : VK} {Q' : Option Int -> Hp -> Prop} (h : YlL X as H ρ (r.bind f) Q)
 (go : ∀ b st1 as1 H1, Ext as H as1 H1 -> Rep X.K as1 st1 H1 -> YlL X as1 H1 ρ (f b st1) Q -> Q' b H1) : Ym3 X as H ρ r Q' := by
 cases r with
 | ok p st1 => exact fun as1 H1 x rp => go p st1 as1 H1 x rp (YlL.ext x h)
 | exc k st' => exact h
 | bad => exact h
theorem Wn : JO X none Yna := PO.imp YiD fun σ H Q ⟨as, ρ, st, en, rp, h⟩ => h as H Ext.refl rp
theorem YX (he : JE X e me) : JO X (some e) (Ymx me) := PO.imp (Yh4 he) fun σ H Q ⟨as, ρ, st, en, rp, h⟩ => ⟨as, ρ, st, en, rp, Ym3.bindE h fun p st1 as1 H1 v x rp1 d h1 => by
 cases d with
 | int => exact ⟨_, rfl, h1 as1 H1 Ext.refl rp1⟩
 | _ => exact h1.elim⟩
def Ynv (xs : List P) (lo hi : Option Int) : List P := (xs.drop (HT.sIx xs.length 0 lo)).take (HT.sIx xs.length xs.length hi - HT.sIx xs.length 0 lo)
theorem YbD {K : Frag} {as : List Addr} {H : Hp} {vs : List V} {xs : List P} (d : Dens K as H vs xs) (lo hi : Option Int) : Dens K as H (Yn7 vs lo hi) (Ynv xs lo hi) := by
 unfold Yn7 Ynv
 rw [d.length]
 exact (d.drop _).take _
def slP (p : P) (lo hi : Option Int) (st : YlA) : Option (P × YlA) := match p with
 | .str z => if z.length <= cap then okP (.str (Txt.slice z lo hi)) st else none
 | .tup xs => okP (.tup (Ynv xs lo hi)) st
 | .ref k => (match st[k]? with
  | some (.lst xs) => YmO (Ynv xs lo hi) st
  | some (.ro xs) => YmO (Ynv xs lo hi) st
  | _ => none)
 | _ => none
def rMS (X : Cx) : V -> Option Int -> Option Int -> Hp -> VK -> Prop := fun x lo hi H Q => ∃ as st p, Rep X.K as st H /\ Den X.K as H x p /\ YlU X as H (slP p lo hi st) Q
theorem Ycl {v : Value} {o : Option Int} (p : IsPart v o) : ∃ q : Option (Int × Tok), v = partValue q /\ q.map (·.1) = o := by
 cases p with
 | none => exact ⟨none, rfl, rfl⟩
 | int i t => exact ⟨some (i, t), rfl, rfl⟩
theorem Yju : SlR X (fun x lo hi H Q => ∃ z, x = .str z /\ z.length <= cap /\ Q (.str (Txt.slice z lo hi)) H) := by
 show 223
 obtain ⟨z, rfl, hz, q⟩ := h
 show 163
 obtain ⟨ql, rfl, el⟩ := Ycl pl
 obtain ⟨qu, rfl, eu⟩ := Ycl pu
 obtain ⟨o, ho, hc, hd⟩ := id hs
 refine ⟨"str", _, PySem.F.slot_str_getitem.lookup, typeIs_str _ _ _, wpAny_getItem_str_slice (l := ql) (u := qu) (st := none) ⟨o, ho, hc, hd⟩ rfl ?_⟩
 have fin : ∀ t' k, EP X pins σ Q (.str (Txt.slice z lo hi) t') { s with toks := k } := fun t' k => ⟨.str _, H, I.tok k, ⟨_, rfl⟩, q⟩
 unfold sliceMade
 have e : slicePicked z ql qu none = Builtin.Str.strSliceIndices lo hi 1 z.length := by unfold slicePicked; rw [el, eu]; rfl
 rw [e]
 exact post_val_or_str ⟨ZAO (Txt.slice_le z lo hi) (ZAO hz Yx), fin⟩
theorem Yim : SlR X (fun x lo hi H Q => ∃ a xs, x = .ref a /\ SqT X.K H a xs /\ HT.sIx xs.length 0 lo = 0 /\ HT.sIx xs.length xs.length hi = xs.length /\ Q (.ref a) H) := by
 show 223
 obtain ⟨a, xs, rfl, hx, h1, h2, q⟩ := h
 cases rx
 obtain ⟨its, r, ht, hz⟩ := I.tuple hx
 have hlen : its.toArray.size = xs.length := by rw [ZAd]; exact r.length.symm
 exact ⟨"tuple", _, PyProof.Rows.slot_tuple_getitem.lookup, ht.typeIs, WV ht hs pl pu (by rw [hlen]; exact ⟨h1, h2⟩) ⟨.ref a, H, I, rfl, q⟩⟩
theorem SlR.imp {r r' : V -> Option Int -> Option Int -> Hp -> VK -> Prop} (h : SlR X r) (i : ∀ x lo hi H Q, r' x lo hi H Q -> r x lo hi H Q) : SlR X r' := fun pins s σ H x v vl vu lo hi sl Q I rx hs pl pu q => h pins s σ H x v vl vu lo hi sl Q I rx hs pl pu (i x lo hi H Q q)
theorem Yk5 : SlR X (rMS X) := SlR.imp ((Yju (X := X)).or ((YjF (X := X)).or ((Yim (X := X)).or (YiB (X := X))))) fun x lo hi H Q ⟨as, st, p, rp, d, h⟩ => by
 cases d with
 | @str z =>
  have h' : YlU X as H (if z.length <= cap then okP (.str (Txt.slice z lo hi)) st else none) Q := h
  by_cases hz : z.length <= cap
  ·rw [ZAE hz] at h'
   exact .inl ⟨z, rfl, hz, h' as H _ Ext.refl rp .str⟩
  ·show 228
 | @tup a vs xs e r =>
  have h' : YlU X as H (okP (.tup (Ynv xs lo hi)) st) Q := h
  by_cases w : HT.sIx vs.length 0 lo = 0 /\ HT.sIx vs.length vs.length hi = vs.length
  ·refine .inr (.inr (.inl ⟨a, vs, rfl, e, w.1, w.2, ?_⟩))
   have ec : Ynv xs lo hi = xs := by
    unfold Ynv
    rw [<- r.length, w.1, w.2, ZCD, ZAo (by rw [r.length]; exact ZAI _)]
   rw [ec] at h'
   exact h' as H _ Ext.refl rp (.tup e r)
  ·exact .inr (.inl ⟨a, vs, rfl, e, w, fun p hp => h' as _ _ (Ext.laid hp) (rp.laid hp) (.tup (.of Ym) ((YbD r lo hi).ext (Ext.laid hp)))⟩)
 | @ref k a e =>
  have h' : YlU X as H (match st[k]? with | some (.lst xs) => YmO (Ynv xs lo hi) st | some (.ro xs) => YmO (Ynv xs lo hi) st | _ => none) Q := h
  cases w : st[k]? with
  | none => rw [w] at h'; exact h'.elim
  | some ob =>
   rw [w] at h'
   have r := rp.ob k a ob e w
   cases ob with
   | lst xs => obtain ⟨vs, h1, h2⟩ := r; exact .inr (.inr (.inr ⟨a, vs, rfl, .of h1, fun p hp => WL rp (YbD h2 lo hi) h' hp⟩))
   | ro xs => obtain ⟨vs, h1, h2⟩ := r; exact .inr (.inr (.inr ⟨a, vs, rfl, Z0 h1, fun p hp => WL rp (YbD h2 lo hi) h' hp⟩))
   | dct kvs => show 161
   | exc c fs => show 161
   | dtt kvs => show 161
   | fdc kvs => show 161
 | _ => show 142
def eSl (me : ME) (ml mh : MO) : ME := fun ρ st => (me ρ st).bind fun p st1 => (ml ρ st1).bind fun l st2 => (mh ρ st2).bind fun u st3 => ofO (slP p l u st3)
theorem Y0 (he : JE X e me) (hl : JO X lo ml) (hu : JO X hi mh) : JE X (.Subscript e (.Slice lo hi none p2) pos) (eSl me ml mh) :=
 PE.imp (YgN Yk5 he hl hu) fun σ H Q ⟨as, ρ, st, en, rp, h⟩ => ⟨as, ρ, st, en, rp, YlL.bindE h fun p st1 as1 H1 v x rp1 d h1 => ⟨as1, ρ, st1, en.ext x, rp1, YlL.bindN h1 fun l st2 as2 H2 x2 rp2 h2 =>
  ⟨as2, ρ, st2, (en.ext x).ext x2, rp2, YlL.bindN h2 fun u st3 as3 H3 x3 rp3 h3 => ⟨as3, st3, p, rp3, (d.ext x2).ext x3, YlL.ofO h3⟩⟩⟩⟩
def Ypv (me : ME) : ME := fun ρ st => (me ρ st).bind fun p st1 => match p with
 | .tup xs => .ok (.tup xs.reverse) st1
 | _ => .bad
end
def tyP (p : P) (st : YlA) : Option String := match p with
 | .non => some "NoneType"
 | .bl _ => some "bool"
 | .int _ => some "int"
 | .str _ => some "str"
 | .tup _ => some "tuple"
 | .ref k => (match st[k]? with
  | some (.lst _) => some "list"
  | some (.ro _) => some "list"
  | some (.dct _) => some "dict"
  | _ => none)
def Ynk (t T : String) : Bool := t == T || (t == "bool" && T == "int")
def YnZ (T : String) : Prop := ∀ (K : Frag) (t : String), t ∈ ["NoneType", "bool", "int", "str", "tuple", "list", "dict"] -> PySem.W.kitOne K (.type t) (.type T) = some (Ynk t T)
theorem Jz : YnZ "str" := fun K t h => by
 simp only [List.mem_cons, List.not_mem_nil, or_false] at h
 rcases h with rfl | rfl | rfl | rfl | rfl | rfl | rfl <;> rfl
theorem WP : YnZ "tuple" := fun K t h => by
 simp only [List.mem_cons, List.not_mem_nil, or_false] at h
 rcases h with rfl | rfl | rfl | rfl | rfl | rfl | rfl <;> rfl
def YnD (T : String) (me : ME) : ME := fun ρ st => (me ρ st).bind fun p st1 => match tyP p st1 with
 | some t => .ok (.bl (Ynk t T)) st1
 | none => .bad
section
variable {X : Cx} {e : Expr} {me : ME} {pos p p' : Pos}
theorem Ygh {T : String} (kt : YnZ T) : Ymw X (.builtin "isinstance") (fun xs H Q => ∃ x as st p t, xs = [x, .ty T] /\ Rep X.K as st H /\ Den X.K as H x p /\ tyP p st = some t /\ Q (.bl (Ynk t T)) H) := by
 intro pins s σ H xs us Q I rv h
 obtain ⟨x, as, st, p, t, rfl, rp, d, ht, q⟩ := h
 obtain ⟨u, c, rfl, ru, rc⟩ := rv.two
 obtain rfl : c = Value.type T := rc
 have fin : ∀ tk, EP X pins σ Q (.bool (Ynk t T)) { s with toks := tk } := fun tk => ⟨.bl _, H, I.tok tk, rfl, q⟩
 cases d with
 | non => cases ru; cases ht; exact PySem.W.kia_one PySem.W.kitx_none I.kIn True.intro (kt _ _ (by decide)) (fun z => nomatch z) fin
 | bl => cases ru; cases ht; exact PySem.W.kia_one PySem.W.kitx_bool I.kIn True.intro (kt _ _ (by decide)) (fun z => nomatch z) fin
 | int => obtain ⟨t', rfl⟩ := ru; cases ht; exact PySem.W.kia_one PySem.W.kitx_int I.kIn True.intro (kt _ _ (by decide)) (fun z => nomatch z) fin
 | str => obtain ⟨t', rfl⟩ := ru; cases ht; exact PySem.W.kia_one PySem.W.kitx_str I.kIn True.intro (kt _ _ (by decide)) (fun z => nomatch z) fin
 | tup e r =>
  cases ru; cases ht
  obtain ⟨its, _, ⟨o, h1, h2, _⟩, _⟩ := I.tuple e
  exact PySem.W.kia_one PySem.W.kitx_tuple I.kIn ⟨o, h1, h2⟩ (kt _ _ (by decide)) (fun z => nomatch z) fin
 | @ref k a e =>
  cases ru
  have ht' : (match st[k]? with | some (.lst _) => some "list" | some (.ro _) => some "list" | some (.dct _) => some "dict" | _ => none) = some t := ht
  cases w : st[k]? with
  | none => rw [w] at ht'; cases ht'
  | some ob =>
   rw [w] at ht'
   have r := rp.ob k a ob e w
   cases ob with
   | lst xs =>
    cases ht'
    obtain ⟨vs, h1, _⟩ := r
    obtain ⟨its, _, ⟨o, n, g1, g2, _⟩, _⟩ := I.list (.of h1)
    exact PySem.W.kia_one PySem.W.kitx_list I.kIn ⟨o, g1, g2⟩ (kt _ _ (by decide)) (fun z => nomatch z) fin
   | ro xs =>
    cases ht'
    obtain ⟨vs, h1, _⟩ := r
    obtain ⟨its, _, ⟨o, n, g1, g2, _⟩, _⟩ := I.list (Z0 h1)
    exact PySem.W.kia_one PySem.W.kitx_list I.kIn ⟨o, g1, g2⟩ (kt _ _ (by decide)) (fun z => nomatch z) fin
   | dct kvs =>
    cases ht'
    obtain ⟨ws, h1, _⟩ := r
    obtain ⟨_, _, vs, _, o, es, ep, g1, g2, _⟩ := I.hok a _ h1
    exact PySem.W.kia_one PySem.W.kitx_dict I.kIn ⟨o, g1, g2.1⟩ (kt _ _ (by decide)) (fun z => nomatch z) fin
   | exc c fs => cases ht'
   | dtt kvs => cases ht'
   | fdc kvs => cases ht'
theorem Wz {T : String} {y : Str} (kt : YnZ T) (hg : Gl X "isinstance") (hm : X.mg "isinstance" = none) (hv : bootBuiltins "isinstance" = some (.builtin "isinstance")) (gy : Gl X y) (my : X.mg y = none) (vy : bootBuiltins y = some (.type T)) (he : JE X e me)
 (hy : y ≠ "__name__" := by decide) (hyd : (y == ("__debug__" : Str)) = false := by decide)
 (h1 : starEach [e, .Name y p'] X.env = (false, eval e X.env) :: starEach [.Name y p'] X.env := by rfl) (h2 : starEach [.Name y p'] X.env = (false, eval (.Name y p') X.env) :: starEach [] X.env := by rfl) (hpl : (backTo pos (starEach [.Name y p'] X.env)).any (·.1) = false := by rfl) :
 JE X (.Call (.Name "isinstance" p) [e, .Name y p'] [] pos) (YnD T me) :=
 PE.imp (Wx (Ygh kt) hg hm hv (Y8 he (Y8 (YdV (v := .ty T) gy my vy rfl hy hyd) WD h2) h1) (by decide) (by decide) h1 hpl) fun σ H Q ⟨as, ρ, st, en, rp, h⟩ => ⟨as, ρ, st, en, rp, YlL.bindE h fun p st1 as1 H1 v x rp1 d h1 => by
  cases w : tyP p st1 with
  | none => rw [w] at h1; exact h1.elim
  | some t => rw [w] at h1; exact ⟨v, as1, st1, p, t, rfl, rp1, d, w, h1 as1 H1 _ Ext.refl rp1 .bl⟩⟩
def Ymv (n : Nat) (r : MGs) : MG := fun p ρ st => match Ymo p st with
 | some xs => if xs.length = n then r xs ρ st else none
 | none => none
theorem Ykh {n k : Nat} {r : MGs} (h : YnU n r) : YnL n (Ymv k r) := fun p ρ st ρ1 e => by
 unfold Ymv at e
 cases q : Ymo p st with
 | none => show 191
 | some xs =>
  rw [q] at e
  simp only at e
  by_cases z : xs.length = k
  ·rw [ZAE z] at e; exact h _ _ _ _ e
  ·rw [ZAF z] at e; cases e
theorem Ya6 {prog : Program} {w : World} {A : Around} {E : VSP} {it t : Addr} {items : Array Value} (hne : t ≠ it) : ∀ (n i : Nat) (s : Shared) (Q : List Value -> Shared -> Prop), s.heap.IsListIter it t i -> s.heap.IsList t items -> i + n <= items.size ->
 (∀ h', h'.IsListIter it t (i + n) -> Heap.SameBut it s.heap h' -> Q ((items.toList.drop i).take n) { s with heap := h' }) -> wpAny (model prog w) A (draw (.ref it) n) Q E s
 | 0, i, s, Q, hit, ht, hl, hQ => by
  show wpAny _ _ (pure []) Q E s
  exact ZAC (hQ s.heap hit (.refl ..))
 | n + 1, i, s, Q, hit, ht, hl, hQ => by
  have hlt : i < items.size := by omega
  show wpAny _ _ (pyNext (.ref it) >>= _) Q E s
  refine wpAny_bind (wpAny_pyNext_list_item hit ht (x := items[i]) (by simp [hlt]) fun h₁ hit₁ hs₁ => ?_)
  refine ZAA (ZAh (Ya6 hne n (i + 1) _ _ hit₁ (ht.extBut hs₁.extBut hne) (by omega) fun h₂ hit₂ hs₂ => ZAC ?_))
  have hd : items.toList.drop i = items[i] :: items.toList.drop (i + 1) := by simp [List.drop_eq_getElem_cons, hlt]
  have := hQ h₂ (by rw [show i + (n + 1) = i + 1 + n by omega]; exact hit₂) (hs₁.trans hs₂)
  rw [hd, List.take_succ_cons] at this
  exact this
theorem VT {prog : Program} {w : World} {A : Around} {E : VSP} {s : Shared} {t : Addr} {items : Array Value} {Q : List Value -> Shared -> Prop} (hh : A.handled = none) (ht : s.heap.IsList t items)
 (hQ : ∀ h', Heap.ExtBut s.heap.objs.size s.heap h' -> Q items.toList { s with heap := h' }) : wpAny (model prog w) A (unpackItems (.ref t) items.size none) Q E s := by
 have hlt : t ≠ s.heap.objs.size := by obtain ⟨o, ho, _⟩ := ht; exact ZAP (ZAG ho)
 unfold unpackItems
 show 168
 ·unfold notIterableAtAll
  refine ZAA (wpAny_specialOf ht.typeIs PySem.F.slot_list_iter.lookup ?_)
  refine ZAC ?_
  simp only [Bool.false_eq_true, if_false]
  refine ZAA (ZAh (ZB2 ht ?_))
  refine ZAA (ZAh (Ya6 hlt items.size 0 _ _ ⟨_, ZAK _ rfl, rfl, rfl⟩ (ht.push _) (by omega) fun h₁ hit₁ hs₁ => ?_))
  have hall : List.take items.size (List.drop 0 items.toList) = items.toList := by
   rw [List.drop_zero]; exact List.take_of_length_le (by simp)
  rw [hall]
  rw [if_neg (by simp)]
  have ht₁ : h₁.IsList t items := (ht.push _).extBut hs₁.extBut hlt
  refine wpAny_bind (wpAny_holding (wpAny_pyNext_list_end hh hit₁ ht₁ (by simp) fun h₂ he₂ => ?_))
  simp only [Option.isSome_none, Bool.false_eq_true, if_false]
  refine ZAC (hQ h₂ fun b o hb e => he₂ b o hb (hs₁.extBut b o hb (ZAB _ e)))
theorem Vr {prog : Program} {w : World} {A : Around} {E : VSP} {s : Shared} {env : Env} {elts : List Expr} {x1} {pos : Pos} {t : Addr} {items : Array Value} {Q : Unit -> Shared -> Prop} (hh : A.handled = none) (ht : s.heap.IsList t items)
 (hn : (assignEach elts env).length = items.size) (hstar : (assignEach elts env).findIdx? (·.1) = none)
 (h : ∀ h', Heap.ExtBut s.heap.objs.size s.heap h' -> wpAny (model prog w) A (assignInOrder ((assignEach elts env).map (·.2)) items.toList) Q E { s with heap := h' }) :
 wpAny (model prog w) A (assign (.Tuple elts x1 pos) env (.ref t)) Q E s := by
 rw [assign_Tuple]
 refine ZAA (ZBl ?_)
 unfold unpack
 rw [hn, hstar]
 exact ZAA (ZAh (VT hh ht h))
theorem Ykb {es : List Expr} {k : Nat} {t : TGs} {n : Nat} (hc : X.calm = true) (h : PGs X es t)
 (hn : (assignEach es X.env).length = n := by rfl) (hst : (assignEach es X.env).findIdx? (·.1) = none := by rfl) : PG X (.Tuple es k pos) (fun v σ H Q => ∃ a xs, v = .ref a /\ (SqL X.K H a xs \/ SqT X.K H a xs) /\ xs.length = n /\ t xs σ H Q) := by
 intro pins s σ H v u Q I r hw
 obtain ⟨a, xs, e1, hq, hl, hw⟩ := hw
 subst e1
 rcases hq with hq | hq
 ·cases r
  obtain ⟨its, rv, ht, hz⟩ := I.list hq
  refine Vr (I.ok.hd hc) ht.isList (by simp [hn, <- hl, rv.length]) hst fun h' hx => ?_
  have I1 : Inv X pins σ H { s with heap := h' } := I.kept (t' := s.toks) fun b o e => hx b o (ZAP (ZAG e)) e
  exact h pins _ σ H xs _ Q I1 (by simpa using rv) hw
 ·exact Ykv hc h hn hst pins s σ H _ u Q I r ⟨a, xs, rfl, hq, hl, hw⟩
theorem YaA {es : List Expr} {k : Nat} {r : MGs} {n : Nat} (hc : X.calm = true) (h : JGs X es r)
 (hn : (assignEach es X.env).length = n := by rfl) (hst : (assignEach es X.env).findIdx? (·.1) = none := by rfl) : JG X (.Tuple es k pos) (Ymv n r) :=
 PG.imp (Ykb hc h hn hst) fun v σ H Q ⟨as, ρ, st, p, ρ', en, rp, d, g, q⟩ => by
  unfold Ymv at g
  cases w : Ymo p st with
  | none => rw [w] at g; cases g
  | some xs =>
   rw [w] at g
   simp only at g
   by_cases z : xs.length = n
   ·rw [ZAE z] at g
    obtain ⟨a, vs, rfl, hq, r⟩ := YgV rp d w
    exact ⟨a, vs, rfl, hq, by rw [r.length]; exact z, as, ρ, st, xs, ρ', en, rp, r, g, q⟩
   ·rw [ZAF z] at g; cases g
def Yp0 (me : ME) (g : MG) : MS := fun ρ st => RS.ofE ρ (me ρ st) fun p st1 => match g p ρ st1 with
 | some ρ' => .nx ρ' st1
 | none => .bad
end
theorem Ydl {X : Cx} {pins : LAO} {σ : St} {H : Hp} {s : Shared} {a b : Addr} {xs : List V} (I : Inv X pins σ H s) (h : SqL X.K H a xs) (f : YmR X pins H b) : a ≠ b := by
 obtain ⟨f0, f1, f2, f3, f4, f5⟩ := f
 rintro rfl
 rcases h with h | ⟨o, its, n, hk, _⟩
 ·rcases h with h | ⟨o, h⟩
  ·rw [f0] at h; cases h
  ·rw [f0] at h; cases h
 ·have hb := I.ok.mod.kin a o hk
  rcases f3 with z | z
  ·exact I.ok.noex a o hb z
  ·exact absurd (ZAM (ZAG hb) (ZAO I.ok.bsz z)) (ZBH _)
structure ZAp (z TI TO i1 i2 : Addr) : Prop where
 TIz : TI ≠ z
 TOz : TO ≠ z
 i1z : i1 ≠ z
 i2z : i2 ≠ z
 TITO : TI ≠ TO
 TIi1 : TI ≠ i1
 TIi2 : TI ≠ i2
 TOi1 : TO ≠ i1
 TOi2 : TO ≠ i2
 i12 : i1 ≠ i2
section
variable {X : Cx} {elts : List Expr} {x1 : Nat} {tp p pos : Pos} {e f : Expr}
def listAt (st : YlA) (k : Nat) : Option (List P) := match st[k]? with
 | some (.lst xs) => some xs
 | some (.ro xs) => some xs
 | _ => none
theorem Vi {K : Frag} {as : List Addr} {st : YlA} {H : Hp} {k : Nat} {xs : List P} {a : Addr} (rp : Rep K as st H) (e : as[k]? = some a) (h : listAt st k = some xs) : ∃ vs, SqL K H a vs /\ Dens K as H vs xs := by
 unfold listAt at h
 cases q : st[k]? with
 | none => show 162
 | some o =>
  show 152
  have ob := rp.ob k a _ e q
  cases o with
  | lst ys => cases h; obtain ⟨vs, h1, h2⟩ := ob; exact ⟨vs, .of h1, h2⟩
  | ro ys => cases h; obtain ⟨vs, h1, h2⟩ := ob; exact ⟨vs, Z0 h1, h2⟩
  | dct ys => cases h
  | exc c ys => cases h
  | dtt kvs => cases h
  | fdc kvs => cases h
end
section
variable {M : Model} {A : Around} {E : VSP} {s : Shared}
theorem Ye1 {src : Source} {n : Nat} {Q : Nat -> Shared -> Prop} (hn : n ≠ 0) (h : ∀ i, i < n -> Q i { s with drawn := s.drawn.bump src }) : wpAny M A (choose src n) Q E s :=
 fun _ _ _ => ⟨hn, h _ (Nat.mod_lt _ (Nat.pos_of_ne_zero hn))⟩
end
theorem YdO (t : SetTable) (es : Array (Int × Value)) (h : Int) (x : Value) : (layNew t es h x).2.1.led = t.led := by
 unfold layNew
 split
 ·simp only [SetTable.orStandIn]
  split <;> rfl
 ·rfl
theorem YbK (t : SetTable) (es : Array (Int × Value)) (h : Int) (x : Value) (p : t.plain = false) : (layNew t es h x).2.1.plain = false := by
 unfold layNew
 split
 ·simp only [SetTable.orStandIn]
  split
  ·exact p
  ·rfl
 ·rfl
theorem Yae {mask finger moves : Nat} {led plain : Bool} {hs : Array Int} {t : SetTable} {o : Array Nat} (h : SetTable.laid mask finger moves led plain hs = some (t, o)) : t.led = led /\ t.plain = plain := by
 unfold SetTable.laid at h
 cases q : SetTable.layClean mask hs with
 | none => show 162
 | some ow =>
  show 152
  cases h
  exact ⟨rfl, rfl⟩
theorem YbH (t : SetTable) (es : Array (Int × Value)) (n : Nat) : (relayAll t es n).2.1.led = t.led := by
 unfold relayAll
 split
 ·rename_i t' o e
  show 101
  ·exact (Yae e).1
  ·rfl
 ·rfl
theorem JZ (t : SetTable) (es : Array (Int × Value)) (n : Nat) (p : t.plain = false) : (relayAll t es n).2.1.plain = false := by
 unfold relayAll
 split
 ·rename_i t' o e
  show 101
  ·exact (Yae e).2.trans p
  ·rfl
 ·rfl
abbrev byText (w : World) : Bool := w.params.followText "set-order"
def YlT (es : Array (Int × Value)) (ep : Nat) (t : SetTable) : Obj := { cls := .type "set", dict := none, data := .set es ep t, slots := #[] }
structure TT1 (prog : Program) (w : World) (es : Array (Int × Value)) (t : SetTable) (ks : List Str) : Prop where
 el : ElemsOf (strKind prog w) es.toList
 fit : t.fits es.size = true
 led : t.led = !(byText w)
 pl : es.size = 0 \/ t.plain = false
 pm : (es.toList.map fun e => strOf e.2).Perm ks
def TS (prog : Program) (w : World) (h : Heap) (a : Addr) (ks : List Str) : Prop := ∃ es ep t, h.get? a = some (YlT es ep t) /\ TT1 prog w es t ks
theorem TT1.sz {prog : Program} {w : World} {es : Array (Int × Value)} {t : SetTable} {ks : List Str} (h : TT1 prog w es t ks) : es.size = ks.length := by
 rw [<- h.pm.length_eq]; simp
theorem TT1.mem {prog : Program} {w : World} {es : Array (Int × Value)} {t : SetTable} {ks : List Str} (h : TT1 prog w es t ks) (k : Str) : k ∈ ks ↔ ∃ e ∈ es.toList, (strKind prog w).is k e.2 = true := by
 rw [<- h.pm.mem_iff, ZAj]
 constructor
 ·rintro ⟨e, he, rfl⟩
  obtain ⟨⟨k', hk, _⟩, _⟩ := h.el e he
  obtain ⟨t', e'⟩ := ZBn hk
  exact ⟨e, he, by rw [e']; exact strKind_is _ _ _ _⟩
 ·rintro ⟨e, he, hk⟩
  obtain ⟨t', e'⟩ := ZBn hk
  exact ⟨e, he, by rw [e']; rfl⟩
section
variable {prog : Program} {w : World} {A : Around} {E : VSP} {s : Shared}
theorem Yax {g : Bool -> Sem Unit} (hg : ∀ (b : Bool) (s1 : Shared) (Q1 : Unit -> Shared -> Prop), Q1 () s1 -> wpAny (model prog w) A (g b) Q1 E s1)
 {a : Addr} {es es1 : Array (Int × Value)} {ep : Nat} {t t2 : SetTable} (ho : s.heap.get? a = some (YlT es ep t)) (hb : es1.size < scanBound) {dm : Bool} {R : Option Bool -> Shared -> Prop}
 (hf : t2.fits es1.size = true) (hp : t2.plain = false)
 (fin : ∀ h' es' ep' t', Heap.SameBut a s.heap h' -> h'.get? a = some (YlT es' ep' t') -> es'.toList.Perm es1.toList -> t'.fits es'.size = true -> t'.led = t2.led -> t'.plain = false -> R (some true) { s with heap := h' }) :
 wpAny (model prog w) A (do
  storeSet a es1 t2
  if (!dm && t2.tooFull) = true then do
   g (relayAll t2 es1 (SetTable.grown es1.size)).2.2
   storeSet a (relayAll t2 es1 (SetTable.grown es1.size)).1 (relayAll t2 es1 (SetTable.grown es1.size)).2.1
   pure (some true)
  else pure (some true)) R E s := by
 refine ZAA (wpAny_storeSet_of ho rfl ?_ (fits_of_scanBound hb))
 have g1 : (s.heap.update a (Obj.putSet es1 t2)).get? a = some (YlT es1 (ep + 1) t2) := by
  have := ZAq (Obj.putSet es1 t2) ho (by rw [putSet_of es1 t2 rfl]; rfl)
  rw [putSet_of es1 t2 rfl] at this
  exact this
 have b1 := Heap.SameBut.update s.heap a (Obj.putSet es1 t2)
 split
 ·have e1 := relayAll_perm t2 es1 (SetTable.grown es1.size)
  have e2 := relayAll_fits t2 es1 (SetTable.grown es1.size)
  have e3 := YbH t2 es1 (SetTable.grown es1.size)
  have e4 := JZ t2 es1 (SetTable.grown es1.size) hp
  generalize relayAll t2 es1 (SetTable.grown es1.size) = r at e1 e2 e3 e4 ⊢
  obtain ⟨es2, t3, gw⟩ := r
  dsimp only at e1 e2 e3 e4 ⊢
  have hb2 : es2.size < scanBound := by
   have := e1.length_eq
   simp only [Array.length_toList] at this
   rw [this]; exact hb
  refine ZAA (hg _ _ _ ?_)
  refine ZAA (wpAny_storeSet_of g1 rfl ?_ (fits_of_scanBound hb2))
  have g2 : ((s.heap.update a (Obj.putSet es1 t2)).update a (Obj.putSet es2 t3)).get? a = some (YlT es2 (ep + 1 + 1) t3) := by
   have := ZAq (Obj.putSet es2 t3) g1 (by rw [putSet_of es2 t3 rfl]; rfl)
   rw [putSet_of es2 t3 rfl] at this
   exact this
  exact ZAC (fin _ _ _ _ (b1.trans (Heap.SameBut.update _ a _)) g2 e1 e2 e3 e4)
 ·exact ZAC (fin _ _ _ _ b1 g1 .rfl hf rfl hp)
def putK (ks : List Str) (k : Str) : List Str := if k ∈ ks then ks else ks ++ [k]
theorem YeG {a : Addr} {ks : List Str} {k : Str} {tk : Tok} {Q : Bool -> Shared -> Prop} (hS : TS prog w s.heap a ks) (hr : ks.length + 1 < scanBound)
 (h : ∀ h' b, Heap.SameBut a s.heap h' -> TS prog w h' a (putK ks k) -> Q b { s with heap := h' }) : wpAny (model prog w) A (setAddHashed a (.str k tk) ((strKind prog w).hash k)) Q E s := by
 obtain ⟨es, ep, t, ho, T⟩ := hS
 have hk : (strKind prog w).is k (.str k tk) = true := strKind_is _ _ _ _
 have hb : es.size < scanBound := by rw [T.sz]; omega
 have hb1 : es.size + 1 < scanBound := by rw [T.sz]; exact hr
 unfold setAddHashed setAddHashedIn
 refine ZAh (ZAA (ZBU ho rfl T.fit ?_))
 show 143
 rw [byScan_of (knd := strKind prog w) (x := .str k tk) rfl hb T.el]
 simp only [↓reduceIte]
 unfold setAddByScan
 show 168
 refine ZAA (ZB7 ?_)
 refine ZAA (wpAny_setScan_of hk ho rfl T.fit T.el ?_)
 cases q : List.findIdx? (fun e => (strKind prog w).is k e.2) es.toList with
 | some j =>
  show 143
  obtain ⟨hj, hpj, _⟩ := List.findIdx?_eq_some_iff_getElem.mp q
  have hin : k ∈ ks := (T.mem k).mpr ⟨es.toList[j], ZAs hj, hpj⟩
  refine ZAC (ZAC ?_)
  have := h s.heap false (Heap.SameBut.refl a s.heap) (by rw [putK, ZAE hin]; exact ⟨es, ep, t, ho, T⟩)
  cases s; exact this
 | none =>
  show 143
  have hin : k ∉ ks := fun z => by
   obtain ⟨e, he, hp⟩ := (T.mem k).mp z
   have := List.findIdx?_eq_none_iff.mp q e he
   rw [hp] at this; cases this
  have hgw : ∀ (b : Bool) {s1 : Shared} {Q1 : Unit -> Shared -> Prop}, Q1 () s1 -> wpAny (model prog w) A (match b with | true => rule "set.scan.the-table-gave-way" | false => pure ()) Q1 E s1 :=
   fun b s1 Q1 z => by
    cases b
    ·exact ZAC z
    ·exact ZB7 z
  have e1 := layNew_perm t es ((strKind prog w).hash k) (.str k tk)
  have e2 := layNew_fits t es ((strKind prog w).hash k) (.str k tk)
  have e3 := YdO t es ((strKind prog w).hash k) (.str k tk)
  have e4 := YbK t es ((strKind prog w).hash k) (.str k tk)
  generalize layNew t es ((strKind prog w).hash k) (.str k tk) = L at e1 e2 e3 e4 ⊢
  obtain ⟨es1, t1, dm, gv⟩ := L
  dsimp only at e1 e2 e3 e4 ⊢
  rw [Array.toList_push] at e1
  have hz : es1.size < scanBound := by
   have := e1.length_eq
   simp only [Array.length_toList, List.length_append, List.length_singleton] at this
   rw [this]; exact hb1
  have el1 : ElemsOf (strKind prog w) es1.toList := (T.el.push hk rfl).perm e1
  have fin : ∀ (t2 : SetTable), t2.led = t1.led -> ∀ (h' : Heap) (es' : Array (Int × Value)) (ep' : Nat) (t' : SetTable), Heap.SameBut a s.heap h' -> h'.get? a = some (YlT es' ep' t') -> es'.toList.Perm es1.toList -> t'.fits es'.size = true -> t'.led = t2.led -> t'.plain = false ->
   Q true { s with heap := h' } := fun t2 l2 h' es' ep' t' sb g' pm ft ld pl =>
   h h' true sb ⟨es', ep', t', g', el1.perm pm, ft, by rw [ld, l2, e3, T.led], .inr pl, by
    rw [putK, ZAF hin]
    refine ((pm.trans e1).map _).trans ?_
    rw [ZAf]
    exact T.pm.append_right _⟩
  refine ZAA (hgw _ ?_)
  split
  ·show 168
   rw [hashByValue_scannable 8 rfl]
   refine ZAC ?_
   have hpk : plainKind (.str k tk) = false := rfl
   rw [hpk]
   simp only [Bool.false_eq_true, ↓reduceIte]
   refine Yax ?_ ho hz ?_ rfl ?_
   ·intro b s1 Q1 z
    cases b
    ·exact ZAC z
    ·exact ZB7 z
   ·exact SetTable.fits_plain_off e2
   ·intro h' es' ep' t' c1 c2 c3 c4 c5 c6
    show 143
    exact ZAC (fin _ (by rfl) h' es' ep' t' c1 c2 c3 c4 c5 c6)
  ·rename_i np
   refine ZAA (ZAC ?_)
   simp only [↓reduceIte]
   refine Yax ?_ ho hz e2 (by simpa using np) ?_
   ·intro b s1 Q1 z
    cases b
    ·exact ZAC z
    ·exact ZB7 z
   ·intro h' es' ep' t' c1 c2 c3 c4 c5 c6
    show 143
    exact ZAC (fin _ rfl h' es' ep' t' c1 c2 c3 c4 c5 c6)
end
def once (ks : List Str) : List Str := ks.foldl putK []
theorem Ye4 (ks : List Str) (k : Str) : once (ks ++ [k]) = putK (once ks) k := by simp [once, List.foldl_append]
theorem Yhx (ks : List Str) (k : Str) : (putK ks k).length <= ks.length + 1 := by
 unfold putK; split <;> simp
theorem WJ : ∀ (ks acc : List Str), (ks.foldl putK acc).length <= acc.length + ks.length
 | [], acc => by simp
 | k :: r, acc => by
  rw [ZB5]
  have h1 := WJ r (putK acc k)
  have h2 := Yhx acc k
  simp only [List.length_cons]; omega
theorem YhD (ks : List Str) : (once ks).length <= ks.length := by simpa [once] using WJ ks []
theorem Yf3 {ks : List Str} {k x : Str} : x ∈ putK ks k ↔ x ∈ ks \/ x = k := by
 unfold putK
 split
 ·rename_i h
  exact ⟨.inl, fun z => z.elim id fun e => e ▸ h⟩
 ·simp
theorem WK {x : Str} : ∀ (ks acc : List Str), x ∈ ks.foldl putK acc ↔ x ∈ acc \/ x ∈ ks
 | [], acc => by simp
 | k :: r, acc => by
  rw [ZB5, WK r, Yf3, ZAT]
  exact or_assoc
theorem mem_once {ks : List Str} {x : Str} : x ∈ once ks ↔ x ∈ ks := by simpa [once] using WK (x := x) ks []
theorem Yda {ks : List Str} {k : Str} (h : ks.Nodup) : (putK ks k).Nodup := by
 unfold putK
 split
 ·exact h
 ·rename_i hk
  rw [List.nodup_append]
  exact ⟨h, by simp, fun a ha b hb e => hk (by rw [List.mem_singleton] at hb; subst hb; exact e ▸ ha)⟩
theorem Z4 : ∀ (ks acc : List Str), acc.Nodup -> (ks.foldl putK acc).Nodup
 | [], _, h => h
 | k :: r, acc, h => by rw [ZB5]; exact Z4 r _ (Yda h)
theorem YdH (ks : List Str) : (once ks).Nodup := Z4 ks [] List.nodup_nil
theorem TS.keep {prog : Program} {w : World} {h h' : Heap} {a : Addr} {ks : List Str} (x : TS prog w h a ks) (k : ∀ o, h.get? a = some o -> h'.get? a = some o) : TS prog w h' a ks :=
 let ⟨es, ep, t, ho, T⟩ := x; ⟨es, ep, t, k _ ho, T⟩
theorem TS.typeIs {prog : Program} {w : World} {s : Shared} {a : Addr} {ks : List Str} (x : TS prog w s.heap a ks) : s.TypeIs (.ref a) "set" :=
 let ⟨_, _, _, ho, _⟩ := x; ⟨_, ho, rfl⟩
theorem TS.empty {prog : Program} {w : World} {h : Heap} {a : Addr} (e : h.get? a = some (YlT #[] 0 (.fresh 0 0 (!(byText w))))) : TS prog w h a [] :=
 ⟨_, _, _, e, fun e he => by simp at he, rfl, rfl, .inl rfl, .refl _⟩
section
variable {prog : Program} {w : World} {A : Around} {R : Result -> Shared -> Prop} {I : Addr} {fp wr : List Addr} {G : Array GenState -> Array GenState -> Prop} {P : Nat -> Value -> Prop} {St : Nat -> Shared -> Prop}
theorem Ybz {ys : List Str} (W : WalksS prog w A.in1 I fp wr G ys.length P St) (S : Addr) (hS : S ∉ fp) (hv : ∀ i v, P i v -> ∃ x t, ys[i]? = some x /\ v = .str x t) (hb : ys.length + 1 < scanBound) :
 ∀ (k i : Nat) (s : Shared), ys.length - i = k -> i <= ys.length -> St i s -> TS prog w s.heap S (once (ys.take i)) ->
  (∀ s', Moved (S :: wr) G s s' -> TS prog w s'.heap S (once ys) -> R (.ok (.ret .none)) s') -> codeAny (model prog w) A (.builtin "set.update.loop" ⟨[.ref S, .ref I], []⟩) R s := by
 have nw : S ∉ wr := fun h => hS (W.sub _ h)
 have sub : ∀ b ∈ wr, b ∈ S :: wr := fun b hb => ZAW _ hb
 intro k
 induction k with
 | zero =>
  intro i s hk hi hst T hR
  have e : i = ys.length := by omega
  subst e
  rw [ZBi] at T
  refine codeAny_builtin F.entry_set_update_loop ?_
  rw [Around.under_plainId F.plain_set_update_loop _]
  show wpAny _ A.in1 (pyNext (.ref I) >>= _) _ _ s
  refine ZAA (W.done s _ _ hst fun s' hm => ?_)
  show wpAny _ A.in1 (ret Value.none) _ _ s'
  exact ZAC (hR s' (hm.mono sub) (T.keep fun o e => hm.heap S o nw e))
 | succ k ih =>
  intro i s hk hi hst T hR
  have hlt : i < ys.length := by omega
  refine codeAny_builtin F.entry_set_update_loop ?_
  rw [Around.under_plainId F.plain_set_update_loop _]
  show wpAny _ A.in1 (pyNext (.ref I) >>= _) _ _ s
  refine ZAA (W.item i s _ _ hlt hst fun v s' hP hst' hm => ?_)
  obtain ⟨x, t, hx, rfl⟩ := hv i v hP
  have T' : TS prog w s'.heap S (once (ys.take i)) := T.keep fun o e => hm.heap S o nw e
  show wpAny _ A.in1 (holding [Value.str x t] (setAdd S (.str x t)) >>= _) _ _ s'
  refine ZAA (ZAh ?_)
  unfold setAdd
  refine ZAh ?_
  refine ZAA ((strKind prog w).pyHash (k := x) (strKind_is _ _ _ _) ?_)
  have room : (once (ys.take i)).length + 1 < scanBound := by
   have := YhD (ys.take i)
   rw [ZAm] at this
   omega
  refine YeG (s := { s' with toks := s'.toks + 1 }) T' room fun h' b sb T2 => ?_
  have T3 : TS prog w h' S (once (ys.take (i + 1))) := by
   rw [ZA9, hx]
   simp only [Option.toList_some]
   rw [Ye4]
   exact T2
  refine ZAC ⟨plainId_quiet F.plain_set_update_loop _, ih (i + 1) _ (by omega) hlt (W.frame _ s' _ _ hst' (ZCb _) fun b hb o e => ?_) T3 fun s2 hm2 T4 => ?_⟩
  ·rw [sb.2 b fun z : b = S => hS (z ▸ hb)]; exact e
  ·refine hR s2 (Moved.trans W.gtrans ((hm.mono sub).then_heap (ZCb _) fun b o hb e => ?_) hm2) T4
   rw [sb.2 b fun z : b = S => hb (z ▸ ZAc)]; exact e
end
section
variable {prog : Program} {w : World} {A : Around} {E : VSP} {s : Shared}
theorem YcU (a : Value) {Q : VSP}
 (h : Q (.ref s.heap.objs.size) { s with heap := s.heap.push (YlT #[] 0 (.fresh 0 0 (!(byText w)))) }) :
 codeAny (model prog w) A (.call (.builtin "set.__new__") ⟨[.type "set", a], []⟩) (wants Q E) s := by
 refine codeAny_of_tree ?_
 show wpAny _ A.in1 (do checkBuiltinCall "set.__new__" ⟨[.type "set", a], []⟩; again (.builtin "set.__new__" ⟨[.type "set", a], []⟩)) _ _ s
 refine ZAA (wpAny_of_eq (F.newCall_set_1 a) (ZAC ⟨plainId_quiet F.plain_set_new _, codeAny_builtin F.entry_set_new ?_⟩))
 rw [Around.under_plainId F.plain_set_new _]
 unfold Builtin.«set.__new__» Builtin.Frozenset.newClass
 have q1 := sub_set_self
 show 215
 show 143
 wp_walk
 refine ZBW (ZAC ?_)
 show 143
 simp only [newObj]
 refine ZAA (wpAny_alloc (ZAC ?_))
 exact ZAC h
set_option maxHeartbeats 3200000 in
theorem Yey {l : Addr} {items : Array Value} {ys : List Str} {Q : VSP}
 (hh : A.handled = none) (hl : s.heap.IsList l items) (hi : StrsAre items.toList ys) (hb : ys.length + 1 < scanBound)
 (h : ∀ (h' : Heap) (tk : Nat), TS prog w h' s.heap.objs.size (once ys) -> s.heap.objs.size < h'.objs.size -> (∀ b o, s.heap.get? b = some o -> h'.get? b = some o) -> Q (.ref s.heap.objs.size) { s with heap := h', toks := tk }) :
 wpAny (model prog w) A (call (.type "set") [.ref l]) Q E s := by
 have hn : items.size = ys.length := by have := StrsAre.length hi; simpa using this
 obtain ⟨c, tl, hmro⟩ := F.called_set.mro
 have q1 := F.called_set.made
 have q2 := F.called_set.sub
 refine ZBZ (codeAny_of_tree ?_)
 show wpAny _ _ (callAny (.type "set") _) _ _ _
 refine ZAC ⟨Code.quiet_builtin _ (by decide +kernel), codeAny_builtin F.entry_type_call ?_⟩
 rw [Around.under_plain (weight_type_call_type "set" [.ref l] []) rfl]
 have q3 := F.called_set.notType
 have q4 := F.called_set.canCreate
 have q5 := F.typeCall_set_1 (.ref l)
 repeat (any_goals (first | assumption | wp_step))
 refine codeAny_mono (YcU (.ref l) (E := E) (Q := fun obj s1 => obj = .ref s.heap.objs.size /\ s1 = { s with heap := s.heap.push (YlT #[] 0 (.fresh 0 0 (!(byText w)))) }) ⟨rfl, rfl⟩) fun r s1 hr => ?_
 cases r with
 | error e => exact hr
 | ok fl =>
  cases fl with
  | ret obj =>
   obtain ⟨rfl, rfl⟩ := hr
   have gS : (s.heap.push (YlT #[] 0 (.fresh 0 0 (!(byText w))))).get? s.heap.objs.size = some (YlT #[] 0 (.fresh 0 0 (!(byText w)))) := ZAK _ rfl
   have hT : Shared.TypeIs { s with heap := s.heap.push (YlT #[] 0 (.fresh 0 0 (!(byText w)))) } (.ref s.heap.objs.size) "set" := ⟨_, gS, rfl⟩
   have q6 := F.called_set.init.lookup
   have q7 := F.called_set.init.bind (.ref s.heap.objs.size)
   repeat (any_goals (first | assumption | wp_step))
   refine codeAny_mono (codeAny_call_builtin (R := wants (fun r s2 => r = .none /\ ∃ h' tk, s2 = { s with heap := h', toks := tk } /\ TS prog w h' s.heap.objs.size (once ys) /\ (∀ b o, s.heap.get? b = some o -> h'.get? b = some o)) E)
    F.called_set.init.plain F.entry_set_init (check_set_init_1 hT ?_)) fun r2 s2 hr2 => ?_
   ·obtain ⟨ol, hol, hcl, nl, hdl⟩ := hl
    obtain ⟨ocls, odict, odata, oslots⟩ := ol
    simp only at hcl hdl
    subst hcl; subst hdl
    have hol1 : (s.heap.push (YlT #[] 0 (.fresh 0 0 (!(byText w))))).get? l = some { cls := .type "list", dict := odict, data := .seq items nl, slots := oslots } := ZAB _ hol
    have q8 := F.sub_list_set
    have q9 := F.sub_list_frozenset
    have q10 : (Value.type "list" == Value.type "dict") = false := by decide
    have hl1 : (s.heap.push (YlT #[] 0 (.fresh 0 0 (!(byText w))))).IsList l items := ⟨_, hol1, rfl, nl, rfl⟩
    unfold Builtin.«set.__init__» noKeywords Builtin.Frozenset.updateFrom
    generalize hPI : pyIter = PI
    wp_walk
    subst hPI
    refine ZB2 hl1 ?_
    refine ZAA (ZCc ?_)
    have lt : l < s.heap.objs.size := ZAG hol
    have hh3 : A.in1.in1.in1.handled = none := by simp [hh]
    have hneI : l ≠ (s.heap.push (YlT #[] 0 (.fresh 0 0 (!(byText w))))).objs.size := by
     rw [ZAw]; exact ZAP (ZBO lt)
    have hSf : s.heap.objs.size ∉ [(s.heap.push (YlT #[] 0 (.fresh 0 0 (!(byText w))))).objs.size, l] := by
     rw [Heap.size_push]; simp only [List.mem_cons, List.mem_singleton, List.not_mem_nil, or_false, not_or]
     exact ⟨ZAP (ZA5 _), ZBV lt⟩
    have hv : ∀ (i : Nat) (v : Value), items[i]? = some v -> ∃ x t, ys[i]? = some x /\ v = .str x t := fun i v hv => by
     have e1 : v ∈ items.toList := by
      rw [<- ZBf] at hv
      exact ZBM hv
     obtain ⟨x, t, rfl⟩ := hi.all v e1
     refine ⟨x, t, ?_, rfl⟩
     have := hi.strs
     rw [<- this, ZAa, ZBf, hv]
     rfl
    have W := (Walks.list (prog := prog) (w := w) hh3 _ l hneI items).toS
    rw [hn] at W
    refine Ybz W s.heap.objs.size hSf hv hb (ys.length - 0) 0 _ (by omega) (ZBb _)
     ⟨⟨_, ZAK _ rfl, rfl, rfl⟩, (hl1.push _)⟩ ?hS0 ?hR
    case hS0 =>
     exact TS.empty (ZAB _ gS)
    case hR =>
     intro s3 hm T3
     obtain ⟨h3, g3, d3, tk3, os3⟩ := s3
     have eg : g3 = s.gens := hm.gens
     have ed : d3 = s.drawn := hm.drawn
     have eo : os3 = s.os := hm.os
     subst eg; subst ed; subst eo
     show wpAny _ _ _ _ _ _
     refine ZAC ?_
     show wpAny _ _ (ret Value.none) _ _ _
     refine ZAC ⟨rfl, h3, tk3, rfl, T3, fun b o e => ?_⟩
     have hb := ZAG e
     have hb1 : b ≠ s.heap.objs.size := ZAP hb
     have hb2 : b ≠ (s.heap.push (YlT #[] 0 (.fresh 0 0 (!(byText w))))).objs.size := by
      rw [ZAw]; exact ZAP (ZBO hb)
     exact hm.heap b o (by simp only [List.mem_cons, List.mem_singleton, List.not_mem_nil, or_false, not_or]; exact ⟨hb1, hb2⟩) (Heap.get?_push_of_some _ (Heap.get?_push_of_some _ e))
   ·cases r2 with
    | error e => exact hr2
    | ok fl2 =>
     cases fl2 with
     | ret r =>
      obtain ⟨rfl, h', tk, rfl, hS', hk'⟩ := hr2
      repeat (any_goals (first | assumption | wp_step))
      obtain ⟨es, ep, t, ho, T⟩ := hS'
      exact h _ _ ⟨es, ep, t, ho, T⟩ (ZAG ho) hk'
     | _ => exact hr2.elim
  | _ => exact hr.elim
end
theorem slot_seti_next : Slot "set_iterator" "__next__" "set_iterator.__next__" :=
 .of (owner := "set_iterator") (n := "__next__") (by rw [typeLookup_type, builtinLookup_eq_fast]; kernel_rfl) (by decide +kernel) (by decide +kernel) (by decide +kernel)
  (by first | exact .inl (by decide +kernel) | exact .inr (by decide +kernel)) (by rw [isSubtype_type]; kernel_rfl)
theorem Ww : Slot "set_iterator" "__iter__" "set_iterator.__iter__" :=
 .of (owner := "set_iterator") (n := "__iter__") (by rw [typeLookup_type, builtinLookup_eq_fast]; kernel_rfl) (by decide +kernel) (by decide +kernel) (by decide +kernel)
  (by first | exact .inl (by decide +kernel) | exact .inr (by decide +kernel)) (by rw [isSubtype_type]; kernel_rfl)
theorem Y2 : entryFor table "set_iterator.__next__" = some Builtin.«set_iterator.__next__» := entryFor_of_fast (by kernel_rfl)
theorem Jx : entryFor table "set_iterator.__iter__" = some Builtin.«dict_keyiterator.__iter__» :=
 entryFor_alias (id' := "dict_keyiterator.__iter__") (by kernel_rfl) rfl (by decide +kernel) (by kernel_rfl)
theorem Jy : entryFor table "set.__iter__" = some Builtin.«frozenset.__iter__» :=
 entryFor_alias (id' := "frozenset.__iter__") (by kernel_rfl) rfl (by decide +kernel) (by kernel_rfl)
theorem Zc (a : Value) : argsOk "set_iterator.__next__" ⟨[a], []⟩ := by unfold argsOk; kernel_rfl
theorem JR (a : Value) : argsOk "set_iterator.__iter__" ⟨[a], []⟩ := by unfold argsOk; kernel_rfl
def Ymn (f : Value) (i : Nat) (S : Addr) (n ep : Nat) : Obj := { cls := .type "set_iterator", dict := none, data := .fields #[f, .int i 0, .ref S, .int n 0, .int ep 0], slots := #[] }
section
variable {prog : Program} {w : World} {A : Around} {E : VSP} {s : Shared} {I S : Addr} {f : Value} {i ep : Nat} {es : Array (Int × Value)} {t : SetTable} {Q : Option Value -> Shared -> Prop}
theorem WS (hI : s.heap.get? I = some (Ymn f i S es.size ep)) (hS : s.heap.get? S = some (YlT es ep t)) (hf : t.fits es.size = true)
 {P : Fin -> Shared -> Prop}
 (h : wpAny (model prog w) A (match f with
  | .int slot _ => (do
   match <- setNext S slot.toNat i ep with
   | some (x, next) =>
    setField (.ref I) 0 (rawInt next)
    setField (.ref I) 1 (rawInt ((i : Int) + 1))
    ret x
   | none => setField (.ref I) 2 .none; raiseNew (<- newExc (.type "StopIteration") []))
  | _ => (do
   let some places <- seqItems? f | unsupported "internal:set_iterator"
   match places[i]? with
   | some (.int place _) =>
    let x <- setNextDrawn S place.toNat ep
    setField (.ref I) 1 (rawInt ((i : Int) + 1))
    ret x
   | some _ => unsupported "internal:set_iterator"
   | none => setField (.ref I) 0 (rawInt 0); setField (.ref I) 2 .none; raiseNew (<- newExc (.type "StopIteration") []))) P E s) :
 wpAny (model prog w) A (Builtin.«set_iterator.__next__» ⟨[.ref I], []⟩) P E s := by
 unfold Builtin.«set_iterator.__next__» slotArgs
 simp only [List.isEmpty_nil, Bool.not_true, Bool.false_eq_true, ↓reduceIte, List.length_nil, bne_self_eq_false]
 refine ZAA (ZAC ?_)
 show 143
 unfold fieldsOf
 refine ZAA (ZAA (ZCL hI ?_))
 refine ZAC ?_
 show 143
 refine ZAA (wpAny_setEntries_of hS rfl hf ?_)
 simp only [bne_self_eq_false, Bool.false_eq_true, ↓reduceIte, Int.toNat_natCast]
 cases f <;> exact h
end
section
variable {prog : Program} {w : World} {A : Around} {E : VSP} {s : Shared} {I S : Addr} {f : Value} {i ep : Nat} {es : Array (Int × Value)} {t : SetTable} {Q : Option Value -> Shared -> Prop}
theorem Zd (hI : s.heap.get? I = some (Ymn f i S es.size ep)) : s.TypeIs (.ref I) "set_iterator" := ⟨_, hI, rfl⟩
theorem VZ {h0 : Heap} (hh : A.handled = none) (k : Heap.ExtBut I h0 s.heap) {P : Fin -> Shared -> Prop}
 (h : ∀ h' x, Heap.ExtBut I h0 h' -> (∃ o, h'.get? x = some o /\ o.cls = .type "StopIteration") -> E (.ref x) { s with heap := h' }) :
 wpAny (model prog w) A (do raiseNew (<- newExc (.type "StopIteration") [])) P E s := by
 show 168
 simp only [newExc, newTuple]
 refine ZAA (ZAt ?_ (by size_fits))
 refine wpAny_bind (m := firstArgMember _ _) (wpAny_of_eq (a := Value.none) (by first | rfl | (simp only [firstArgMember]; rfl)) ?_)
 refine ZAt ?_ (by size_fits)
 simp only [raiseNew]
 refine ZAA (wpAny_handled ?_)
 rw [hh]
 refine ZAA (ZAC (wpAny_throw ?_))
 exact h _ _ ((k.push _).push _) ⟨_, ZAK _ rfl, rfl⟩
theorem Yaj {slot next : Nat} {x : Value} (hI : s.heap.get? I = some (Ymn (.int slot 0) i S es.size ep)) (hS : s.heap.get? S = some (YlT es ep t)) (hf : t.fits es.size = true)
 (hn : ∀ (A' : Around) (E' : VSP) (Q' : Option (Value × Nat) -> Shared -> Prop), Q' (some (x, next)) s -> wpAny (model prog w) A' (setNext S slot i ep) Q' E' s)
 (h : ∀ h', h'.get? I = some (Ymn (.int next 0) (i + 1) S es.size ep) -> Heap.SameBut I s.heap h' -> Q (some x) { s with heap := h' }) : wpAny (model prog w) A (pyNext (.ref I)) Q E s := by
 unfold pyNext
 refine ZAA (ZBX (wpAny_callSpecial?_slot (name := Str.ofString "__next__") (Zd hI) slot_seti_next
  (ZA2 slot_seti_next (Zd hI) Y2 (WS hI hS hf ?_) (Zc _))))
 show 143
 show 168
 simp only [Int.toNat_natCast]
 refine hn _ _ _ ?_
 show 102
 refine wpAny_bind (wpAny_setField_rec g1 (by simp) fun h2 g2 b2 => ?_)
 exact wpAny_pure ⟨_, rfl, wpAny_pure (h h2 (by rw [g2]; simp [Ymn, rawInt]) (b1.trans b2))⟩
theorem V6 {slot : Nat} (hh : A.handled = none) (hI : s.heap.get? I = some (Ymn (.int slot 0) i S es.size ep)) (hS : s.heap.get? S = some (YlT es ep t)) (hf : t.fits es.size = true)
 (hn : ∀ (A' : Around) (E' : VSP) (Q' : Option (Value × Nat) -> Shared -> Prop), Q' none s -> wpAny (model prog w) A' (setNext S slot i ep) Q' E' s)
 (h : ∀ h', Heap.ExtBut I s.heap h' -> Q none { s with heap := h' }) : wpAny (model prog w) A (pyNext (.ref I)) Q E s := by
 unfold pyNext
 refine ZAA (ZBX (wpAny_callSpecial?_slot (name := Str.ofString "__next__") (Zd hI) slot_seti_next
  (ZA2 slot_seti_next (Zd hI) Y2 (WS hI hS hf ?_) (Zc _))))
 show 143
 show 168
 simp only [Int.toNat_natCast]
 refine hn _ _ _ ?_
 show 102
 refine VZ (h0 := s.heap) (s := { s with heap := h1 }) (A := A.in1) hh b1.extBut fun h2 x k ⟨o, ho, hc⟩ => ?_
 refine ZAA (ZCO (T := "StopIteration") (b := true) ⟨o, ho, hc⟩ isSubtype_stop ?_)
 exact ZAC (h _ k)
theorem YdN {T : Addr} {pl : Array Value} {n p : Nat} {tk : Tok} {hx : Int} {x : Value} (hI : s.heap.get? I = some (Ymn (.ref T) i S es.size ep)) (hS : s.heap.get? S = some (YlT es ep t)) (hf : t.fits es.size = true)
 (hT : s.heap.get? T = some { cls := .type "tuple", data := .seq pl n }) (hp : pl[i]? = some (.int p tk)) (he : es[p]? = some (hx, x))
 (h : ∀ h', h'.get? I = some (Ymn (.ref T) (i + 1) S es.size ep) -> Heap.SameBut I s.heap h' -> Q (some x) { s with heap := h' }) : wpAny (model prog w) A (pyNext (.ref I)) Q E s := by
 unfold pyNext
 refine ZAA (ZBX (wpAny_callSpecial?_slot (name := Str.ofString "__next__") (Zd hI) slot_seti_next
  (ZA2 slot_seti_next (Zd hI) Y2 (WS hI hS hf ?_) (Zc _))))
 show 143
 refine ZAA (ZCE hT rfl ?_)
 show 143
 rw [hp]
 show 143
 unfold setNextDrawn
 refine ZAA (ZAA (ZBU hS rfl hf ?_))
 simp only [bne_self_eq_false, Bool.false_eq_true, ↓reduceIte, Int.toNat_natCast, he]
 refine ZAC ?_
 show 259
 exact wpAny_pure ⟨_, rfl, wpAny_pure (h h1 (by rw [g1]; simp [Ymn, rawInt]) b1)⟩
theorem Yez {T : Addr} {pl : Array Value} {n : Nat} (hh : A.handled = none) (hI : s.heap.get? I = some (Ymn (.ref T) i S es.size ep)) (hS : s.heap.get? S = some (YlT es ep t)) (hf : t.fits es.size = true)
 (hT : s.heap.get? T = some { cls := .type "tuple", data := .seq pl n }) (hp : pl[i]? = none)
 (h : ∀ h', Heap.ExtBut I s.heap h' -> Q none { s with heap := h' }) : wpAny (model prog w) A (pyNext (.ref I)) Q E s := by
 unfold pyNext
 refine ZAA (ZBX (wpAny_callSpecial?_slot (name := Str.ofString "__next__") (Zd hI) slot_seti_next
  (ZA2 slot_seti_next (Zd hI) Y2 (WS hI hS hf ?_) (Zc _))))
 show 143
 refine ZAA (ZCE hT rfl ?_)
 show 143
 rw [hp]
 show 102
 refine wpAny_bind (wpAny_setField_rec g1 (by simp) fun h2 g2 b2 => ?_)
 refine VZ (h0 := s.heap) (s := { s with heap := h2 }) (A := A.in1) hh (b1.trans b2).extBut fun h3 x k ⟨o, ho, hc⟩ => ?_
 refine ZAA (ZCO (T := "StopIteration") (b := true) ⟨o, ho, hc⟩ isSubtype_stop ?_)
 exact ZAC (h _ k)
theorem VH (hI : s.heap.get? I = some (Ymn f i S es.size ep)) {Q : VSP} (h : Q (.ref I) s) : wpAny (model prog w) A (pyIter (.ref I)) Q E s := by
 refine wpAny_pyIter_slot (Zd hI) Ww (ZA2 Ww (Zd hI) Jx ?_ (JR _))
 show wpAny _ _ (ret (.ref I)) _ _ s
 exact ZAC ⟨_, rfl, "set_iterator", _, Zd hI, slot_seti_next.lookup, h⟩
end
theorem J5 {α : Type} {xs : Array α} (h : xs.size = 1) : ∃ x, xs = #[x] := by
 obtain ⟨l⟩ := xs
 match l, h with
 | [x], _ => exact ⟨x, rfl⟩
theorem Vc {α : Type} : ∀ {l : List α} {i : Nat} (h : i < l.length), (l[i] :: l.eraseIdx i).Perm l
 | [], _, h => by simp at h
 | x :: l, 0, _ => .refl _
 | x :: l, i + 1, h => by
  have h' : i < l.length := by simpa using h
  simp only [List.getElem_cons_succ, List.eraseIdx_cons_succ]
  exact (List.Perm.swap _ _ _).trans ((Vc h').cons _)
theorem Ji {α : Type} (next : Nat -> Nat) : ∀ (n k : Nat) (left : List α) (out : Array α), left.length = n -> (pickOrder.go next n k left out).toList.Perm (out.toList ++ left)
 | 0, k, left, out, h => by
  have : left = [] := ZBz.mp h
  subst this
  simp [pickOrder.go]
 | n + 1, k, left, out, h => by
  have hlt : next k % left.length < left.length := Nat.mod_lt _ (by omega)
  unfold pickOrder.go
  rw [ZAJ hlt]
  show 143
  refine (Ji next n (k + 1) _ _ (by rw [ZCI hlt]; omega)).trans ?_
  rw [Array.toList_push, ZAe]
  refine List.Perm.append_left _ ?_
  exact Vc hlt
theorem VN {α : Type} (next : Nat -> Nat) (xs : Array α) : (pickOrder next xs).toList.Perm xs.toList := by
 have := Ji next xs.size 0 xs.toList #[] (by simp)
 simpa [pickOrder] using this
section
variable {prog : Program} {w : World} {A : Around} {E : VSP} {s : Shared} {I S : Addr} {i ep slot : Nat} {es : Array (Int × Value)} {t : SetTable}
theorem VC (hb : byText w = true) (hS : s.heap.get? S = some (YlT es ep t)) (hf : t.fits es.size = true) {Q : Option (Value × Nat) -> Shared -> Prop}
 (h : Q (((pickOrder (w.params.setOrder S ep) es)[i]?).map fun e => (e.2, slot)) s) : wpAny (model prog w) A (setNext S slot i ep) Q E s := by
 unfold setNext
 refine ZAA (ZBU hS rfl hf ?_)
 show 143
 unfold setsByText
 refine ZAA (ZAA (ZBW (ZAC ?_)))
 rw [ZAE (show (model prog w).w.params.followText "set-order" = true from hb)]
 simp only [bne_self_eq_false, Bool.false_eq_true, ↓reduceIte]
 unfold setWalk
 refine ZAA (ZAA (ZBU hS rfl hf ?_))
 show 143
 unfold setsByText
 refine ZAA (ZAA (ZBW (ZAC ?_)))
 rw [ZAE (show (model prog w).w.params.followText "set-order" = true from hb)]
 refine ZAA (ZBW (ZAC ?_))
 exact ZAC h
theorem WB (hb : byText w = false) (hS : s.heap.get? S = some (YlT es ep t)) (hf : t.fits es.size = true) (hl : t.led = true) (hz : es.size <= 1) {Q : Option (Value × Nat) -> Shared -> Prop}
 (h : Q (match es[SetTable.below t.place slot]?, t.place[SetTable.below t.place slot]? with
  | some (_, x), some j => some (x, j + 1)
  | _, _ => none) s) : wpAny (model prog w) A (setNext S slot i ep) Q E s := by
 unfold setNext
 refine ZAA (ZBU hS rfl hf ?_)
 show 143
 unfold setsByText
 refine ZAA (ZAA (ZBW (ZAC ?_)))
 rw [if_neg (show ¬ (model prog w).w.params.followText "set-order" = true from by show ¬ byText w = true; rw [hb]; simp)]
 split
 ·rename_i z
  have z' : (!t.plain && decide (es.size > 1)) = true := z
  rw [ZAb] at z'
  have := ZA3 z'.2
  omega
 ·refine ZAA (m := if (!t.led && !es.isEmpty) = true then unsupported "set:maker-not-led" else pure ()) ?_
  rw [hl]
  simp only [Bool.not_true, Bool.false_and, Bool.false_eq_true, ↓reduceIte]
  exact ZAC (ZAC h)
theorem YdF (hh : A.handled = none) (hb : byText w = true) (hne : S ≠ I) (hf : t.fits es.size = true) :
 Walks prog w A I [I, S] [I] es.size (fun i v => ((pickOrder (w.params.setOrder S ep) es).map (·.2))[i]? = some v) (fun i h => h.get? I = some (Ymn (.int 0 0) i S es.size ep) /\ h.get? S = some (YlT es ep t)) where
 sub := fun b hb => by simp at hb; simp [hb]
 frame := fun _ _ _ st hk => ⟨hk I (by simp) _ st.1, hk S (by simp) _ st.2⟩
 item := fun i s Q E hi st hQ => by
  have hsz : (pickOrder (w.params.setOrder S ep) es).size = es.size := by
   have := (VN (w.params.setOrder S ep) es).length_eq
   show 172
  have hi' : i < (pickOrder (w.params.setOrder S ep) es).size := by omega
  refine Yaj (slot := 0) (next := 0) (x := ((pickOrder (w.params.setOrder S ep) es)[i]).2) st.1 st.2 hf (fun A' E' Q' hq => VC hb st.2 hf ?_) fun h' g' b' => ?_
  ·rw [ZCM hi']; exact hq
  ·exact hQ _ h' s.toks (by simp [hi']) ⟨g', b'.extBut S _ hne st.2⟩ fun b o hb e => b'.extBut b o (fun z => hb (by simp [z])) e
 done := fun s Q E st hQ => by
  have hsz : (pickOrder (w.params.setOrder S ep) es).size = es.size := by
   have := (VN (w.params.setOrder S ep) es).length_eq
   show 172
  refine V6 (slot := 0) hh st.1 st.2 hf (fun A' E' Q' hq => VC hb st.2 hf ?_) fun h' b' => ?_
  ·rw [ZBc (by omega)]; exact hq
  ·show 233
 self := fun _ _ _ _ st hQ => VH st.1 hQ
theorem Yfv (hh : A.handled = none) (hb : byText w = false) (hne : S ≠ I) (hf : t.fits es.size = true) (hl : t.led = true) (hz : es.size <= 1) :
 Walks prog w A I [I, S] [I] es.size (fun i v => (es.map (·.2))[i]? = some v) (fun i h => h.get? I = some (Ymn (.int (if i = 0 then 0 else t.place.getD 0 0 + 1 : Nat) 0) i S es.size ep) /\ h.get? S = some (YlT es ep t)) where
 sub := fun b hb => by simp at hb; simp [hb]
 frame := fun _ _ _ st hk => ⟨hk I (by simp) _ st.1, hk S (by simp) _ st.2⟩
 item := fun i s Q E hi st hQ => by
  have e0 : i = 0 := by omega
  have e1 : es.size = 1 := by omega
  subst e0
  have hp : t.place.size = 1 := by
   have : (t.place.size == es.size && decide (t.fill <= t.mask)) = true := hf
   rw [ZAb, ZBx] at this
   omega
  obtain ⟨j, ej⟩ : ∃ j, t.place = #[j] := J5 hp
  obtain ⟨y, ey⟩ : ∃ y, es = #[y] := J5 e1
  refine Yaj (slot := 0) (next := j + 1) (x := y.2) st.1 st.2 hf (fun A' E' Q' hq => WB hb st.2 hf hl hz ?_) fun h' g' b' => ?_
  ·have hbl : SetTable.below t.place 0 = 0 := by rw [ej]; simp [SetTable.below, SetTable.below.go]
   rw [hbl, ej, ey]
   exact hq
  ·refine hQ _ h' s.toks (by rw [ey]; simp) ⟨?_, b'.extBut S _ hne st.2⟩ fun b o hb e => b'.extBut b o (fun z => hb (by simp [z])) e
   rw [g', ej]; rfl
 done := fun s Q E st hQ => by
  rcases Nat.lt_or_ge 0 es.size with h0 | h0
  ·have e1 : es.size = 1 := by omega
   have hp : t.place.size = 1 := by
    have : (t.place.size == es.size && decide (t.fill <= t.mask)) = true := hf
    rw [ZAb, ZBx] at this
    omega
   obtain ⟨j, ej⟩ : ∃ j, t.place = #[j] := J5 hp
   refine V6 (slot := j + 1) hh (by have := st.1; rw [e1] at this ⊢; rw [ej] at this; exact this) st.2 hf (fun A' E' Q' hq => WB hb st.2 hf hl hz ?_) fun h' b' => ?_
   ·have hbl : SetTable.below t.place (j + 1) = 1 := by rw [ej]; simp [SetTable.below, SetTable.below.go]
    rw [hbl, ZBc (by omega : es.size <= 1)]
    exact hq
   ·show 233
  ·have e0 : es.size = 0 := by omega
   refine V6 (slot := 0) hh (by have := st.1; rw [e0] at this ⊢; exact this) st.2 hf (fun A' E' Q' hq => WB hb st.2 hf hl hz ?_) fun h' b' => ?_
   ·rw [ZBc (by omega : es.size <= _)]
    exact hq
   ·show 233
 self := fun _ _ _ _ st hQ => VH st.1 hQ
theorem Ycp {T : Addr} {od : List Nat} {n : Nat} (hh : A.handled = none) (hne : S ≠ I) (hnT : T ≠ I) (hf : t.fits es.size = true) (hod : od.Perm (List.range es.size)) :
 Walks prog w A I [I, S, T] [I] es.size (fun i v => (od.filterMap fun j => (es[j]?).map (·.2))[i]? = some v)
  (fun i h => h.get? I = some (Ymn (.ref T) i S es.size ep) /\ h.get? S = some (YlT es ep t) /\ h.get? T = some { cls := .type "tuple", data := .seq (od.map fun (j : Nat) => rawInt j).toArray n }) where
 sub := fun b hb => by simp at hb; simp [hb]
 frame := fun _ _ _ st hk => ⟨hk I (by simp) _ st.1, hk S (by simp) _ st.2.1, hk T (by simp) _ st.2.2⟩
 item := fun i s Q E hi st hQ => by
  have hl : od.length = es.size := by simpa using hod.length_eq
  have hi' : i < od.length := by omega
  have hj : od[i] < es.size := by
   have := hod.mem_iff.mp (ZAs hi')
   show 172
  have key : ∀ (od' : List Nat), (∀ j ∈ od', j < es.size) -> od'.filterMap (fun j => (es[j]?).map (·.2)) = od'.map fun j => (es.getD j (0, .none)).2 := by
   intro od'
   induction od' with
   | nil => intro _; rfl
   | cons j r ih =>
    intro hm
    have h1 := hm j (ZAc ..)
    rw [List.filterMap_cons, ZCM h1]
    simp only [Option.map_some, List.map_cons]
    rw [ih fun k hk => hm k (ZAW _ hk)]
    simp [h1]
  refine YdN (p := od[i]) (tk := 0) (hx := es[od[i]].1) (x := es[od[i]].2) st.1 st.2.1 hf st.2.2 (by simp [hi', rawInt]) (by rw [Array.getElem?_eq_getElem hj]) fun h' g' b' => ?_
  refine hQ _ h' s.toks ?_ ⟨g', b'.extBut S _ hne st.2.1, b'.extBut T _ hnT st.2.2⟩ fun b o hb e => b'.extBut b o (fun z => hb (by simp [z])) e
  rw [key od fun j hj => by simpa using hod.mem_iff.mp hj]
  simp [hi', hj]
 done := fun s Q E st hQ => by
  have hl : od.length = es.size := by simpa using hod.length_eq
  refine Yez hh st.1 st.2.1 hf st.2.2 (by simp [hl]) fun h' b' => ?_
  show 233
 self := fun _ _ _ _ st hQ => VH st.1 hQ
theorem Vn {α : Type} : ∀ (n : Nat) (xs : List α) (s : Shared) (Q : List α -> Shared -> Prop), xs.length = n -> (∀ ys d, ys.Perm xs -> Q ys { s with drawn := d }) -> wpAny (model prog w) A (drawOrder n xs) Q E s
 | 0, xs, s, Q, hn, h => by
  have : xs = [] := ZBz.mp hn
  subst this
  unfold drawOrder
  exact ZAC (h [] s.drawn (.refl _))
 | n + 1, [], s, Q, hn, h => by cases hn
 | n + 1, x :: xs, s, Q, hn, h => by
  unfold drawOrder
  refine wpAny_bind (Ye1 (by simp) fun i hi => ?_)
  rw [ZAJ hi]
  show 143
  refine ZAA (Vn n _ _ _ (by rw [ZCI hi]; omega) fun ys d hp => ZAC ?_)
  exact h _ d ((List.Perm.cons _ hp).trans (Vc hi))
end
section
variable {prog : Program} {w : World} {A : Around} {E : VSP} {s : Shared} {S : Addr}
structure Yps (prog : Program) (w : World) (s : Shared) (S : Addr) (ks : List Str) (I : Addr) (s' : Shared) : Prop where
 old : ∀ b o, s.heap.get? b = some o -> s'.heap.get? b = some o
 new : s.heap.objs.size <= I
 gens : s'.gens = s.gens
 os : s'.os = s.os
 toks : s'.toks = s.toks
 ty : s'.TypeIs (.ref I) "set_iterator"
 wk : ∀ A' : Around, A'.handled = none -> ∃ (fp : List Addr) (items : List Value) (St : Nat -> Heap -> Prop), Walks prog w A' I fp [I] ks.length (fun i v => items[i]? = some v) St /\ St 0 s'.heap /\ (∀ b ∈ fp, b < s'.heap.objs.size) /\ (∀ b ∈ fp, b = S \/ s.heap.objs.size <= b) /\
  items.length = ks.length /\ ∃ ys, StrsAre items ys /\ ys.Perm ks
theorem We {es : Array (Int × Value)} {t : SetTable} {ks : List Str} (T : TT1 prog w es t ks) {items : List Value} (hp : items.Perm (es.toList.map (·.2))) : items.length = ks.length /\ ∃ ys, StrsAre items ys /\ ys.Perm ks := by
 refine ⟨by rw [hp.length_eq, <- T.sz]; simp, items.map strOf, strsAre_map items fun v hv => ?_, ?_⟩
 ·have := hp.mem_iff.mp hv
  obtain ⟨e, he, rfl⟩ := ZAj.mp this
  obtain ⟨⟨k, hk, _⟩, _⟩ := T.el e he
  obtain ⟨tk, e'⟩ := ZBn hk
  exact ⟨k, tk, e'⟩
 ·refine (hp.map strOf).trans ?_
  rw [ZAy]
  exact T.pm
theorem Jv {es : Array (Int × Value)} : (List.range es.size).filterMap (fun j => (es[j]?).map (·.2)) = es.toList.map (·.2) := by
 have e : (fun j => (es[j]?).map (·.2)) = fun j : Nat => ((fun j => es[j]?) j).map (fun p : Int × Value => p.2) := rfl
 rw [e, <- List.map_filterMap, filterMap_getElem?_range]
theorem Yht {ks : List Str} {Q : VSP} (T : TS prog w s.heap S ks) (hb : ks.length < scanBound) (h : ∀ I s', Yps prog w s S ks I s' -> Q (.ref I) s') : wpAny (model prog w) A (pyIter (.ref S)) Q E s := by
 have hT := T.typeIs
 obtain ⟨es, ep, t, ho, T⟩ := T
 have hlt : S < s.heap.objs.size := ZAG ho
 refine wpAny_pyIter_slot hT F.slot_set_iter (ZA2 F.slot_set_iter hT Jy ?_ (F.args_set_iter_1 _))
 unfold Builtin.«frozenset.__iter__» Builtin.Frozenset.slot0 slotArgs
 simp only [List.isEmpty_nil, Bool.not_true, Bool.false_eq_true, ↓reduceIte, List.length_nil, bne_self_eq_false]
 unfold Builtin.Frozenset.addrOf Builtin.Frozenset.sizeOf
 refine ZAA (ZAA (ZAC (ZAC ?_)))
 refine ZAA (ZAA (wpAny_setEntries_of ho rfl T.fit (ZAC ?_)))
 unfold setDrawn
 refine ZAA (ZAA (ZBU ho rfl T.fit ?_))
 show 143
 unfold setsByText
 refine ZAA (ZAA (ZBW (ZAC (ZAC ?_))))
 split
 ·rename_i z
  have z' : (!(byText w) && (!t.plain && decide (es.size > 1))) = true := z
  refine wpAny_bind (Vn es.size _ _ _ (by simp) fun od d hp => ?_)
  have hz : od.length <= sizeLine := by
   have := hp.length_eq
   rw [List.length_range] at this
   rw [this, T.sz]
   exact fits_of_scanBound hb
  refine wpAny_bind (wpAny_newTuple ?_ (by simpa using hz))
  refine ZAA (wpAny_setEpoch_of (ZAB _ ho) rfl T.fit ?_)
  refine ZAA (ZAt (ZAC ⟨_, rfl, "set_iterator", _, ⟨_, ZAK _ rfl, rfl⟩, slot_seti_next.lookup, h _ _ ?_⟩))
  refine ⟨fun b o e => ZAB _ (ZAB _ e), by rw [ZAw]; exact ZCb _, rfl, rfl, rfl, ⟨_, ZAK _ rfl, rfl⟩, fun A' hh => ?_⟩
  have hne : S ≠ (s.heap.push { cls := .type "tuple", dict := none, data := .seq (od.map fun (i : Nat) => rawInt i).toArray }).objs.size := by
   rw [ZAw]; exact ZAP (ZBO hlt)
  have hnT : s.heap.objs.size ≠ (s.heap.push { cls := .type "tuple", dict := none, data := .seq (od.map fun (i : Nat) => rawInt i).toArray }).objs.size := by
   rw [ZAw]; exact ZAP (ZA5 _)
  have W := Ycp (prog := prog) (w := w) (ep := ep) (n := 0) hh hne hnT T.fit hp
  rw [T.sz] at W
  refine ⟨_, _, _, W, ⟨?_, ?_, ?_⟩, ?_, ?_, We T ?_⟩
  ·refine (ZAK _ rfl).trans ?_
   simp [Ymn, rawInt, T.sz]
  ·exact ZAB _ (ZAB _ ho)
  ·exact ZAB _ (ZAK _ rfl)
  ·intro b hb
   rw [ZAw, ZAw]
   show 202
   rcases hb with rfl | rfl | rfl
   ·rw [ZAw]; exact ZA5 _
   ·exact ZBO (ZBO hlt)
   ·exact ZBO (ZA5 _)
  ·intro b hb
   show 202
   rcases hb with rfl | rfl | rfl
   ·rw [ZAw]; exact .inr (ZCb _)
   ·exact .inl rfl
   ·exact .inr (ZAI _)
  ·rw [<- Jv]
   exact hp.filterMap _
 ·rename_i z
  refine ZAA (ZAC ?_)
  refine ZAA (wpAny_setEpoch_of ho rfl T.fit ?_)
  refine ZAA (ZAt (ZAC ⟨_, rfl, "set_iterator", _, ⟨_, ZAK _ rfl, rfl⟩, slot_seti_next.lookup, h _ _ ?_⟩))
  refine ⟨fun b o e => ZAB _ e, ZAI _, rfl, rfl, rfl, ⟨_, ZAK _ rfl, rfl⟩, fun A' hh => ?_⟩
  have hne : S ≠ s.heap.objs.size := ZAP hlt
  have small : ∀ b ∈ [s.heap.objs.size, S], b < (s.heap.push { cls := .type "set_iterator", dict := none, data := .fields [rawInt 0, rawInt 0, .ref S, rawInt es.size, rawInt ep].toArray }).objs.size := by
   intro b hb
   rw [ZAw]
   show 202
   rcases hb with rfl | rfl
   ·exact ZA5 _
   ·exact ZBO hlt
  have apart : ∀ b ∈ [s.heap.objs.size, S], b = S \/ s.heap.objs.size <= b := by
   intro b hb
   show 202
   rcases hb with rfl | rfl
   ·exact .inr (ZAI _)
   ·exact .inl rfl
  cases hbt : byText w with
  | true =>
   have W := YdF (prog := prog) (es := es) (ep := ep) hh hbt hne T.fit
   simp only [<- Array.getElem?_toList, Array.toList_map] at W
   rw [T.sz] at W
   refine ⟨_, _, _, W, ⟨?_, ZAB _ ho⟩, small, apart, We T ?_⟩
   ·refine (ZAK _ rfl).trans ?_
    simp [Ymn, rawInt, T.sz]
   ·exact (VN _ es).map _
  | false =>
   have hl : t.led = true := by rw [T.led, hbt]; rfl
   have hz : es.size <= 1 := by
    rcases T.pl with h0 | h0
    ·omega
    ·have z' : ¬ (!(byText w) && (!t.plain && decide (es.size > 1))) = true := z
     rw [hbt, h0] at z'
     simp at z'
     omega
   have W := Yfv (prog := prog) (es := es) (ep := ep) hh hbt hne T.fit hl hz
   simp only [<- Array.getElem?_toList, Array.toList_map] at W
   rw [T.sz] at W
   refine ⟨_, _, _, W, ⟨?_, ZAB _ ho⟩, small, apart, We T (.refl _)⟩
   refine (ZAK _ rfl).trans ?_
   simp [Ymn, rawInt, T.sz]
end
section
variable {prog : Program} {w : World} {A : Around} {E : VSP} {s : Shared} {S : Addr}
theorem Ygy {r : Addr} {Q : Bool -> Shared -> Prop} (hT : s.TypeIs (.ref r) "set") (h : Q false s) : wpAny (model prog w) A (Builtin.List.listLengthHint (.ref r)) Q E s := by
 unfold Builtin.List.listLengthHint
 refine ZAA (wpAny_specialOf hT F.slot_set_len.lookup ?_)
 generalize hid : ("set.__len__" : String) = id0
 wp_delta
 rw [show splitId id0 = some ("set", "__len__") from by subst hid; decide +kernel]
 subst hid
 refine ZAA (ZCO (T := "set") (b := true) hT (by rw [isSubtype_type]; kernel_rfl) ?_)
 refine ZCZ (fun hab => absurd hab (by decide)) (fun _ => ?_)
 refine ZCZ (fun _ => ?_) (fun hab => absurd (by decide +kernel) hab)
 refine ZAA (ZBe hT ?_)
 exact ZAC h
theorem Yc9 {items : List Value} {acc : Array Value} (h : ItemsOf (fun i v => items[i]? = some v) acc items.length) : acc.toList = items := by
 refine ZCJ fun i => ?_
 by_cases hi : i < acc.size
 ·have e : acc[i]? = some acc[i] := by simp [hi]
  rw [ZBf, e, h.2 i _ e]
 ·rw [ZBf, ZBc (by omega), ZBB (by have := h.1; omega)]
theorem Ydh {R : Result -> Shared -> Prop} {ks : List Str} (T : TS prog w s.heap S ks) (hb : ks.length < scanBound) (hh : A.handled = none) (L : Addr) (hLS : L ≠ S) (res : Value)
 (hL : s.heap.get? L = some { cls := .type "list", data := .seq #[] })
 (hR : ∀ (s' : Shared) (acc : Array Value) (c : Nat) (ys : List Str), (∀ b o, b ≠ L -> s.heap.get? b = some o -> s'.heap.get? b = some o) -> s'.gens = s.gens -> s'.os = s.os ->
  s'.heap.get? L = some { cls := .type "list", dict := none, data := .seq acc c, slots := #[] } -> StrsAre acc.toList ys -> ys.Perm ks -> R (.ok (.ret res)) s') :
 wpAny (model prog w) A.in1 (Builtin.List.listExtendWith (.ref L) (.ref S) res)
  (fun fin s' => match fin with | .done f => R (.ok f) s' | .again c' => c'.quiet = true /\ codeAny (model prog w) A c' R s') (fun e s' => R (.error e) s') s := by
 have hT := T.typeIs
 unfold Builtin.List.listExtendWith
 refine ZAA (ZBe (T := "set") hT ?_)
 have h1 : Builtin.List.listSameRef (.ref L) (.ref S) = false := by simp [Builtin.List.listSameRef, hLS]
 have h2 : (Value.type "set" == Value.type "list") = false := by decide
 have h3 : (Value.type "set" == Value.type "tuple") = false := by decide
 simp only [h1, h2, h3, Bool.or_false, Bool.false_eq_true, if_false]
 refine ZAA (Yht T hb fun I s1 X => ?_)
 obtain ⟨fp, items, St, W, st, small, apart, hlen, ys, hys, hp⟩ := X.wk A.in1 hh
 have hLf : L ∉ fp := fun z => by
  rcases apart L z with e | e
  ·exact hLS e
  ·exact absurd (ZAG hL) (ZCh.mpr e)
 have hn : ks.length <= sizeLine := fits_of_scanBound hb
 have hL1 := X.old _ _ hL
 have hLI : L ≠ I := fun z => absurd (ZAG hL) (ZCh.mpr (by rw [z]; exact X.new))
 have key : ∀ (h : Heap) (c₁ : Nat), St 0 h -> (∀ b o, b ≠ L -> s.heap.get? b = some o -> h.get? b = some o) -> h.get? L = some { cls := .type "list", data := .seq #[] c₁ } ->
  codeAny (model prog w) A (.builtin "list.extend.loop" ⟨[.ref L, .ref I, res], []⟩) R { s1 with heap := h } := by
  intro h c₁ hst hk hS₁
  refine codeAny_extend_loopS W.toS hn L hLf res ks.length 0 _ #[] c₁ rfl (ZBb _) hst hS₁ (ItemsOf.nil _) fun s' acc' c' hm hS' hacc => ?_
  rw [<- hlen] at hacc
  have e := Yc9 hacc
  refine hR s' acc' c' ys (fun b o hb' e' => ?_) ?_ ?_ hS' (by rw [e]; exact hys) hp
  ·refine hm.heap b o (fun hmem => ?_) (hk b o hb' e')
   rcases ZAT.mp hmem with e'' | hmem
   ·exact hb' e''
   ·rw [ZA1.mp hmem] at e'
    exact absurd (ZAG e') (ZCh.mpr X.new)
  ·have := hm.gens; exact this.trans X.gens
  ·exact hm.os.trans X.os
 refine ZAA (ZAh (Ygy (T.keep (X.old S)).typeIs ?_))
 refine ZCZ (fun _ => ?_) (fun _ => ZAC ⟨plainId_quiet PySem.F.plain_extend_loop _, key s1.heap 0 st (fun b o _ e => X.old b o e) hL1⟩)
 refine ZAA (ZB7 ?_)
 show 168
 show wpAny _ _ (updateSeq L (·.push .none) >>= fun _ => updateSeq L (·.pop)) _ _ _
 refine ZAA (wpAny_updateSeq hL1 rfl ?_)
 have hS₂ := ZAq (Obj.mapSeq (·.push Value.none)) hL1 rfl
 refine wpAny_updateSeq (hz := by seq_fits) hS₂ rfl ?_
 have hS₃ := ZAq (Obj.mapSeq (·.pop)) hS₂ rfl
 refine ZAC ⟨plainId_quiet PySem.F.plain_extend_loop _, key _ _ ?_ (fun b o hb e => ?_) hS₃⟩
 ·refine W.frame 0 _ _ st fun b hb o e => ?_
  have hbS : b ≠ L := fun h => hLf (h ▸ hb)
  exact (ZAY _ _ (ZBA hbS)).trans ((ZAY _ _ (ZBA hbS)).trans e)
 ·exact (ZAY _ _ (ZBA hb)).trans ((ZAY _ _ (ZBA hb)).trans (X.old b o e))
theorem Ycr {R : List Value -> Shared -> Prop} {ks : List Str} (T : TS prog w s.heap S ks) (hb : ks.length < scanBound) (hh : A.handled = none)
 (h : ∀ (s' : Shared) (acc : List Value) (ys : List Str), (∀ b o, s.heap.get? b = some o -> s'.heap.get? b = some o) -> s'.gens = s.gens -> s'.os = s.os -> s.heap.objs.size < s'.heap.objs.size -> StrsAre acc ys -> ys.Perm ks -> R acc s') :
 wpAny (model prog w) A (collect (.ref S)) R E s := by
 have hlt : S < s.heap.objs.size := let ⟨_, _, _, ho, _⟩ := T; ZAG ho
 unfold collect
 refine ZAA (ZCc (codeAny_builtin entry_proto_collect' ?_))
 rw [Around.under_plainId PySem.F.plain_proto_collect _]
 show wpAny _ A.in1 (newList [] >>= fun l => again (.builtin "list.__iadd__" ⟨[l, .ref S], []⟩)) _ _ s
 refine ZAA (ZAt ?_)
 refine ZAC ⟨plainId_quiet PySem.F.plain_list_iadd _, codeAny_builtin entry_list_iadd' ?_⟩
 rw [Around.under_plainId PySem.F.plain_list_iadd _]
 have hS₁ : (s.heap.push { cls := .type "list", data := .seq ([] : List Value).toArray }).get? s.heap.objs.size = some { cls := .type "list", data := .seq #[] } := ZAK _ rfl
 show wpAny _ A.in1 (Builtin.List.listExtendWith (.ref s.heap.objs.size) (.ref S) (.ref s.heap.objs.size)) _ _ _
 have key := Ydh (A := A) (s := { s with heap := s.heap.push { cls := .type "list", data := .seq ([] : List Value).toArray } })
  (R := fun (q : Result) (s' : Shared) => ∃ (acc : Array Value) (c : Nat) (ys : List Str), q = .ok (.ret (.ref s.heap.objs.size)) /\
   (∀ b o, s.heap.get? b = some o -> s'.heap.get? b = some o) /\ s'.gens = s.gens /\ s'.os = s.os /\ s'.heap.get? s.heap.objs.size = some { cls := .type "list", dict := none, data := .seq acc c, slots := #[] } /\ StrsAre acc.toList ys /\ ys.Perm ks)
  (T.keep fun o e => ZAB _ e) hb hh s.heap.objs.size (ZBV hlt) (.ref s.heap.objs.size) hS₁
  (fun s' acc c ys hk hg ho hS' hacc hp => ⟨acc, c, ys, rfl, fun b o e => hk b o (ZAP (ZAG e)) (ZAB _ e), hg, ho, hS', hacc, hp⟩)
 refine ZAi key (fun fin s' x => ?_) fun e s' x => ?_
 ·cases fin with
  | done f =>
   obtain ⟨acc, c, ys, e, hk, hg, ho, hS', hacc, hp⟩ := x
   cases e
   show wpAny _ A (load s.heap.objs.size >>= _) _ _ _
   refine ZAA (ZCL hS' ?_)
   exact ZAC (h s' acc.toList ys hk hg ho (ZAG hS') hacc hp)
  | again c₁ =>
   refine ⟨x.1, codeAny_mono x.2 fun q s₂ y => ?_⟩
   obtain ⟨acc, c, ys, rfl, hk, hg, ho, hS', hacc, hp⟩ := y
   show wpAny _ A (load s.heap.objs.size >>= _) _ _ _
   refine ZAA (ZCL hS' ?_)
   exact ZAC (h s₂ acc.toList ys hk hg ho (ZAG hS') hacc hp)
 ·obtain ⟨_, _, _, e', _⟩ := x
  cases e'
theorem Jr {ks : List Str} {Q : VSP} (T : TS prog w s.heap S ks) (hb : ks.length < 64) (hh : A.handled = none)
 (h : ∀ (D : Addr) (s' : Shared) (out : List Value) (ss : List Str) (n : Nat), s.heap.objs.size <= D -> (∀ b o, s.heap.get? b = some o -> s'.heap.get? b = some o) -> s'.gens = s.gens -> s'.os = s.os ->
  s'.heap.get? D = some { cls := .type "list", data := .seq out.toArray n } -> StrsAre out ss -> ss.Perm ks -> sortedS ss = true -> Q (.ref D) s') :
 wpAny (model prog w) A (call (.builtin "sorted") [.ref S]) Q E s := by
 refine Calls.call_function_entry kind_sorted plain_sorted entry_sorted (args_sorted1 _) ?_
 unfold Builtin.«sorted»
 refine ZAA (m := checkCount "sorted" 1 1 _) (ZAC ?_)
 refine ZAA (Ycr (A := A.in1) T (Nat.lt_trans hb (by decide)) hh fun s1 acc ys hk hg ho hsz0 hacc hp => ?_)
 have hl : acc.length = ks.length := by have := StrsAre.length hacc; rw [this, hp.length_eq]
 refine ZAA (wpAny_newList ?_ (by rw [hl]; exact ZAO (ZBd hb) (by rw [sizeLine_eq]; decide)))
 have hoL : (s1.heap.push (seqObj "list" acc.toArray 0)).get? s1.heap.objs.size = some (seqObj "list" acc.toArray 0) := ZAK _ rfl
 refine ZAA (ZAh (ZA2 (s := { s1 with heap := s1.heap.push (seqObj "list" acc.toArray 0) }) slot_list_sort ⟨_, hoL, rfl⟩ entry_list_sort
  (list_sort_treeK strKind_oneLt hoL hacc.keysOf (fun v₁ v₂ rest e => keyKind_strs (by rw [<- e]; exact hacc)) (by rw [hl]; exact hb) fun st' a1 a2 => ⟨_, rfl, ?_⟩) (args_list_sort _)))
 obtain ⟨ss, g1, g2, g3⟩ := sorted_out_str hacc a1 a2
 have hsz : s.heap.objs.size <= s1.heap.objs.size := ZBd hsz0
 obtain ⟨n, hD⟩ : ∃ n, (sortedHeap (s1.heap.push (seqObj "list" acc.toArray 0)) s1.heap.objs.size acc ((arrOf st').map (·.2))).get? s1.heap.objs.size = some (seqObj "list" ((arrOf st').map (·.2)) n) := by
  have g0 := ZAB (seqObj "list" #[] 0) (ZAB (seqObj "tuple" acc.toArray 0) (get?_update_seq hoL fun _ => #[]))
  exact ⟨_, get?_update_seq g0 _⟩
 have hOld : ∀ b o, s.heap.get? b = some o -> (sortedHeap (s1.heap.push (seqObj "list" acc.toArray 0)) s1.heap.objs.size acc ((arrOf st').map (·.2))).get? b = some o := fun b o e => by
  have hb' : b ≠ s1.heap.objs.size := ZAP (ZAG (hk b o e))
  unfold sortedHeap
  rw [ZAY _ _ (ZBA hb')]
  refine ZAB _ (ZAB _ ?_)
  rw [ZAY _ _ (ZBA hb')]
  exact ZAB _ (hk b o e)
 generalize sortedHeap (s1.heap.push (seqObj "list" acc.toArray 0)) s1.heap.objs.size acc ((arrOf st').map (·.2)) = hp' at hD hOld ⊢
 have hD' : hp'.get? s1.heap.objs.size = some { cls := .type "list", data := .seq ((arrOf st').map (·.2)).toList.toArray n } := by rw [Array.toArray_toList]; exact hD
 exact ZAC ⟨_, rfl, h s1.heap.objs.size _ ((arrOf st').map (·.2)).toList ss n hsz hOld hg ho hD' g1 (g2.trans hp) g3⟩
end
def leS (a b : Str) : Bool := !Ynp b a
def YnM (ks : List Str) : List Str := ks.mergeSort leS
theorem YbO {a b : Str} (h : a.cps.toList = b.cps.toList) : a = b := by
 cases a with | mk a => cases b with | mk b => exact ZAk Str.mk (Array.toList_inj.mp h)
theorem JD {a b : Str} : leS a b = true ↔ a.cps.toList <= b.cps.toList := by
 unfold leS Ynp
 simp [List.not_lt]
theorem Ybf (a b c : Str) (h1 : leS a b = true) (h2 : leS b c = true) : leS a c = true := by
 rw [JD] at *
 exact List.le_trans h1 h2
theorem YeH (a b : Str) : (leS a b || leS b a) = true := by
 rw [ZB8, JD, JD]
 exact List.le_total _ _
theorem YgA {a b : Str} (h1 : leS a b = true) (h2 : leS b a = true) : a = b := by
 rw [JD] at *
 exact YbO (List.le_antisymm h1 h2)
theorem Ydw (ks : List Str) : (YnM ks).Perm ks := List.mergeSort_perm ks leS
theorem Yak (ks : List Str) : (YnM ks).Pairwise fun a b => leS a b = true := List.pairwise_mergeSort Ybf YeH ks
theorem Vy {ss ks : List Str} (hp : ss.Perm ks) (h : ss.Pairwise fun a b => leS a b = true) : ss = YnM ks :=
 List.Perm.eq_of_pairwise (fun a b _ _ h1 h2 => YgA h1 h2) h (Yak ks) (hp.trans (Ydw ks).symm)
theorem Z7 : ∀ (p : Str) (l : List Str), risingS p l = true -> (p :: l).Pairwise fun a b => leS a b = true
 | p, [], _ => List.pairwise_singleton ..
 | p, x :: r, h => by
  unfold risingS at h
  rw [ZAb] at h
  have ih := Z7 x r h.2
  have h1 : leS p x = true := by
   have := h.1
   rw [ltCps_eq] at this
   exact this
  refine List.Pairwise.cons (fun y hy => ?_) ih
  rcases ZAT.mp hy with rfl | hy
  ·exact h1
  ·exact Ybf _ _ _ h1 (List.rel_of_pairwise_cons ih hy)
theorem VX : ∀ (l : List Str), sortedS l = true -> l.Pairwise fun a b => leS a b = true
 | [], _ => .nil
 | x :: r, h => Z7 x r h
theorem Ya8 : ∀ {us : List Value} {ss : List Str}, StrsAre us ss -> Vals (ss.map V.str) us
 | _, _, .nil => .nil
 | _, _, .cons x t h => .cons ⟨t, rfl⟩ (Ya8 h)
theorem V7 {K : Frag} {as : List Addr} {H : Hp} : ∀ (ss : List Str), Dens K as H (ss.map V.str) (ss.map P.str)
 | [] => .nil
 | _ :: r => .cons .str (V7 r)
def YmS (me : ME) : MA := fun ρ st => (me ρ st).bind fun p st1 => match p with
 | .ref k => (match listAt st1 k with
  | some xs => (match YmM xs with
   | some ys => if ys.length < 4000 /\ (once ys).length < 64 then .ok ((YnM (once ys)).map P.str) st1 else .bad
   | none => .bad)
  | none => .bad)
 | _ => .bad
section
variable {X : Cx} {e : Expr} {me : ME} {p1 p2 c1 c2 : Pos}
theorem Yde (hc : X.calm = true) (hg : Gl X "sorted") (hm : X.mg "sorted" = none) (hv : bootBuiltins "sorted" = some (.builtin "sorted")) (hg2 : Gl X "set") (hm2 : X.mg "set" = none) (hv2 : bootBuiltins "set" = some (.type "set")) (he : JE X e me)
 (hs : starEach [e] X.env = (false, eval e X.env) :: starEach [] X.env := by rfl)
 (hs2 : starEach [Expr.Call (.Name "set" p2) [e] [] c2] X.env = (false, eval (.Call (.Name "set" p2) [e] [] c2) X.env) :: starEach [] X.env := by rfl) :
 JL X (.Call (.Name "sorted" p1) [.Call (.Name "set" p2) [e] [] c2] [] c1) (YmS me) := by
 show 238
 refine ZBL (Va I hg hm hv ?_ (by decide) (by decide))
 refine PyProof.Rows.callWith_builtin1 ?_ hs2 rfl
 rw [hs2]
 show wpAny _ _ (spliced ((false, eval (.Call (.Name "set" p2) [e] [] c2) X.env) :: backTo c1 (starEach [] X.env))) _ _ s
 refine Calls.spliced_cons ?_
 refine ZBL (Va I hg2 hm2 hv2 ?_ (by decide) (by decide))
 refine PyProof.Rows.callWith_type1 ?_ hs rfl
 rw [hs]
 show wpAny _ _ (spliced ((false, eval e X.env) :: backTo c2 (starEach [] X.env))) _ _ s
 refine Calls.spliced_cons ?_
 unfold YmS at h
 refine thn (he pins s σ H (fun v H1 => ∃ a vs ys ks as1 st1, v = .ref a /\ SqL X.K H1 a vs /\ (∀ us, Vals vs us -> StrsAre us ys) /\ ys.length < 4000 /\ (once ys).length < 64 /\ ks = YnM (once ys) /\ Rep X.K as1 st1 H1 /\
  ∀ l, H1 l = none -> Q (.ref l) (upd H1 l (.lst (ks.map V.str)))) I ⟨as, ρ, st, en, rp, ?_⟩) fun u s1 ⟨x, H1, I1, r1, q1⟩ => ?_
 ·refine Yl1.bindE (Q := Q) h fun p st1 as1 H1 v x rp1 d h1 => ?_
  cases d with
  | @ref k a e =>
   dsimp only at h1
   cases q : listAt st1 k with
   | none => rw [q] at h1; exact h1.elim
   | some xs =>
    rw [q] at h1
    dsimp only at h1
    cases q2 : YmM xs with
    | none => rw [q2] at h1; exact h1.elim
    | some ys =>
     rw [q2] at h1
     dsimp only at h1
     by_cases z : ys.length < 4000 /\ (once ys).length < 64
     ·rw [ZAE z] at h1
      obtain ⟨vs, g1, g2⟩ := Vi rp1 e q
      refine ⟨a, vs, ys, _, as1, st1, rfl, g1, fun us r => W6 g2 r q2, z.1, z.2, rfl, rp1, fun l hl => ?_⟩
      exact h1 as1 _ l _ (Ext.laid hl) (rp1.laid hl) Ym (rp1.fresh hl) (V7 _)
     ·rw [ZAF z] at h1; exact h1.elim
  | _ => exact h1.elim
 ·obtain ⟨a, vs, ys, ks, as1, st1, rfl, hsq, hst, hl1, hl2, hks, rp1, hq⟩ := q1
  cases r1
  obtain ⟨its, rv, pl, _⟩ := I1.list hsq
  have hl : s1.heap.IsList a its.toArray := pl.isList
  refine Calls.spliced_nil ?_
  refine Yey (I1.ok.hd hc) hl (by simpa using hst its rv) (by show _ < 4096; omega) fun h2 tk TS2 lt2 keep2 => ?_
  have I2 : Inv X pins σ H1 { s1 with heap := h2, toks := tk } := I1.kept keep2
  refine Calls.spliced_nil ?_
  refine Jr TS2 hl2 (I1.ok.hd hc) fun D s3 out ss n hD keep3 hg3 ho3 hD3 hss hp3 hs3 => ?_
  have ess : ss = ks := by rw [hks]; exact Vy hp3 (VX ss hs3)
  have hDs : s1.heap.objs.size <= D := ZAO (ZBd (ZBt (ZAI _) lt2)) hD
  have hzl : ss.length <= sizeLine := by
   rw [hp3.length_eq, sizeLine_eq]; omega
  have I3 : Inv X pins σ (upd H1 D (.lst (ss.map V.str))) { s1 with heap := s3.heap, gens := s3.gens, drawn := s3.drawn, toks := s3.toks } := by
   have hn : H1 D = none := I1.hok.fresh hDs
   have I3a : Inv X pins σ H1 { s1 with heap := s3.heap, gens := s3.gens, drawn := s3.drawn, toks := s3.toks } := by
    refine I1.step (ch := []) (fun b hb => absurd hb (by simp)) (fun b o _ _ _ e _ => keep3 b o (keep2 b o e)) (fun b o _ _ _ e _ => ⟨o.slots, keep3 b o (keep2 b o e)⟩) (fun b o _ e n => n) (fun b o _ e => ⟨o, keep3 b o (keep2 b o e)⟩)
     (fun b xs e => e) (fun b o u e => e) (fun b ps e => ⟨#[], by rw [e]; simp⟩) (fun m hm => hm.keeps fun b o e => keep3 b o (keep2 b o e)) (I1.hok.kept fun b o e => keep3 b o (keep2 b o e)) ?_
    rw [show s3.gens = s1.gens from hg3]; exact I1.bare
   have fo := I1.fpOk hDs hn
   exact Mi.Inv.track I3a hD3 hn (Ya8 hss) (by rw [ZAH]; exact hzl) (ZAO I1.sz hDs) fo.2.1 fo.2.2.2.2.1 fo.2.2.2.2.2
  have es3 : { s1 with heap := s3.heap, gens := s3.gens, drawn := s3.drawn, toks := s3.toks } = s3 := by
   have : s3.os = s1.os := ho3
   cases s3
   simp only at this
   simp [this]
  rw [es3] at I3
  exact ⟨.ref D, _, I3, rfl, by rw [ess]; exact hq D (I1.hok.fresh hDs)⟩
end
end Mi
namespace Mi
open PySem PySem.Spec L2 PySem.SeqAt
open PyProof.Rows hiding St
def noD : Nat -> PyData -> Bool
 | _, .none => true
 | _, .bool _ => true
 | _, .int _ => true
 | _, .str _ => true
 | n + 1, .list xs => xs.all (noD n)
 | n + 1, .tuple xs => xs.all (noD n)
 | _, _ => false
theorem Y7 {h : Heap} : ∀ {vs : List Value} {xs : List PyData} {as : List Addr}, ReadsAll h vs xs as -> ∀ j (h1 : j < vs.length), ∃ (h2 : j < xs.length) (bs : List Addr), Reads h vs[j] xs[j] bs
 | _, _, _, .nil, j, h1 => absurd h1 (Nat.not_lt_zero _)
 | _, _, _, .cons r _, 0, _ => ⟨Nat.succ_pos _, _, r⟩
 | _, _, _, .cons _ rs, j + 1, h1 => by
  obtain ⟨h2, bs, q⟩ := Y7 rs j (Nat.lt_of_succ_lt_succ h1)
  exact ⟨Nat.succ_lt_succ h2, bs, q⟩
theorem YR {h : Heap} : ∀ {vs : List Value} {xs : List PyData} {as : List Addr}, ReadsAll h vs xs as -> vs.length = xs.length
 | _, _, _, .nil => rfl
 | _, _, _, .cons _ rs => ZAk Nat.succ (YR rs)
theorem Yfq {h : Heap} : ∀ (n : Nat) {v : Value} {d e : PyData} {as bs : List Addr}, noD n d = true -> Reads h v d as -> Reads h v e bs -> d = e := by
 intro n
 induction n with
 | zero =>
  intro v d e as bs hd r q
  cases r <;> first | (cases q; rfl) | exact absurd hd (by simp [noD])
 | succ n ih =>
  have all : ∀ {vs : List Value} {xs ys : List PyData} {as bs : List Addr}, xs.all (noD n) = true -> ReadsAll h vs xs as -> ReadsAll h vs ys bs -> xs = ys := by
   intro vs xs ys as bs ha rx ry
   have l1 := YR rx
   have l2 := YR ry
   refine List.ext_getElem (l1.symm.trans l2) fun j j1 j2 => ?_
   obtain ⟨_, _, a⟩ := Y7 rx j (by omega)
   obtain ⟨_, _, b⟩ := Y7 ry j (by omega)
   exact ih (ZA7.mp ha _ (ZAs j1)) a b
  intro v d e as bs hd r q
  cases r with
  | none => cases q; rfl
  | bool b => cases q; rfl
  | int i t => cases q; rfl
  | str x t => cases q; rfl
  | list h1 h2 h3 h4 =>
   cases q with
   | list k1 k2 k3 k4 => rw [h1] at k1; cases k1; rw [h3] at k3; cases k3; rw [all hd h4 k4]
   | tuple k1 k2 k3 k4 => show 224
   | dict k1 k2 k3 k4 k5 => show 224
  | tuple h1 h2 h3 h4 =>
   cases q with
   | tuple k1 k2 k3 k4 => rw [h1] at k1; cases k1; rw [h3] at k3; cases k3; rw [all hd h4 k4]
   | list k1 k2 k3 k4 => show 224
   | dict k1 k2 k3 k4 k5 => show 224
  | dict => exact absurd hd (by simp [noD])
theorem J1 {xs : List PyData} (h : ∀ x ∈ xs, PyData.eqv x x = true) : PyData.eqvAll xs xs = true := by
 induction xs with
 | nil => rfl
 | cons x r ih => rw [PyData.eqvAll, h x (ZAc ..), ih fun y hy => h y (ZAW _ hy)]; rfl
theorem YhC : ∀ (n : Nat) {d : PyData}, noD n d = true -> PyData.eqv d d = true := by
 intro n
 induction n with
 | zero => intro d hd; cases d <;> first | (simp [PyData.eqv]; done) | exact absurd hd (by simp [noD])
 | succ n ih =>
  intro d hd
  cases d with
  | list xs => rw [PyData.eqv]; exact J1 fun x hx => ih (ZA7.mp hd x hx)
  | tuple xs => rw [PyData.eqv]; exact J1 fun x hx => ih (ZA7.mp hd x hx)
  | dict _ => exact absurd hd (by simp [noD])
  | _ => simp [PyData.eqv]
inductive Sh (h : Heap) : Value -> PyData -> Prop where
 | none : Sh h .none .none
 | bool (b) : Sh h (.bool b) (.bool b)
 | int (i t) : Sh h (.int i t) (.int i)
 | str (x t) : Sh h (.str x t) (.str x)
 | list {a its xs as} : h.IsList a its -> ReadsAll h its.toList xs as -> Sh h (.ref a) (.list xs)
 | tup {a its xs as} : h.IsTuple a its -> ReadsAll h its.toList xs as -> Sh h (.ref a) (.tuple xs)
theorem YdW {h : Heap} {n : Nat} {v : Value} {d : PyData} {as : List Addr} (r : Reads h v d as) (hd : noD n d = true) : Sh h v d := by
 cases r with
 | none => exact .none
 | bool b => exact .bool b
 | int i t => exact .int i t
 | str x t => exact .str x t
 | list h1 h2 h3 h4 => exact .list ⟨_, h1, h2, _, h3⟩ h4
 | tuple h1 h2 h3 h4 => exact .tup ⟨_, h1, h2, _, h3⟩ h4
 | dict => cases n <;> exact absurd hd (by simp [noD])
theorem Ycb {A : Around} {s : Shared} {v u : Value} {d e : PyData} (hu : A.units < cLine) (a : Sh s.heap v d) (b : Sh s.heap u e)
 (sub : ∀ {its its' : Array Value} {xs ys : List PyData} {as bs : List Addr}, (d = .list xs /\ e = .list ys) \/ (d = .tuple xs /\ e = .tuple ys) -> ReadsAll s.heap its.toList xs as -> ReadsAll s.heap its'.toList ys bs ->
  ∀ j (h1 : j < its.size) (h2 : j < its'.size), EqAt A.in1 s its[j] its'[j] (pairEq xs ys j)) : RcAt A s v u (PyData.eqv d e) /\ RcNeAt A s v u (!PyData.eqv d e) := by
 cases a with
 | none =>
  cases b with
  | none => exact ⟨.none_none, .none_none⟩
  | bool y => exact ⟨.none_bool y, .none_bool y⟩
  | int y t => exact ⟨.none_int y t, .none_int y t⟩
  | str y t => exact ⟨.none_str y t, .none_str y t⟩
  | list k _ => exact ⟨.none_list k hu, .none_list k hu⟩
  | tup k _ => exact ⟨.none_tuple k hu, .none_tuple k hu⟩
 | bool x =>
  cases b with
  | none => exact ⟨.bool_none x, .bool_none x⟩
  | bool y => exact ⟨.bool_bool x y, .bool_bool x y⟩
  | int y t => exact ⟨.bool_int x y t, .bool_int x y t⟩
  | str y t => exact ⟨.bool_str x y t, .bool_str x y t⟩
  | list k _ => exact ⟨.bool_list x k hu, .bool_list x k hu⟩
  | tup k _ => exact ⟨.bool_tuple x k hu, .bool_tuple x k hu⟩
 | int x t =>
  cases b with
  | none => exact ⟨.int_none x t, .int_none x t⟩
  | bool y => exact ⟨.int_bool x t y, .int_bool x t y⟩
  | int y t' => exact ⟨.int_int x t y t', .int_int x t y t'⟩
  | str y t' => exact ⟨.int_str x t y t', .int_str x t y t'⟩
  | list k _ => exact ⟨.int_list x t k hu, .int_list x t k hu⟩
  | tup k _ => exact ⟨.int_tuple x t k hu, .int_tuple x t k hu⟩
 | str x t =>
  cases b with
  | none => exact ⟨.str_none x t, .str_none x t⟩
  | bool y => exact ⟨.str_bool x t y, .str_bool x t y⟩
  | int y t' => exact ⟨.str_int x t y t', .str_int x t y t'⟩
  | str y t' => exact ⟨.str_str x t y t', .str_str x t y t'⟩
  | list k _ => exact ⟨.str_list x t k hu, .str_list x t k hu⟩
  | tup k _ => exact ⟨.str_tuple x t k hu, .str_tuple x t k hu⟩
 | @list l its xs as h1 h2 =>
  cases b with
  | none => exact ⟨.list_none h1 hu, .list_none h1 hu⟩
  | bool y => exact ⟨.list_bool y h1 hu, .list_bool y h1 hu⟩
  | int y t' => exact ⟨.list_int y t' h1 hu, .list_int y t' h1 hu⟩
  | str y t' => exact ⟨.list_str y t' h1 hu, .list_str y t' h1 hu⟩
  | tup k _ => exact ⟨.list_tuple h1 k hu, .list_tuple h1 k hu⟩
  | @list l' its' ys bs k1 k2 =>
   have n1 : its.size = xs.length := by simpa using YR h2
   have n2 : its'.size = ys.length := by simpa using YR k2
   have he := sub (.inl ⟨rfl, rfl⟩) h2 k2
   rw [PyData.eqv]
   by_cases hz : its.size = its'.size
   ·rw [<- eqvAll_same_length (by omega : xs.length = ys.length), <- n1]
    exact ⟨.lists h1 k1 hz hu he, .lists h1 k1 hz hu he⟩
   ·rw [eqvAll_other_length (by omega : xs.length ≠ ys.length)]
    exact ⟨.lists_lengths h1 k1 (by simpa using hz) hu, .lists_lengths h1 k1 (by simpa using hz) hu⟩
 | @tup l its xs as h1 h2 =>
  cases b with
  | none => exact ⟨.tuple_none h1 hu, .tuple_none h1 hu⟩
  | bool y => exact ⟨.tuple_bool y h1 hu, .tuple_bool y h1 hu⟩
  | int y t' => exact ⟨.tuple_int y t' h1 hu, .tuple_int y t' h1 hu⟩
  | str y t' => exact ⟨.tuple_str y t' h1 hu, .tuple_str y t' h1 hu⟩
  | list k _ => exact ⟨.tuple_list h1 k hu, .tuple_list h1 k hu⟩
  | @tup l' its' ys bs k1 k2 =>
   have n1 : its.size = xs.length := by simpa using YR h2
   have n2 : its'.size = ys.length := by simpa using YR k2
   have he := sub (.inr ⟨rfl, rfl⟩) h2 k2
   rw [PyData.eqv, <- eqvAll_eq xs ys, <- n1, <- n2]
   exact ⟨.tuples h1 k1 hu he, .tuples h1 k1 hu he⟩
theorem Yd5 {A : Around} {s : Shared} {v u : Value} {d e : PyData} (hu : A.units < cLine) (a : Sh s.heap v d) (b : Sh s.heap u e) (hs : ∀ x y, v = .ref x -> u = .ref y -> EqAt A s v u (PyData.eqv d e)) : EqAt A s v u (PyData.eqv d e) := by
 cases a with
 | none =>
  cases b with
  | none => exact .same _
  | bool y => exact .none_bool y
  | int y t => exact .none_int y t
  | str y t => exact .none_str y t
  | list k _ => exact .none_list k hu
  | tup k _ => exact .none_tuple k hu
 | bool x =>
  cases b with
  | none => exact .bool_none x
  | bool y => exact .bool_bool x y
  | int y t => exact .bool_int x y t
  | str y t => exact .bool_str x y t
  | list k _ => exact .bool_list x k hu
  | tup k _ => exact .bool_tuple x k hu
 | int x t =>
  cases b with
  | none => exact .int_none x t
  | bool y => exact .int_bool x t y
  | int y t' => exact .int_int x t y t'
  | str y t' => exact .int_str x t y t'
  | list k _ => exact .int_list x t k hu
  | tup k _ => exact .int_tuple x t k hu
 | str x t =>
  cases b with
  | none => exact .str_none x t
  | bool y => exact .str_bool x t y
  | int y t' => exact .str_int x t y t'
  | str y t' => exact .str_str x t y t'
  | list k _ => exact .str_list x t k hu
  | tup k _ => exact .str_tuple x t k hu
 | list h1 _ =>
  cases b with
  | none => exact .list_none h1 hu
  | bool y => exact .list_bool y h1 hu
  | int y t' => exact .list_int y t' h1 hu
  | str y t' => exact .list_str y t' h1 hu
  | list _ _ => exact hs _ _ rfl rfl
  | tup _ _ => exact hs _ _ rfl rfl
 | tup h1 _ =>
  cases b with
  | none => exact .tuple_none h1 hu
  | bool y => exact .tuple_bool y h1 hu
  | int y t' => exact .tuple_int y t' h1 hu
  | str y t' => exact .tuple_str y t' h1 hu
  | list _ _ => exact hs _ _ rfl rfl
  | tup _ _ => exact hs _ _ rfl rfl
theorem Yed : ∀ (n : Nat) {d e : PyData} {A : Around} {s : Shared} {v u : Value} {as bs : List Addr}, Reads s.heap v d as -> Reads s.heap u e bs -> noD n d = true -> noD n e = true -> A.units + n < cLine ->
 EqAt A s v u (PyData.eqv d e) /\ RcAt A s v u (PyData.eqv d e) /\ RcNeAt A s v u (!PyData.eqv d e) := by
 intro n
 induction n with
 | zero =>
  intro d e A s v u as bs r q hd he hu
  have a := YdW r hd
  have b := YdW q he
  have rc := Ycb (A := A) (by omega) a b fun {its its' xs ys as bs} h => by rcases h with ⟨rfl, _⟩ | ⟨rfl, _⟩ <;> exact absurd hd (by simp [noD])
  exact ⟨Yd5 (by omega) a b fun x y e1 e2 => by subst e1; cases a <;> exact absurd hd (by simp [noD]), rc.1, rc.2⟩
 | succ n ih =>
  intro d e A s v u as bs r q hd he hu
  have a := YdW r hd
  have b := YdW q he
  have rc := Ycb (A := A) (by omega) a b fun {its its' xs ys as bs} h rx ry j h1 h2 => by
   obtain ⟨l1, as', ra⟩ := Y7 rx j (by simpa using h1)
   obtain ⟨l2, bs', rb⟩ := Y7 ry j (by simpa using h2)
   have hx : noD n xs[j] = true := by
    rcases h with ⟨rfl, _⟩ | ⟨rfl, _⟩ <;> exact ZA7.mp hd _ (ZAs l1)
   have hy : noD n ys[j] = true := by
    rcases h with ⟨_, rfl⟩ | ⟨_, rfl⟩ <;> exact ZA7.mp he _ (ZAs l2)
   have := (ih (A := A.in1) ra rb hx hy (by show A.units + 1 + n < cLine; omega)).1
   unfold pairEq
   rw [ZBm, ZBm, ZAJ l1, ZAJ l2]
   show 172
  refine ⟨Yd5 (by omega) a b fun x y e1 e2 => ?_, rc.1, rc.2⟩
  subst e1; subst e2
  by_cases hxy : x = y
  ·subst hxy
   have := Yfq (n + 1) hd r q
   subst this
   rw [YhC (n + 1) hd]
   exact .same _
  ·exact .of_refs hxy rc.1
def snap : Nat -> YlA -> P -> Option PyData
 | _, _, .non => some .none
 | _, _, .bl b => some (.bool b)
 | _, _, .int i => some (.int i)
 | _, _, .str x => some (.str x)
 | n + 1, st, .tup xs => (xs.mapM (snap n st)).map .tuple
 | n + 1, st, .ref k => match listAt st k with
  | some xs => (xs.mapM (snap n st)).map .list
  | none => none
 | 0, _, .tup _ => none
 | 0, _, .ref _ => none
theorem WE {α β : Type} {f : α -> Option β} {x : α} {xs : List α} {ys : List β} (h : (x :: xs).mapM f = some ys) : ∃ y r, f x = some y /\ xs.mapM f = some r /\ ys = y :: r := by
 rw [List.mapM_cons] at h
 cases q : f x with
 | none => show 162
 | some y =>
  show 152
  cases q2 : xs.mapM f with
  | none => rw [q2] at h; cases h
  | some r => rw [q2] at h; cases h; exact ⟨y, r, rfl, rfl, rfl⟩
theorem Yab {α β : Type} {f : α -> Option β} {p : β -> Bool} (hf : ∀ x y, f x = some y -> p y = true) : ∀ {xs : List α} {ys : List β}, xs.mapM f = some ys -> ys.all p = true
 | [], ys, h => by rw [List.mapM_nil] at h; cases h; rfl
 | x :: xs, ys, h => by
  obtain ⟨y, r, h1, h2, rfl⟩ := WE h
  rw [ZBC, hf x y h1, Yab hf h2]
  rfl
theorem Vt {st : YlA} : ∀ {n : Nat} {p : P} {d : PyData}, snap n st p = some d -> noD n d = true := by
 intro n
 induction n with
 | zero => intro p d h; cases p <;> first | (unfold snap at h; cases h; rfl) | (unfold snap at h; cases h)
 | succ n ih =>
  intro p d h
  cases p with
  | tup xs =>
   unfold snap at h
   cases q : xs.mapM (snap n st) with
   | none => show 162
   | some ds => rw [q] at h; cases h; exact Yab (fun x y e => ih e) q
  | ref k =>
   unfold snap at h
   cases q0 : listAt st k with
   | none => rw [q0] at h; cases h
   | some xs =>
    rw [q0] at h
    dsimp only at h
    cases q : xs.mapM (snap n st) with
    | none => show 162
    | some ds => rw [q] at h; cases h; exact Yab (fun x y e => ih e) q
  | _ => unfold snap at h; cases h; rfl
section
variable {X : Cx} {pins : LAO} {σ : St} {H : Hp} {s : Shared} {as : List Addr} {st : YlA}
theorem Wl (I : Inv X pins σ H s) (rp : Rep X.K as st H) : ∀ {n : Nat} {p : P} {d : PyData} {x : V} {v : Value}, snap n st p = some d -> Den X.K as H x p -> RelV x v -> ∃ bs, Reads s.heap v d bs := by
 have all : ∀ {n : Nat}, (∀ {p : P} {d : PyData} {x : V} {v : Value}, snap n st p = some d -> Den X.K as H x p -> RelV x v -> ∃ bs, Reads s.heap v d bs) ->
  ∀ {ps : List P} {ds : List PyData} {xs : List V} {vs : List Value}, ps.mapM (snap n st) = some ds -> Dens X.K as H xs ps -> Vals xs vs -> ∃ bs, ReadsAll s.heap vs ds bs := by
  intro n one ps
  induction ps with
  | nil => intro ds xs vs h d r; rw [List.mapM_nil] at h; cases h; cases d; cases r; exact ⟨_, .nil⟩
  | cons p ps ih =>
   intro ds xs vs h d r
   obtain ⟨y, rs, h1, h2, rfl⟩ := WE h
   cases d with
   | cons d1 d2 =>
    cases r with
    | cons r1 r2 =>
     obtain ⟨b1, q1⟩ := one h1 d1 r1
     obtain ⟨b2, q2⟩ := ih h2 d2 r2
     exact ⟨_, .cons q1 q2⟩
 intro n
 induction n with
 | zero =>
  intro p d x v h den r
  cases den with
  | non => unfold snap at h; cases h; cases r; exact ⟨_, .none⟩
  | bl => unfold snap at h; cases h; cases r; exact ⟨_, .bool _⟩
  | int => unfold snap at h; cases h; obtain ⟨t, rfl⟩ := r; exact ⟨_, .int _ t⟩
  | str => unfold snap at h; cases h; obtain ⟨t, rfl⟩ := r; exact ⟨_, .str _ t⟩
  | _ => unfold snap at h; cases h
 | succ n ih =>
  intro p d x v h den r
  cases den with
  | non => unfold snap at h; cases h; cases r; exact ⟨_, .none⟩
  | bl => unfold snap at h; cases h; cases r; exact ⟨_, .bool _⟩
  | int => unfold snap at h; cases h; obtain ⟨t, rfl⟩ := r; exact ⟨_, .int _ t⟩
  | str => unfold snap at h; cases h; obtain ⟨t, rfl⟩ := r; exact ⟨_, .str _ t⟩
  | @tup a vs ps e q =>
   unfold snap at h
   cases z : ps.mapM (snap n st) with
   | none => show 188
   | some ds =>
    show 188
    cases r
    obtain ⟨its, r1, ⟨o, ho, hc, m, hd⟩, _⟩ := I.tuple e
    obtain ⟨bs, q'⟩ := all ih z q r1
    exact ⟨_, .tuple ho hc hd (by simpa using q')⟩
  | @ref k a e =>
   unfold snap at h
   cases q0 : listAt st k with
   | none => rw [q0] at h; cases h
   | some xs =>
    rw [q0] at h
    dsimp only at h
    cases z : xs.mapM (snap n st) with
    | none => show 188
    | some ds =>
     show 188
     cases r
     obtain ⟨vs, g1, g2⟩ := Vi rp e q0
     obtain ⟨its, r1, pl, _⟩ := I.list g1
     obtain ⟨o, ho, hc, m, hd⟩ := pl.isList
     obtain ⟨bs, q'⟩ := all ih z g2 r1
     exact ⟨_, .list ho hc hd (by simpa using q')⟩
def deep : Nat := 8
def eqB (p q : P) (st : YlA) : Option Bool := match snap deep st p, snap deep st q with
 | some d, some e => some (PyData.eqv d e)
 | _, _ => none
def eqP : G2 := fun p q st => (eqB p q st).map fun b => (.bl b, st)
def neP : G2 := fun p q st => (eqB p q st).map fun b => (.bl (!b), st)
theorem Ws (hu : X.A.units + deep < cLine) : OpR X (compareOp .Eq) (rM X eqP) := opM fun pins s σ H x y v u Q as st p q I rx ry rp d1 d2 h => by
 unfold eqP eqB at h
 cases z1 : snap deep st p with
 | none => rw [z1] at h; exact h.elim
 | some d =>
  cases z2 : snap deep st q with
  | none => rw [z1, z2] at h; exact h.elim
  | some e =>
   rw [z1, z2] at h
   obtain ⟨b1, r1⟩ := Wl I rp z1 d1 rx
   obtain ⟨b2, r2⟩ := Wl I rp z2 d2 ry
   exact (Yed deep (A := X.A) r1 r2 (Vt z1) (Vt z2) hu).2.1 _ _ _ _ ⟨.bl _, H, I, rfl, h as H _ Ext.refl rp .bl⟩
theorem Yeb (hu : X.A.units + deep < cLine) : OpR X (compareOp .NotEq) (rM X neP) := opM fun pins s σ H x y v u Q as st p q I rx ry rp d1 d2 h => by
 unfold neP eqB at h
 cases z1 : snap deep st p with
 | none => rw [z1] at h; exact h.elim
 | some d =>
  cases z2 : snap deep st q with
  | none => rw [z1, z2] at h; exact h.elim
  | some e =>
   rw [z1, z2] at h
   obtain ⟨b1, r1⟩ := Wl I rp z1 d1 rx
   obtain ⟨b2, r2⟩ := Wl I rp z2 d2 ry
   exact (Yed deep (A := X.A) r1 r2 (Vt z1) (Vt z2) hu).2.2 _ _ _ _ ⟨.bl _, H, I, rfl, h as H _ Ext.refl rp .bl⟩
end
end Mi
namespace Mi
open PySem PySem.Spec L2
open PyProof.Rows hiding St
theorem YJ : bootBuiltins "len" = some (.builtin "len") := by decide +kernel
theorem ZC : bootBuiltins "tuple" = some (.type "tuple") := by decide +kernel
theorem Yb0 : bootBuiltins "str" = some (.type "str") := by decide +kernel
theorem Ykr : bootBuiltins "set" = some (.type "set") := by decide +kernel
theorem YeO : bootBuiltins "sorted" = some (.builtin "sorted") := by decide +kernel
theorem Yh : bootBuiltins "isinstance" = some (.builtin "isinstance") := by decide +kernel
theorem Wf : bootBuiltins "enumerate" = some (.type "enumerate") := by decide +kernel
theorem Yc6 : bootBuiltins "all" = some (.builtin "all") := by decide +kernel
def Yo0 (me : ME) : ME := fun ρ st => (me ρ st).bind fun p st1 => match p with
 | .int i => .ok (.int (-i)) st1
 | _ => .bad
theorem Ygg {X : Cx} {a : Expr} {ma : ME} {pos : Pos} (ha : JE X a ma) : JE X (.UnaryOp .USub a pos) (Yo0 ma) :=
 PE.imp (Yk3 Ykz ha) fun σ H Q ⟨as, ρ, st, en, rp, h⟩ => ⟨as, ρ, st, en, rp, YlL.bindE h fun p st1 as1 H1 v x rp1 d h1 => by
  cases d with
  | int => exact ⟨_, rfl, h1 as1 H1 _ Ext.refl rp1 .int⟩
  | _ => exact False.elim h1⟩
structure Fn (P' : Program) (w : World) (K : Frag) (mg : SOV) (base : Heap) (x : Str) (k : Nat) (ps : List Str) (mf : MF) : Prop where
 ex : ∃ f fd, FM P' w K mg base k f fd ps mf /\ mg x = some (.ref f) /\ PySem.W.keepIn K (.ref f) = true /\ Binds K fd ps []
theorem YW {X : Cx} {x : Str} {k : Nat} {ps : List Str} {mf : MF} {e : Expr} {es : List Expr} {mr : MA} {p pos : Pos} (F : Fn X.prog X.w X.K X.mg X.base x k ps mf) (hr : Ymb k X.A) (hg : Gl X x) (ha : JA X (e :: es) mr)
 (hdb : (x == ("__debug__" : Str)) = false := by decide) (he : starEach (e :: es) X.env = (false, eval e X.env) :: starEach es X.env := by rfl) (hpl : (backTo pos (starEach es X.env)).any (·.1) = false := by rfl) :
 JE X (.Call (.Name x p) (e :: es) [] pos) (YlQ ps.length mf mr) := by
 obtain ⟨f, fd, h1, h2, h3, h4⟩ := F.ex
 exact Yir h1 hr hg h2 h3 h4 ha hdb he hpl
def YlF (K : Frag) (x : Str) (st : Stmt) : Prop := ∃ (f : Addr) (oc : Value) (od an : Option Addr) (kV doc pm cd ct : Value) (sl : Array (Option Value)),
 nsIn K mainGlobals x = some (some (.ref f)) /\ K.lookup f = some ⟨oc, od, .func (fnOf x x (YlH st) (YlE st) (Ylx st) .none kV doc pm an cd ct), sl⟩ /\ PySem.W.codeIn K cd x = true /\ PySem.W.keepIn K (.ref f) = true
structure Top (K : Frag) (mg : SOV) : Prop where
 ex : ∃ h : Heap, K.In h /\ h.Ns mainGlobals mg
theorem Top.none {K : Frag} {mg : SOV} {x : Str} (T : Top K mg) (e : nsIn K mainGlobals x = some none) : mg x = none := by
 obtain ⟨h, a, b⟩ := T.ex
 exact PySem.W.mg_none_of a b e
theorem Top.at {K : Frag} {mg : SOV} {x : Str} {v : Value} (T : Top K mg) (e : nsIn K mainGlobals x = some (some v)) : mg x = some v := by
 obtain ⟨h, a, b⟩ := T.ex
 exact PySem.W.mg_of a b e
section
variable {P' : Program} {w : World} {K : Frag} {mg : SOV} {base : Heap} {x : Str} {st : Stmt} {N ps : List Str} {k : Nat} {m : MS}
theorem Zt (T : Top K mg) (D : YlF K x st) (S : YlI N ps (Ylx st))
 (hb : ∀ (kV doc pm : Value) (an : Option Addr) (cdv ct : Value) (us : List Value), us.length = ps.length -> bindArgs (fnOf x x (YlH st) (YlE st) (Ylx st) .none kV doc pm an cdv ct) ⟨us, []⟩ = pure (ps.zip us))
 (hbody : ∀ (f : Addr) (cdv : Value) (A : Around) (outer : List Env) (s : Shared) (H : Hp) (E : XK), Ymb k (A.deeper (envOfC x (Ylx st) s.heap.objs.size f cdv)) -> JSs (cxOf CX0 P' w K mg base N x (Ylx st) f cdv A outer s H E).nox (YlE st) m) :
 Fn P' w K mg base x (k + 1) ps (fnM N.length m) := by
 obtain ⟨f, oc, od, an, kV, doc, pm, cd, ct, sl, h1, h2, h3, h4⟩ := D
 have F := Yap (st := st) h2 h3 h4
 exact ⟨f, _, Mi.Fun.mirror F S (hbody f), T.at h1, h4, F.binds hb⟩
end
def Yo5 (n : Nat) (mf : MF) (K : Frag) : Sp := fun vs H Q _ => ∃ (a : Addr) (ns : List Int), vs = [.ref a] /\ Only H /\ SqL K H a (ns.map V.int) /\ ns.length <= n /\ ∀ H', Q (.bl true) H'
theorem VM {K : Frag} {as : List Addr} {H : Hp} : ∀ (ns : List Int), Dens K as H (ns.map V.int) (ns.map P.int)
 | [] => .nil
 | _ :: r => .cons .int (VM r)
theorem Ydn {K : Frag} {H : Hp} {a : Addr} {ns : List Int} (hO : Only H) (hS : SqL K H a (ns.map V.int)) : Rep K [a] [.ro (ns.map P.int)] H where
 len := rfl
 nd := fun i j b hi hj ni nj => by
  have h1 : i < 1 := (ZAL.mp hi).1
  have h2 : j < 1 := (ZAL.mp hj).1
  omega
 ob := fun k b o hk ho => by
  have h1 : k < 1 := (ZAL.mp hk).1
  have e : k = 0 := by omega
  subst e
  cases hk; cases ho
  rcases hS with (h | h) | h
  ·rcases hO a with z | ⟨o, xs, z⟩
   ·show 188
   ·show 188
  ·exact ⟨_, .inl h, VM ns⟩
  ·exact ⟨_, .inr h, VM ns⟩
def Law (n : Nat) (mf : MF) : Prop := ∀ ns : List Int, ns.length <= n -> ∃ st, mf [.ref 0] [.ro (ns.map P.int)] = .ok (.bl true) st
theorem Yjd {n : Nat} {mf : MF} {K : Frag} (L : Law n mf) : ∀ vs H Q E, Yo5 n mf K vs H Q E -> spM K 1 mf vs H Q E := by
 rintro vs H Q E ⟨a, ns, rfl, hO, hS, hl, hq⟩
 refine ⟨rfl, [a], _, [.ref 0], Ydn hO hS, .cons (.ref rfl) .nil, ?_⟩
 obtain ⟨st, e⟩ := L ns hl
 rw [e]
 intro as' H' v _ _ d
 cases d
 exact hq H'
theorem Yhu {l : PySem.W.OpenLaw} {q : Program} {loose : List Str} {XP : (Str -> Option Value) -> Heap -> Prop} {YP : World -> Heap -> Prop} {d : DefRec} {K : Params -> Frag} {n k : Nat} {x y : Str} {st : Stmt} {mf : MF} (hn : l.most = some n) (hn2 : n <= 1000) (hdf : d.params.defaults = []) (hy : d.name = y)
 (hr : Ymb k callerA) (hY : ∀ (w : World) (h : Heap), YP w h -> (K w.params).In h) (hb : ∀ (kV doc pm : Value) (an : Option Addr) (cdv ct : Value) (s : Shared) (u : Value), BindsTo s (fnOf y y (YlH st) (YlE st) (Ylx st) .none kV doc pm an cdv ct) ⟨[u], []⟩ [(x, u)])
 (D : ∀ w : World, YlF (K w.params) y st)
 (F : ∀ (w : World) (mg : SOV), Top (K w.params) mg -> ∀ (f : Addr) (fd : FuncData), Fun (K w.params) y y st f fd -> ∀ base : Heap, FM l.prog w (K w.params) mg base k f fd [x] mf) (L : Law n mf) :
 PySem.W.WalkO q loose XP YP l.row.toRowW d [] (fun f vs => PySem.call f vs) := by
 refine L2.walk_of (n := n) (k := k) (x := x) (CX := fun _ => CX0) (sp := fun w => Yo5 n mf (K w.params)) hn (ZAO hn2 (by rw [sizeLine_eq]; decide)) hdf hr hY ?_ (fun w H a ns hl hO hS => ⟨a, ns, rfl, hO, hS, hl, fun _ => rfl⟩) fun _ _ _ _ _ z => z
 intro w mg fa h KX G hmg
 subst hy
 have T : Top (K w.params) mg := ⟨h, KX, G⟩
 obtain ⟨f, oc, od, an, kV, doc, pm, cd, ct, sl, h1, h2, h3, h4⟩ := D w
 have e := T.at h1
 rw [hmg] at e
 cases e
 have F0 := Yap (st := st) h2 h3 h4
 exact ⟨_, hb kV doc pm an cd ct, fun base _ _ => (F w mg T fa _ F0 base).imp (Yjd L)⟩
theorem YL {A : Around} {k : Nat} (hr : Ymb k A) : A.units + deep < cLine := ZBt (ZCB (by decide : deep <= 64) _) hr.units
def Yoo (X : Cx) (scope : Scope) (FN : List Str) (fr : List Nat) : Bool :=
 scope.names.all (fun y => !(y.2 == NameKind.cell)) && (match scope.kind with | .function => true | _ => false) && scope.names.all (fun y => !(y.2 == NameKind.local) || (match scope.names.lookup y.1 with | some .local => true | _ => false)) &&
 scope.names.all (fun y => !(y.2 == NameKind.free) || (match X.env.kindOf y.1 with | some .cell => true | some .free => true | _ => false)) &&
 (FN.length == fr.length) && (FN.zip fr).all fun z => (match X.N[z.2]? with | some x => x == z.1 | none => false) && (match scope.names.lookup z.1 with | some .free => true | _ => false)
theorem YgT {α : Type} : ∀ {l : List (Str × α)} {y : Str} {a : α}, l.lookup y = some a -> (y, a) ∈ l
 | [], _, _, h => by cases h
 | (k, v) :: r, y, a, h => by
  rw [ZA6] at h
  cases q : (y == k) with
  | true =>
   show 152
   have e : y = k := by simpa using q
   subst e
   cases h
   exact ZAc ..
  | false => rw [q] at h; exact ZAW _ (YgT h)
theorem YkO {a b : NameKind} (h : (!(a == b)) = true) : a ≠ b := fun e => by
 subst e
 cases a <;> exact absurd h (by decide)
theorem Y9 {X : Cx} {scope : Scope} (TN FN : List Str) (fr : List Nat) (h : Yoo X scope FN fr = true) : Ymr X scope TN FN fr := by
 unfold Yoo at h
 simp only [Bool.and_eq_true, List.all_eq_true] at h
 obtain ⟨⟨⟨⟨⟨h1, h2⟩, h3⟩, h4⟩, h5⟩, h6⟩ := h
 refine ⟨fun y hy => YkO (h1 y hy), ?_, fun y hy e => ?_, fun y hy e => ?_, fun y => YgT, by simpa using h5, fun j x k hx hk => ?_⟩
 ·revert h2; cases scope.kind <;> intro h2 <;> first | rfl | exact absurd h2 (by decide)
 ·have := h3 y hy
  rw [e] at this
  have e2 : (!(NameKind.local == NameKind.local)) = false := by decide
  rw [e2, ZCl] at this
  revert this
  split
  ·intro _; assumption
  ·intro z; exact absurd z (by decide)
 ·have := h4 y hy
  rw [e] at this
  have e2 : (!(NameKind.free == NameKind.free)) = false := by decide
  rw [e2, ZCl] at this
  revert this
  split
  ·intro _; left; assumption
  ·intro _; right; assumption
  ·intro z; exact absurd z (by decide)
 ·have hm : (x, k) ∈ FN.zip fr := List.mem_iff_getElem?.mpr ⟨j, by rw [List.getElem?_zip_eq_some]; exact ⟨hx, hk⟩⟩
  obtain ⟨g1, g2⟩ := h6 _ hm
  dsimp only at g1 g2
  constructor
  ·revert g1
   cases X.N[k]? with
   | none => intro z; exact absurd z ZAU
   | some z => intro e; rw [show z = x by simpa using e]
  ·revert g2
   split
   ·intro _; assumption
   ·intro z; exact absurd z (by decide)
theorem YlF.of {K : Frag} {x : Str} {st : Stmt} {f : Addr} {oc : Value} {od an : Option Addr} {kV doc pm cd ct : Value} {sl : Array (Option Value)} (a : nsIn K mainGlobals x = some (some (.ref f)))
 (l : K.lookup f = some ⟨oc, od, .func (fnOf x x (YlH st) (YlE st) (Ylx st) .none kV doc pm an cd ct), sl⟩) (c : PySem.W.codeIn K cd x = true) (k : PySem.W.keepIn K (.ref f) = true) : YlF K x st := ⟨f, oc, od, an, kV, doc, pm, cd, ct, sl, a, l, c, k⟩
def Ynn (K : Frag) (x : Str) (v : Tok -> Value) : Prop := ∃ t, nsIn K mainGlobals x = some (some (v t))
theorem Ynn.of {K : Frag} {x : Str} {v : Tok -> Value} {t : Tok} (a : nsIn K mainGlobals x = some (some (v t))) : Ynn K x v := ⟨t, a⟩
def YnW : List P -> Option (List Bool)
 | [] => some []
 | .bl b :: r => (YnW r).map (b :: ·)
 | _ :: _ => none
section
variable {K : Frag} {as : List Addr} {H : Hp}
theorem YcK : ∀ {ps : List P} {vs : List V} {us : List Value} {bs : List Bool}, Dens K as H vs ps -> Vals vs us -> YnW ps = some bs -> LSm.BoolsAre us bs
 | [], _, _, _, .nil, .nil, e => by cases e; exact .nil
 | .bl b :: r, _, _, bs, .cons d ds, .cons rv rs, e => by
  cases d
  cases rv
  have e' : (YnW r).map (b :: ·) = some bs := e
  cases q : YnW r with
  | none => rw [q] at e'; cases e'
  | some cs => rw [q] at e'; cases e'; exact .cons b (YcK ds rs q)
end
section
variable {prog : Program} {w : World} {A : Around} {E : VSP} {s : Shared} {l : Addr} {vs : List Value} {bs : List Bool} {Q : VSP}
theorem Yff {h' : Heap} {o : Obj} (hk : ∀ b x, b ∉ [s.heap.objs.size] -> (s.heap.push o).get? b = some x -> h'.get? b = some x) (b : Addr) (x : Obj) (e : s.heap.get? b = some x) : h'.get? b = some x := by
 refine hk b x (fun hm => ?_) (ZAB _ e)
 rw [ZA1.mp hm] at e
 exact absurd (ZAG e) (ZBH _)
theorem Ygp (hh : A.handled = none) (hl : s.heap.IsList l vs.toArray) (hb : LSm.BoolsAre vs bs)
 (h : ∀ h' tk, (∀ b x, s.heap.get? b = some x -> h'.get? b = some x) -> Q (.bool (bs.all id)) { s with heap := h', toks := tk }) : wpAny (model prog w) A (call (.builtin "all") [.ref l]) Q E s := by
 have hlt : l < s.heap.objs.size := let ⟨_, e, _⟩ := hl; ZAG e
 have W := Walks.list (prog := prog) (w := w) (A := A.in1) hh s.heap.objs.size l (ZAP hlt) vs.toArray
 refine call_all_walk (ZB2 hl ⟨_, _, _, _, _, _, (fun i => (bs[i]?).getD true), rfl, W, ⟨⟨_, ZAK _ rfl, rfl, rfl⟩, hl.push _⟩, ?_, ?_⟩)
 ·intro i v s' Q' E' hP hQ
  obtain ⟨b, e, rfl⟩ := hb.get i v (by simpa using hP)
  dsimp only at hQ
  rw [e] at hQ
  exact ZBD hQ
 ·intro h' tk hk
  have e : ((List.range vs.toArray.size).all fun i => (bs[i]?).getD true) = bs.all id := by rw [ZAd, hb.length, LSm.range_all]
  rw [e]
  exact h h' tk fun b x => Yff hk b x
end
section
variable {X : Cx} {e : Expr} {m : MA} {p pos : Pos}
theorem YfD (hc : X.calm = true) : Ymw X (.builtin "all") (fun xs H Q => ∃ a vs bs, xs = [.ref a] /\ SqL X.K H a vs /\ (∀ us, Vals vs us -> LSm.BoolsAre us bs) /\ Q (.bl (bs.all id)) H) := by
 intro pins s σ H xs us Q I r ⟨a, vs, bs, e, sq, hb, q⟩
 subst e
 obtain ⟨u, rfl, rx⟩ := vals1 r
 cases rx
 obtain ⟨its, rv, pl, _⟩ := I.list sq
 exact Ygp (I.ok.hd hc) pl.isList (hb _ rv) fun h' tk hk => ⟨.bl _, H, I.kept hk, rfl, q⟩
def Yn8 (m : MA) : ME := fun ρ st => (m ρ st).bind fun ps st1 => match YnW ps with
 | some bs => .ok (.bl (bs.all id)) st1
 | none => .bad
theorem YbQ (hc : X.calm = true) (hg : Gl X "all") (hm : X.mg "all" = none) (hv : bootBuiltins "all" = some (.builtin "all")) (h : JL X e m)
 (he : starEach [e] X.env = (false, eval e X.env) :: starEach [] X.env := by rfl) : JE X (.Call (.Name "all" p) [e] [] pos) (Yn8 m) :=
 PE.imp (Wx (YfD hc) hg hm hv (Y8 h WD he) (by decide) (by decide) he) fun σ H Q ⟨as, ρ, st, en, rp, h⟩ => ⟨as, ρ, st, en, rp, YlL.bindL h fun ps st1 as1 H1 l vs x rp1 hl fr d h1 => by
  cases q : YnW ps with
  | none => rw [q] at h1; exact h1.elim
  | some bs => rw [q] at h1; exact ⟨l, vs, bs, rfl, .of hl, fun us r => YcK d r q, h1 as1 H1 _ Ext.refl rp1 .bl⟩⟩
end
section
variable {prog : Program} {w : World} {A : Around} {E : VSP} {s : Shared}
theorem Ydp {J t : Addr} {i : Nat} {its : Array Value} {x : Value} {Q : VSP} (hJ : s.heap.IsTupleIter J t i) (ht : s.heap.IsTuple t its) (hx : its[i]? = some x)
 (hQ : ∀ h', h'.IsTupleIter J t (i + 1) -> Heap.SameBut J s.heap h' -> Q x { s with heap := h' }) : wpAny (model prog w) A (Builtin.SmallTypes.nextOf (.ref J)) Q E s := by
 obtain ⟨oJ, gJ, cJ, dJ⟩ := id hJ
 obtain ⟨oT, gT, _, nT, dT⟩ := ht
 unfold Builtin.SmallTypes.nextOf
 have nn : ¬ ((Value.ref t == Value.none) = true) := ZAU
 refine ZAA (wpAny_callSpecial?_slot (name := Str.ofString "__next__") hJ.typeIs F.slot_tuple_iterator_next (ZA2 F.slot_tuple_iterator_next hJ.typeIs F.entry_tuple_iterator_next ?_ (F.args_tuple_iterator_next_1 _)))
 show wpAny _ _ (field (.ref J) 0 >>= _) _ _ s
 refine ZAA (ZBR gJ dJ (x := .ref t) rfl ?_)
 show wpAny _ _ (if (Value.ref t == Value.none) = true then _ else field (.ref J) 1 >>= _) _ _ s
 rw [ZAF nn]
 refine ZAA (ZBR gJ dJ (x := .int i 0) rfl ?_)
 show wpAny _ _ (seqItems? (.ref t) >>= _) _ _ s
 refine ZAA (ZCE gT dT ?_)
 simp only [Int.toNat_natCast, hx]
 refine wpAny_bind (wpAny_setField gJ dJ (by simp) (wpAny_pure ⟨x, rfl, wpAny_pure ?_⟩))
 refine hQ _ ⟨_, ZAq _ gJ (Obj.isFreed_of_fields (Obj.data_mapFields dJ _)), (Obj.cls_mapFields ..).trans cJ, ?_⟩ (Heap.SameBut.update ..)
 rw [Obj.data_mapFields dJ]
 simp [rawInt]
theorem Yeq {J t : Addr} {i : Nat} {its : Array Value} {Q : VSP} (hh : A.handled = none) (hJ : s.heap.IsTupleIter J t i) (ht : s.heap.IsTuple t its) (hx : its[i]? = none)
 (hE : ∀ h' e, Heap.ExtBut J s.heap h' -> (∃ o, h'.get? e = some o /\ o.cls = .type "StopIteration") -> E (.ref e) { s with heap := h' }) : wpAny (model prog w) A (Builtin.SmallTypes.nextOf (.ref J)) Q E s := by
 obtain ⟨oJ, gJ, cJ, dJ⟩ := id hJ
 obtain ⟨oT, gT, _, nT, dT⟩ := ht
 unfold Builtin.SmallTypes.nextOf
 have nn : ¬ ((Value.ref t == Value.none) = true) := ZAU
 refine ZAA (wpAny_callSpecial?_slot (name := Str.ofString "__next__") hJ.typeIs F.slot_tuple_iterator_next (ZA2 F.slot_tuple_iterator_next hJ.typeIs F.entry_tuple_iterator_next ?_ (F.args_tuple_iterator_next_1 _)))
 show wpAny _ _ (field (.ref J) 0 >>= _) _ _ s
 refine ZAA (ZBR gJ dJ (x := .ref t) rfl ?_)
 show wpAny _ _ (if (Value.ref t == Value.none) = true then _ else field (.ref J) 1 >>= _) _ _ s
 rw [ZAF nn]
 refine ZAA (ZBR gJ dJ (x := .int i 0) rfl ?_)
 show wpAny _ _ (seqItems? (.ref t) >>= _) _ _ s
 refine ZAA (ZCE gT dT ?_)
 simp only [Int.toNat_natCast, hx]
 refine wpAny_bind (wpAny_rule (wpAny_bind (wpAny_setField gJ dJ (by simp) ?_)))
 have kk : Heap.ExtBut J s.heap (s.heap.update J (Obj.mapFields fun x => x.setIfInBounds 0 Value.none)) := (Heap.SameBut.update ..).extBut
 exact VZ (A := A.in1) (s := { s with heap := s.heap.update J (Obj.mapFields fun x => x.setIfInBounds 0 Value.none) }) hh kk fun h' x k o => hE h' x k o
theorem Jf (hh : A.handled = none) (J t : Addr) (hne : t ≠ J) (its : Array Value) : Draws prog w A J [J, t] its.size (fun i v => its[i]? = some v) (fun i h => h.IsTupleIter J t i /\ h.IsTuple t its) where
 live := fun _ _ st => let ⟨o, ho, _⟩ := st.1; ⟨o, ho⟩
 frame := fun _ _ _ st hk => ⟨let ⟨o, e, r⟩ := st.1; ⟨o, hk J (by simp) o e, r⟩, let ⟨o, e, r⟩ := st.2; ⟨o, hk t (by simp) o e, r⟩⟩
 item := fun i s Q E hi st hQ => Ydp st.1 st.2 (x := its[i]) (by simp [hi]) fun h' a b => hQ _ h' s.toks (by simp [hi]) ⟨a, st.2.extBut b.extBut hne⟩ b
 done := fun s Q E st hE => Yeq hh st.1 st.2 (by simp) hE
end
structure YoQ (P' : Program) (w : World) (K : Frag) (it : Addr) (tn0 : Nat -> Heap -> Prop) (go : Nat -> Hp -> V -> Prop) (stop : Nat -> Hp -> Prop) : Prop where
 obj : ∀ i h, tn0 i h -> ∃ o, h.get? it = some o /\ ∀ v, o.data ≠ .cell v
 keep : ∀ i h h', tn0 i h -> (∀ o, h.get? it = some o -> h'.get? it = some o) -> tn0 i h'
 uniq : ∀ (X : Cx), X.K = K -> ∀ i pins s σ H x y, Inv X pins σ H s -> go i H x -> go i H y -> x = y
 item : ∀ (X : Cx), X.prog = P' -> X.w = w -> X.K = K -> X.calm = true -> ∀ i pins s σ H x, Inv X pins σ H s -> YmR X pins H it -> tn0 i s.heap -> go i H x ->
  ∃ fp n Pv St, Draws P' w X.A.in1 it fp n Pv St /\ St i s.heap /\ i < n /\ (∀ e, YmR X pins H e -> e ≠ it -> e ∉ fp) /\ (∀ v, Pv i v -> RelV x v) /\ ∀ h', St (i + 1) h' -> tn0 (i + 1) h'
 done : ∀ (X : Cx), X.prog = P' -> X.w = w -> X.K = K -> X.calm = true -> ∀ i pins s σ H, Inv X pins σ H s -> YmR X pins H it -> tn0 i s.heap -> stop i H ->
  ∃ fp n Pv St, Draws P' w X.A.in1 it fp n Pv St /\ St n s.heap
def Ite (go : Nat -> Hp -> V -> Prop) (stop : Nat -> Hp -> Prop) : It :=
 ⟨fun i H => ∃ x, go i H x, fun i H v H' => ∃ p, v = .ref p /\ H p = none /\ ∀ x, go i H x -> H' = upd H p (.tup [.int i, x]), stop⟩
theorem Yfr {P' : Program} {w : World} {K : Frag} {elts : List Expr} {x1 : Nat} {tp : Pos} {e it : Addr} {tn0 : Nat -> Heap -> Prop} {go : Nat -> Hp -> V -> Prop} {stop : Nat -> Hp -> Prop} (B : YoQ P' w K it tn0 go stop) (hei : e ≠ it) :
 Turn P' w K (.Tuple elts x1 tp) (Ite go stop) [e, it] e (fun i h => (∃ old, IsEnum h e it i old) /\ tn0 i h) where
 mem := by simp
 obj := fun i h st b hb => by
  obtain ⟨⟨old, h1⟩, h2⟩ := st
  show 202
  rcases hb with rfl | rfl
  ·exact ⟨_, h1, fun v z => by cases z⟩
  ·exact B.obj i h h2
 keep := fun i h h' st k => ⟨let ⟨old, h1⟩ := st.1; ⟨old, k e (by simp) _ h1⟩, B.keep i h h' st.2 fun o z => k it (by simp) o z⟩
 item := by
  show 251
  obtain ⟨⟨old, h1⟩, h2⟩ := st
  obtain ⟨x, hx⟩ := hg
  have fe := hf e (by simp)
  have fi := hf it (by simp)
  obtain ⟨fp, n, Pv, St, D, d1, d2, d3, d4, d5⟩ := B.item X hP hw hK hc i pins s σ H x I fi h2 hx
  show 171
  refine wpAny_pyNext_enum_itemD D h1 d1 d2 hei (d3 e fe hei) fun u h' tk hu a1 a2 a3 a4 hk => ?_
  have rux := d4 u hu
  have nT : H s.heap.objs.size = none := I.hok.fresh (ZAI _)
  have fp2 : ∀ c ∈ [e, it], YmR X pins H c := hf
  have notIn : ∀ {c}, c ∉ [e, it] -> c ≠ e /\ c ≠ it := fun {c} hc => by
   simp only [List.mem_cons, List.not_mem_nil, or_false, not_or] at hc; exact hc
  have tr : ∀ {c u}, H c = some u -> c ≠ e /\ c ≠ it := fun {c u} q => ⟨Yg q fe.1, Yg q fi.1⟩
  have hns : ∀ m, s.heap.Ns X.env.locals m -> h'.Ns X.env.locals m := fun m ⟨o, es, ep, q, r⟩ => ⟨o, es, ep, hk _ o fe.2.1.symm fi.2.1.symm q, r⟩
  have hok : HOk X.prog X.w (upd H s.heap.objs.size (.tup [.int i, x])) h' := fun c y q => by
   by_cases hb : c = s.heap.objs.size
   ·subst hb
    rw [Ym] at q
    cases q
    exact ⟨by show 2 <= sizeLine; decide, [.int i tk, u], .cons ⟨tk, rfl⟩ (.cons rux .nil), ⟨_, a3, rfl, _, rfl⟩⟩
   ·rw [Yi hb] at q
    refine (I.hok c y q).stay (fun c' v hc' z => ?_) (fun c' z => by rw [Yi (Yg z nT)]; exact z) fun c' xs z => by rw [Yi (Yg z nT)]; exact z
    rcases hc' with rfl | z1
    ·exact hk _ v (tr q).1 (tr q).2 z
    ·exact hk _ v (tr z1).1 (tr z1).2 z
  have I1 : Inv X pins σ (upd H s.heap.objs.size (.tup [.int i, x])) { s with heap := h', toks := tk + 1 } :=
   I.step (h' := h') (g' := s.gens) (t' := tk + 1) (d' := s.drawn) (ch := [e, it]) (fun c hc => ⟨(fp2 c hc).2.2.2.1, (fp2 c hc).2.1, (fp2 c hc).2.2.2.2.1, (fp2 c hc).2.2.2.2.2⟩)
    (fun c o _ _ hc q _ => hk c o (notIn hc).1 (notIn hc).2 q) (fun c o _ _ hc q _ => ⟨o.slots, hk c o (notIn hc).1 (notIn hc).2 q⟩)
    (fun c o hc q z => by rw [Yi (ZAP (ZAG q))]; exact z) (fun c o hc q => ⟨o, hk c o (notIn hc).1 (notIn hc).2 q⟩)
    (fun c xs q => by rw [Yi (Yg q nT)]; exact q) (fun c o y q => by rw [Yi (Yg q nT)]; exact q) (fun c ps q => ⟨#[], by rw [Yi (Yg q nT), q]; simp⟩) hns hok I.bare
  refine ⟨.ref s.heap.objs.size, rfl, wpAny_letOwnedTupleGo_enum (s := { s with heap := h', toks := tk + 1 }) a1 fun h'' he'' sb => ?_⟩
  have el : e < s.heap.objs.size := ZAG h1
  have il : it < s.heap.objs.size := let ⟨o, q, _⟩ := B.obj i _ h2; ZAG q
  have ne1 : (upd H s.heap.objs.size (.tup [.int i, x])) e = none := by rw [Yi (ZAP el)]; exact fe.1
  have I2 : Inv X pins σ (upd H s.heap.objs.size (.tup [.int i, x])) { s with heap := h'', toks := tk + 1 } := Inv.turned (s := { s with heap := h', toks := tk + 1 }) (it := e) I1 (fun c o hc q => (sb.2 c hc).trans q) ne1 fe.2.1 fe.2.2.2.1 fe.2.2.2.2.1 fe.2.2.2.2.2
  refine ⟨.ref s.heap.objs.size, _, I2, rfl, ⟨s.heap.objs.size, rfl, nT, fun y hy => ?_⟩, ⟨⟨u, ?_⟩, B.keep _ _ _ (d5 h' a2) fun o q => (sb.2 it hei.symm).trans q⟩, fun c hc => ?_⟩
  ·rw [B.uniq X rfl i pins s σ H y x I hy hx]
  ·have : ((i + 1 : Nat) : Int) = (i : Int) + 1 := by simp
   rw [this]
   exact he''
  ·show 230
   rcases hc with rfl | rfl
   ·exact ne1
   ·rw [Yi (ZAP il)]; exact fi.1
 done := by
  show 251
  obtain ⟨⟨old, h1⟩, h2⟩ := st
  have fe := hf e (by simp)
  have fi := hf it (by simp)
  obtain ⟨fp, n, Pv, St, D, d1⟩ := B.done X hP hw hK hc i pins s σ H I fi h2 hg
  show 171
  refine wpAny_pyNext_enum_endD D h1 d1 fun h' hk => ⟨rfl, ?_⟩
  exact Inv.turned (it := it) (t' := s.toks) I (fun b o hb q => hk b o hb q) fi.1 fi.2.1 fi.2.2.2.1 fi.2.2.2.2.1 fi.2.2.2.2.2
 self := fun A i s Q E st h => let ⟨old, h1⟩ := st.1; wpAny_pyIter_enum h1 h
open PySem.AutoSeq1 (wpAny_loadPart')
theorem Ydv {X : Cx} {pins : LAO} {σ : St} {H : Hp} {s : Shared} {a b : Addr} {xs : List V} (I : Inv X pins σ H s) (h : SqT X.K H a xs) (f : YmR X pins H b) : a ≠ b := by
 obtain ⟨f0, f1, f2, f3, f4, f5⟩ := f
 rintro rfl
 rcases h with (h | ⟨o, h⟩) | ⟨o, its, n, hk, _⟩
 ·rw [f0] at h; cases h
 ·rw [f0] at h; cases h
 ·have hb := I.ok.mod.kin a o hk
  rcases f3 with z | z
  ·exact I.ok.noex a o hb z
  ·exact absurd (ZAG (I.ok.bs a o hb).1) (ZCh.mpr z)
theorem Ykw {P' : Program} {w : World} {K : Frag} {it l : Addr} : YoQ P' w K it (fun i h => h.IsTupleIter it l i) (fun i H x => ∃ xs, SqT K H l xs /\ xs[i]? = some x) (fun i H => ∃ xs, SqT K H l xs /\ i = xs.length) where
 obj := fun i h ⟨o, e, c, d⟩ => ⟨o, e, fun v z => by rw [d] at z; cases z⟩
 keep := fun i h h' ⟨o, e, r⟩ k => ⟨o, k o e, r⟩
 uniq := fun X hK i pins s σ H x y I ⟨xs, h1, h2⟩ ⟨ys, h3, h4⟩ => by
  subst hK
  rw [I.tuple_inj h1 h3, h4] at h2
  exact (Option.some.inj h2).symm
 item := fun X hP hw hK hc i pins s σ H x I f st ⟨xs, h1, h2⟩ => by
  show 171
  obtain ⟨its, rv, pt, _⟩ := I.tuple h1
  show 189
  have hi := (ZAL.mp h2).1
  have D := Jf (prog := X.prog) (w := X.w) (A := X.A.in1) (I.ok.hd hc) it l (Ydv I h1 f) its.toArray
  refine ⟨_, _, _, _, D, ⟨st, pt⟩, by simp; omega, fun e fe hne hm => ?_, fun v hv => ?_, fun h' q => q.1⟩
  ·simp only [List.mem_cons, List.not_mem_nil, or_false] at hm
   rcases hm with z | z
   ·exact hne z
   ·exact Ydv I h1 fe z.symm
  ·obtain ⟨u, e1, e2⟩ := rv.get h2
   have : its[i]? = some v := by simpa using hv
   rw [this] at e1
   cases e1
   exact e2
 done := fun X hP hw hK hc i pins s σ H I f st ⟨xs, h1, h2⟩ => by
  show 171
  obtain ⟨its, rv, pt, _⟩ := I.tuple h1
  show 189
  have D := Jf (prog := X.prog) (w := X.w) (A := X.A.in1) (I.ok.hd hc) it l (Ydv I h1 f) its.toArray
  refine ⟨_, _, _, _, D, ?_, pt⟩
  have : its.toArray.size = i := by simp; omega
  rw [this]
  exact st
theorem Yku {P' : Program} {w : World} {K : Frag} {it : Addr} {z : Str} {t : Tok} : YoQ P' w K it (fun i h => h.IsStrIter it (strIterType z) z t i) (fun i _ x => ∃ c, z.cps[i]? = some c /\ x = .str ⟨#[c]⟩) (fun i _ => i = z.cps.size) where
 obj := fun i h ⟨o, e, c, d⟩ => ⟨o, e, fun v z => by rw [d] at z; cases z⟩
 keep := fun i h h' ⟨o, e, r⟩ k => ⟨o, k o e, r⟩
 uniq := fun X hK i pins s σ H x y I ⟨c, h1, h2⟩ ⟨d, h3, h4⟩ => by
  rw [h1] at h3
  cases h3
  rw [h2, h4]
 item := fun X hP hw hK hc i pins s σ H x I f st ⟨c, h1, h2⟩ => by
  show 171
  have hi : i < z.cps.size := (ZBJ.mp h1).1
  have rel : ∀ v, (∃ c u, z.cps[i]? = some c /\ v = .str ⟨#[c]⟩ u) -> RelV x v := fun v ⟨d, u, e1, e2⟩ => by
   rw [h1] at e1
   cases e1
   rw [h2, e2]
   exact ⟨u, rfl⟩
  unfold strIterType at st ⊢
  split at st
  ·rename_i ha
   rw [ZAE ha]
   have D := Draws.strAscii (prog := X.prog) (w := X.w) (A := X.A.in1) (I.ok.hd hc) it z t
   exact ⟨_, _, _, _, D, st, hi, fun e fe hne hm => hne (by simpa using hm), rel, fun h' q => q⟩
  ·rename_i ha
   rw [ZAF ha]
   have D := Draws.strWide (prog := X.prog) (w := X.w) (A := X.A.in1) (I.ok.hd hc) it z t
   exact ⟨_, _, _, _, D, st, hi, fun e fe hne hm => hne (by simpa using hm), rel, fun h' q => q⟩
 done := fun X hP hw hK hc i pins s σ H I f st h1 => by
  show 171
  subst h1
  unfold strIterType at st
  split at st
  ·have D := Draws.strAscii (prog := X.prog) (w := X.w) (A := X.A.in1) (I.ok.hd hc) it z t
   exact ⟨_, _, _, _, D, st⟩
  ·have D := Draws.strWide (prog := X.prog) (w := X.w) (A := X.A.in1) (I.ok.hd hc) it z t
   exact ⟨_, _, _, _, D, st⟩
theorem Ykg {P' : Program} {w : World} {K : Frag} {it l : Addr} : YoQ P' w K it (fun i h => h.IsListIter it l i) (fun i H x => ∃ xs, SqL K H l xs /\ xs[i]? = some x) (fun i H => ∃ xs, SqL K H l xs /\ i = xs.length) where
 obj := fun i h ⟨o, e, c, d⟩ => ⟨o, e, fun v z => by rw [d] at z; cases z⟩
 keep := fun i h h' ⟨o, e, r⟩ k => ⟨o, k o e, r⟩
 uniq := fun X hK i pins s σ H x y I ⟨xs, h1, h2⟩ ⟨ys, h3, h4⟩ => by
  subst hK
  rw [I.list_inj h1 h3, h4] at h2
  exact (Option.some.inj h2).symm
 item := fun X hP hw hK hc i pins s σ H x I f st ⟨xs, h1, h2⟩ => by
  show 171
  obtain ⟨its, rv, pt, _⟩ := I.list h1
  show 189
  have hi := (ZAL.mp h2).1
  have D := Draws.list (prog := X.prog) (w := X.w) (A := X.A.in1) (I.ok.hd hc) it l (Ydl I h1 f) its.toArray
  refine ⟨_, _, _, _, D, ⟨st, pt.isList⟩, by simp; omega, fun e fe hne hm => ?_, fun v hv => ?_, fun h' q => q.1⟩
  ·simp only [List.mem_cons, List.not_mem_nil, or_false] at hm
   rcases hm with z | z
   ·exact hne z
   ·exact Ydl I h1 fe z.symm
  ·obtain ⟨u, e1, e2⟩ := rv.get h2
   have : its[i]? = some v := by simpa using hv
   rw [this] at e1
   cases e1
   exact e2
 done := fun X hP hw hK hc i pins s σ H I f st ⟨xs, h1, h2⟩ => by
  show 171
  obtain ⟨its, rv, pt, _⟩ := I.list h1
  show 189
  have D := Draws.list (prog := X.prog) (w := X.w) (A := X.A.in1) (I.ok.hd hc) it l (Ydl I h1 f) its.toArray
  refine ⟨_, _, _, _, D, ?_, pt.isList⟩
  have : its.toArray.size = i := by simp; omega
  rw [this]
  exact st
theorem YeD (l : Addr) (its : Array Value) (n : Nat) (dct : Option Addr) (sl : Array (Option Value)) :
 Meets (Builtin.«enumerate.__new__» ⟨[.type "enumerate", .ref l], []⟩) (fun _ R s => s.heap.get? l = some { cls := .type "tuple", dict := dct, data := .seq its n, slots := sl } /\
  R (.ok (.ret (.ref (s.heap.push { cls := .type "tuple_iterator", data := .fields #[.ref l, .int 0 0] }).objs.size)))
   { s with heap := (s.heap.push { cls := .type "tuple_iterator", data := .fields #[.ref l, .int 0 0] }).push { cls := .type "enumerate", data := .fields #[.none, .bool false, .ref s.heap.objs.size, rawInt 0, .none, .none] } }) :=
 .of_wp fun prog w A R s h => by
  show 215
  obtain ⟨gl, h⟩ := h
  have sub := sub_enumerate
  have hT : Heap.IsTuple (Shared.heap ⟨hp, g, d, tk, os⟩) l its := ⟨_, gl, rfl, n, rfl⟩
  wp_walk using wpAny_loadPart' gl
  refine wpAny_stack_any fun st => ZAC ?_
  split
  ·rename_i c _ _ _ _ _
   cases (c == Value.type "enumerate") <;> (wp_walk using wpAny_loadPart' gl, ZCG hT; exact ⟨_, rfl, h⟩)
  ·wp_walk using wpAny_loadPart' gl, ZCG hT; exact ⟨_, rfl, h⟩
theorem Yc8 {prog : Program} {w : World} {A : Around} {E : VSP} {s : Shared} {l : Addr} {its : Array Value} {Q : VSP} (hT : s.heap.IsTuple l its)
 (h : ∀ h', IsEnum h' (s.heap.objs.size + 1) s.heap.objs.size 0 .none -> h'.IsTupleIter s.heap.objs.size l 0 -> (∀ b o, s.heap.get? b = some o -> h'.get? b = some o) -> Q (.ref (s.heap.objs.size + 1)) { s with heap := h' }) :
 wpAny (model prog w) A (call (.type "enumerate") [.ref l]) Q E s := by
 obtain ⟨⟨c, dct, dt, sl⟩, gl, hc, n, hd⟩ := hT
 replace hc : c = .type "tuple" := hc
 replace hd : dt = .seq its n := hd
 subst hc hd
 generalize hI : ({ cls := .type "tuple_iterator", data := .fields #[.ref l, .int 0 0] } : Obj) = oI at *
 generalize hE' : ({ cls := .type "enumerate", data := .fields #[.none, .bool false, .ref s.heap.objs.size, rawInt 0, .none, .none] } : Obj) = oE at *
 have hz : (s.heap.push oI).objs.size = s.heap.objs.size + 1 := ZAw ..
 have he : ((s.heap.push oI).push oE).get? (s.heap.objs.size + 1) = some oE := by
  rw [<- hz]
  exact ZAK _ (by rw [<- hE']; rfl)
 have M := YeD l its n dct sl
 refine callType_new F.called_enumerate (by decide) (F.typeCall_enumerate_1 _) (F.newCall_enumerate_1 _) (fun obj => F.args_object_init_2 obj _) F.entry_enumerate_new M ⟨gl, ?_⟩
 rw [hI, hE', hz]
 refine ⟨⟨_, he, by rw [<- hE']⟩, h _ (by rw [IsEnum, he, <- hE']) ⟨_, ZAB _ (ZAK _ (by rw [<- hI]; rfl)), by rw [<- hI], by rw [<- hI]; rfl⟩ fun b o x => ZAB _ (ZAB _ x)⟩
def numAt (xs : List P) (i : Nat) : Option (Option P) := if i < xs.length then some ((xs[i]?).map fun p => .tup [.int i, p]) else if i = xs.length then some none else none
theorem Vd {xs : List P} {i : Nat} {p : P} (h : numAt xs i = some (some p)) : ∃ q, xs[i]? = some q /\ p = .tup [.int i, q] := by
 unfold numAt at h
 split at h
 ·rename_i hi
  rw [ZAJ hi] at h
  exact ⟨xs[i], ZAJ hi, (Option.some.inj (Option.some.inj h)).symm⟩
 ·split at h <;> cases h
theorem Vg {xs : List P} {i : Nat} (h : numAt xs i = some none) : i = xs.length := by
 unfold numAt at h
 split at h
 ·rename_i hi
  rw [ZAJ hi] at h
  cases h
 ·split at h
  ·assumption
  ·cases h
def Ynt (xs : List P) : Src := ⟨xs.length, fun i _ => numAt xs i⟩
def YoK (k n : Nat) : Src := ⟨n, fun i st => match listAt st k with
 | some ys => numAt ys i
 | none => none⟩
def Ynq (z : Str) : List P := z.cps.toList.map Yn4
def YoL (p : P) (st : YlA) : Option Src := match p with
 | .tup xs => some (Ynt xs)
 | .str z => some (Ynt (Ynq z))
 | .ref k => match listAt st k with
  | some xs => some (YoK k xs.length)
  | none => none
 | _ => none
section
variable {K : Frag} {as : List Addr} {H : Hp}
theorem Yay {as2 : List Addr} {st2 : YlA} {H2 H3 : Hp} {go : Nat -> Hp -> V -> Prop} {stop : Nat -> Hp -> Prop} {i : Nat} {u v : V} {q : P} (rp : Rep K as2 st2 H2) (hg : go i H2 v) (d : Den K as2 H2 v q) (y : (Ite go stop).yld i H2 u H3) : Ext as2 H2 as2 H3 /\ Rep K as2 st2 H3 /\ Den K as2 H3 u (.tup [.int i, q]) := by
 obtain ⟨t, e1, e2, e3⟩ := y
 have e4 := e3 v hg
 subst e1; subst e4
 exact ⟨Ext.laid e2, rp.laid e2, .tup (.of Ym) (.cons .int (.cons (d.ext (Ext.laid e2)) .nil))⟩
theorem YgD {a : Addr} {vs : List V} {xs : List P} (h1 : SqT K H a vs) (h2 : Dens K as H vs xs) : YnS K as H (Ynt xs) (Ite (fun i H x => ∃ xs, SqT K H a xs /\ xs[i]? = some x) (fun i H => ∃ xs, SqT K H a xs /\ i = xs.length)) where
 go := fun i as2 st2 H2 p x rp e => by
  obtain ⟨q, e1, rfl⟩ := Vd e
  obtain ⟨v, h3, h4⟩ := (h2.ext x).get e1
  exact ⟨⟨v, vs, SqT.ext x h1, h3⟩, fun u H3 y => Yay rp ⟨vs, SqT.ext x h1, h3⟩ h4 y⟩
 stop := fun i as2 st2 H2 x rp e => ⟨vs, SqT.ext x h1, by rw [h2.length]; exact Vg e⟩
theorem Yhr {z : Str} : YnS K as H (Ynt (Ynq z)) (Ite (fun i _ x => ∃ c, z.cps[i]? = some c /\ x = .str ⟨#[c]⟩) (fun i _ => i = z.cps.size)) where
 go := fun i as2 st2 H2 p x rp e => by
  obtain ⟨q, e1, rfl⟩ := Vd e
  unfold Ynq at e1
  rw [ZAa] at e1
  obtain ⟨c, e2, rfl⟩ := ZCa.mp e1
  have e3 : z.cps[i]? = some c := by simpa using e2
  exact ⟨⟨_, c, e3, rfl⟩, fun u H3 y => Yay rp ⟨c, e3, rfl⟩ .str y⟩
 stop := fun i as2 st2 H2 x rp e => by
  have := Vg e
  unfold Ynq at this
  have t2 : i = z.cps.size := by simpa using this
  exact t2
theorem YfS {k n : Nat} {a : Addr} (hk : as[k]? = some a) : YnS K as H (YoK k n) (Ite (fun i H x => ∃ xs, SqL K H a xs /\ xs[i]? = some x) (fun i H => ∃ xs, SqL K H a xs /\ i = xs.length)) where
 go := fun i as2 st2 H2 p x rp e => by
  have e' : (match listAt st2 k with | some ys => numAt ys i | none => none) = some (some p) := e
  cases q1 : listAt st2 k with
  | none => rw [q1] at e'; cases e'
  | some ys =>
   rw [q1] at e'
   obtain ⟨q, e1, rfl⟩ := Vd e'
   obtain ⟨vs, s1, d1⟩ := Vi rp (x.pre _ _ hk) q1
   obtain ⟨v, h3, h4⟩ := d1.get e1
   exact ⟨⟨v, vs, s1, h3⟩, fun u H3 y => Yay rp ⟨vs, s1, h3⟩ h4 y⟩
 stop := fun i as2 st2 H2 x rp e => by
  have e' : (match listAt st2 k with | some ys => numAt ys i | none => none) = some none := e
  cases q1 : listAt st2 k with
  | none => rw [q1] at e'; cases e'
  | some ys =>
   rw [q1] at e'
   obtain ⟨vs, s1, d1⟩ := Vi rp (x.pre _ _ hk) q1
   exact ⟨vs, s1, by rw [d1.length]; exact Vg e'⟩
end
section
variable {X : Cx} {elts : List Expr} {x1 : Nat} {tp p pos : Pos} {e : Expr} {me : ME}
abbrev ItT (K : Frag) (a : Addr) : It := Ite (fun i H x => ∃ xs, SqT K H a xs /\ xs[i]? = some x) (fun i H => ∃ xs, SqT K H a xs /\ i = xs.length)
abbrev ItL (K : Frag) (a : Addr) : It := Ite (fun i H x => ∃ xs, SqL K H a xs /\ xs[i]? = some x) (fun i H => ∃ xs, SqL K H a xs /\ i = xs.length)
abbrev ItS (z : Str) : It := Ite (fun i _ x => ∃ c, z.cps[i]? = some c /\ x = .str ⟨#[c]⟩) (fun i _ => i = z.cps.size)
theorem Yan {pins : LAO} {s : Shared} {σ : St} {H : Hp} {R : It -> Hp -> Prop} {h' : Heap} {tn0 : Nat -> Heap -> Prop} {go : Nat -> Hp -> V -> Prop} {stop : Nat -> Hp -> Prop} (I : Inv X pins σ H s) (B : YoQ X.prog X.w X.K s.heap.objs.size tn0 go stop)
 (a1 : IsEnum h' (s.heap.objs.size + 1) s.heap.objs.size 0 .none) (a2 : tn0 0 h') (hk : ∀ b o, s.heap.get? b = some o -> h'.get? b = some o) (q : R (Ite go stop) H) :
 wpAny (model X.prog X.w) X.A (pyIter (.ref (s.heap.objs.size + 1))) (PIE X pins σ (.Tuple elts x1 tp) R) X.xe { s with heap := h' } := by
 refine wpAny_pyIter_enum a1 ?_
 refine ⟨_, _, _, _, H, rfl, I.kept (t' := s.toks) hk, Yfr B (ZBV (ZA5 _)), ⟨⟨_, a1⟩, a2⟩, fun c hc => ?_, q⟩
 show 230
 have hle : s.heap.objs.size <= c := by rcases hc with rfl | rfl <;> simp
 exact I.fpOk hle (I.hok.fresh hle)
theorem Yin {te : TE} (hg : Gl X "enumerate") (hm : X.mg "enumerate" = none) (hv : bootBuiltins "enumerate" = some (.type "enumerate")) (he : PE X e te) (hs : starEach [e] X.env = (false, eval e X.env) :: starEach [] X.env := by rfl) :
 PI X (.Tuple elts x1 tp) (.Call (.Name "enumerate" p) [e] [] pos) (fun σ H R => te σ H fun v H1 => (∃ a, v = .ref a /\ (∃ xs, SqT X.K H1 a xs) /\ R (ItT X.K a) H1) \/ (∃ a, v = .ref a /\ (∃ xs, SqL X.K H1 a xs) /\ R (ItL X.K a) H1) \/ ∃ z, v = .str z /\ R (ItS z) H1) := by
 intro pins s σ H R I h
 refine Call_ (Va I hg hm hv (PyProof.Rows.callWith_type1 (thn (Y8 he WD hs pos pins s σ H (fun vs H1 => match vs with | [v] => ((∃ a, v = .ref a /\ (∃ xs, SqT X.K H1 a xs) /\ R (ItT X.K a) H1) \/ (∃ a, v = .ref a /\ (∃ xs, SqL X.K H1 a xs) /\ R (ItL X.K a) H1) \/ ∃ z, v = .str z /\ R (ItS z) H1) | _ => False) I h) fun us s1 ⟨vs, H1, I1, r1, q1⟩ => ?_) hs rfl))
 obtain ⟨v, rfl, q⟩ : ∃ v, vs = [v] /\ ((∃ a, v = .ref a /\ (∃ xs, SqT X.K H1 a xs) /\ R (ItT X.K a) H1) \/ (∃ a, v = .ref a /\ (∃ xs, SqL X.K H1 a xs) /\ R (ItL X.K a) H1) \/ ∃ z, v = .str z /\ R (ItS z) H1) := by
  match vs, q1 with
  | [v], q1 => exact ⟨v, rfl, q1⟩
 obtain ⟨u, rfl, ru⟩ := vals1 r1
 rcases q with ⟨a, rfl, ⟨xs, hx⟩, q⟩ | ⟨a, rfl, ⟨xs, hx⟩, q⟩ | ⟨z, rfl, q⟩
 ·cases ru
  obtain ⟨its, rx, px, _⟩ := I1.tuple hx
  exact Yc8 px fun h' b1 b2 hk => Yan I1 Ykw b1 b2 hk q
 ·cases ru
  obtain ⟨its, rx, px, _⟩ := I1.list hx
  exact call_enumerate_list px.isList fun h' b1 b2 _ hk => Yan I1 Ykg b1 b2 hk q
 ·obtain ⟨t, rfl⟩ := ru
  exact call_enumerate_str fun h' b1 b2 _ hk => Yan I1 Yku b1 b2 hk q
def Yoc (me : ME) : MI := fun ρ st => (me ρ st).bind fun p st1 => match YoL p st1 with
 | some s => .ok s st1
 | none => .bad
theorem YbT (hg : Gl X "enumerate") (hm : X.mg "enumerate" = none) (hv : bootBuiltins "enumerate" = some (.type "enumerate")) (he : JE X e me) (hs : starEach [e] X.env = (false, eval e X.env) :: starEach [] X.env := by rfl) :
 JI X (.Tuple elts x1 tp) (.Call (.Name "enumerate" p) [e] [] pos) (Yoc me) := by
 intro pins s σ H R I ⟨as, ρ, st, en, rp, h⟩
 refine Yin hg hm hv he hs pins s σ H R I ⟨as, ρ, st, en, rp, ?_⟩
 refine Ymf.bindE h fun p st1 as1 H1 v x rp1 d h1 => ?_
 cases d with
 | tup e r => exact .inl ⟨_, rfl, ⟨_, e⟩, h1 as1 H1 _ Ext.refl rp1 (YgD e r)⟩
 | str => exact .inr (.inr ⟨_, rfl, h1 as1 H1 _ Ext.refl rp1 Yhr⟩)
 | @ref k a e =>
  have h2 : Ymf X as1 H1 ρ (match (match listAt st1 k with | some xs => some (YoK k xs.length) | none => none) with | some s => .ok s st1 | none => .bad) R := h1
  cases q : listAt st1 k with
  | none => rw [q] at h2; exact h2.elim
  | some xs =>
   rw [q] at h2
   obtain ⟨vs, s1, _⟩ := Vi rp1 e q
   exact .inr (.inl ⟨a, rfl, ⟨vs, s1⟩, h2 as1 H1 _ Ext.refl rp1 (YfS e)⟩)
 | _ => exact h1.elim
end
def Ymm : G2 := fun p q st => match p, q with
 | .int i, .int j => if (small64 i || small64 j) = true then okP (.int (i * j)) st else none
 | .str x, .int k => if -1000000 <= k /\ k <= 1000000 /\ x.length <= 1000000 /\ x.length * k.toNat <= cap then okP (.str (Txt.mul x k)) st else none
 | _, _ => none
theorem Ygj {x : Str} {k : Int} (h1 : -1000000 <= k) (h2 : k <= 1000000) (h3 : x.length <= 1000000) (h4 : x.length * k.toNat <= cap) : MulOk x k := by
 refine ⟨?_, fun h _ => ?_, fun h _ => ?_⟩
 ·rw [ZAN (by omega), ZAN (by omega)]; rfl
 ·have a : (9223372036854 : Int) <= (2 ^ 63 - 1) / k := by
   refine Int.le_ediv_of_mul_le (by omega) ?_
   have : (9223372036854 : Int) * k <= 9223372036854 * 1000000 := Int.mul_le_mul_of_nonneg_left h2 (by decide)
   omega
  omega
 ·unfold Builtin.Str.tooLong
  rw [ZAN]
  have : cap <= sizeLine := Yx
  omega
variable {X : Cx}
theorem Zl : OpR X (binaryOp .Mult) (rM X Ymm) := opM fun pins s σ H x y v u Q as st p q I rx ry rp d1 d2 h => by
 cases d1 with
 | int =>
  cases d2 with
  | int => exact Yja pins s σ H _ _ v u Q I rx ry ⟨as, st, _, _, rp, .int, .int, h⟩
  | _ => show 142
 | str =>
  rename_i x
  cases d2 with
  | int =>
   rename_i k
   have h' : YlU X as H (if -1000000 <= k /\ k <= 1000000 /\ x.length <= 1000000 /\ x.length * k.toNat <= cap then okP (.str (Txt.mul x k)) st else none) Q := h
   by_cases z : -1000000 <= k /\ k <= 1000000 /\ x.length <= 1000000 /\ x.length * k.toNat <= cap
   ·rw [ZAE z] at h'
    show 22
    exact SB.mul (Ygj z.1 z.2.1 z.2.2.1 z.2.2.2) fun t'' k' => ⟨.str _, H, I.tok k', ⟨t'', rfl⟩, h' as H _ Ext.refl rp .str⟩
   ·show 197
  | _ => show 142
 | _ => show 142
theorem YaH {prog : Program} {w : World} {A : Around} {E : VSP} {s : Shared} {x y : Str} {t u : Tok} {Q : VSP} (hy : (y.length == 0) = false) (hsz : x.length <= sizeLine) (hsz2 : (Txt.split x y).length <= sizeLine)
 (hq : ∀ (l : List (Str × Tok)) k, l.map (·.1) = Txt.split x y -> Q (.ref s.heap.objs.size) { s with heap := s.heap.push { cls := .type "list", data := .seq (strValues l).toArray }, toks := k }) :
 wpAny (model prog w) A (call (.builtin "str.split") [.str x t, .str y u]) Q E s := by
 cases h1 : (decide (x.length < y.length) || decide (Builtin.Str.strKind x < Builtin.Str.strKind y))
 ·cases hf : (Builtin.Str.occurrences x y 0 x.length (x.length + 1)).isEmpty
  ·have e : Txt.split x y = Builtin.Str.partsBetween x (Builtin.Str.occurrences x y 0 x.length (x.length + 1)) y.length := (ZAF (ne_true_of_eq_false h1)).trans (ZAF (ne_true_of_eq_false hf))
   refine call_meets F.slot_str_split (typeIs_str _ _ _) F.entry_str_split (F.args_str_split_2 _ _) (meets_str_split_sep x y t u h1 hy hf hsz (by rw [<- e]; exact hsz2)) ?_
   show wants Q E _ { s with toks := _, heap := s.heap.push { cls := .type "list", data := .seq (strsFrom s.toks (Builtin.Str.partsBetween x (Builtin.Str.occurrences x y 0 x.length (x.length + 1)) y.length)).toArray } }
   rw [strsFrom_eq]
   exact hq (numbered s.toks _) _ ((numbered_texts _ _).trans e.symm)
  ·exact call_meets F.slot_str_split (typeIs_str _ _ _) F.entry_str_split (F.args_str_split_2 _ _) (meets_str_split_not_found x y t u h1 hy hf)
    (hq [(x, t)] s.toks ((ZAF (ne_true_of_eq_false h1)).trans (ZAE hf)).symm)
 ·exact call_meets F.slot_str_split (typeIs_str _ _ _) F.entry_str_split (F.args_str_split_2 _ _) (meets_str_split_cannot_occur x y t u h1)
   (hq [(x, t)] s.toks (ZAE h1).symm)
theorem Wu : ∀ (l : List (Str × Tok)), Vals ((l.map (·.1)).map V.str) (strValues l)
 | [] => .nil
 | (a, t) :: r => .cons ⟨t, rfl⟩ (Wu r)
def YmT : GM := fun p ps st => match p, ps with
 | .str x, [.str y] => if x.length <= cap /\ (y.length == 0) = false /\ (Txt.split x y).length <= cap then YmO ((Txt.split x y).map P.str) st else none
 | _, _ => none
section
variable {X : Cx}
theorem Ycc : MtR X "str.split" (rMM X YmT) := mM fun pins s σ H x xs v us Q as st p ps I rx rv rp d1 d2 h => by
 cases d1 with
 | @str z =>
  cases d2 with
  | nil => show 142
  | @cons v1 p1 vs1 ps1 a b =>
   cases b with
   | cons c d => cases a <;> exact h.elim
   | nil =>
    cases a with
    | @str y =>
     show 163
     obtain ⟨u, rfl⟩ : ∃ u, us = [.str y u] := by
      cases rv with
      | cons r1 r2 =>
       cases r2
       obtain ⟨u, rfl⟩ := r1
       exact ⟨u, rfl⟩
     have h' : YlU X as H (if z.length <= cap /\ (y.length == 0) = false /\ (Txt.split z y).length <= cap then YmO ((Txt.split z y).map P.str) st else none) Q := h
     by_cases hz : z.length <= cap /\ (y.length == 0) = false /\ (Txt.split z y).length <= cap
     ·rw [ZAE hz] at h'
      refine YaH hz.2.1 (ZAO hz.1 Yx) (ZAO hz.2.2 Yx) fun l k e => ?_
      have hv := Wu l
      rw [e] at hv
      exact ⟨.ref s.heap.objs.size, _, I.lnew hv (by rw [ZAH]; exact ZAO hz.2.2 Yx), rfl, WL rp (V7 _) h' I.fresh⟩
     ·show 228
    | _ => show 142
 | _ => show 142
end
section
variable {X : Cx} {e v1 v2 : Expr} {vs : List Expr} {me : ME} {mp : Str -> ME} {pos : Pos}
end
def Ypz : GM := fun p ps st => match p, ps with
 | .str x, [] => okP (.bl (Txt.islower x)) st
 | _, _ => none
def Yny : GM := fun p ps st => match p, ps with
 | .str x, [] => okP (.bl (Txt.isalpha x)) st
 | _, _ => none
def Yo4 : GM := fun p ps st => match p, ps with
 | .str x, [.str y] => okP (.bl (Txt.startswith x y)) st
 | _, _ => none
def YnX : GM := fun p ps st => match p, ps with
 | .str x, [.str y] => okP (.int (Txt.count x y)) st
 | _, _ => none
section
variable {X : Cx}
theorem Ydb : MtR X "str.isalpha" (rMM X Yny) := mM fun pins s σ H x xs v us Q as st p ps I rx rv rp d1 d2 h => by
 cases d1 with
 | str =>
  cases d2 with
  | cons a b => show 142
  | nil =>
   cases rv
   show 163
   exact SC.isalpha ⟨.bl _, H, I, rfl, h as H _ Ext.refl rp .bl⟩
 | _ => show 142
theorem Yep : MtR X "str.count" (rMM X YnX) := mM fun pins s σ H x xs v us Q as st p ps I rx rv rp d1 d2 h => by
 cases d1 with
 | @str z =>
  cases d2 with
  | nil => show 142
  | @cons v1 p1 vs1 ps1 a b =>
   cases b with
   | cons c d => cases a <;> exact h.elim
   | nil =>
    cases a with
    | @str y =>
     show 163
     obtain ⟨u, rfl⟩ : ∃ u, us = [.str y u] := by
      cases rv with
      | cons r1 r2 =>
       cases r2
       obtain ⟨u, rfl⟩ := r1
       exact ⟨u, rfl⟩
     exact SC.count ⟨.int _, H, I.tok _, ⟨_, rfl⟩, h as H _ Ext.refl rp .int⟩
    | _ => show 142
 | _ => show 142
end
structure Yp8 (z TI TO i1 i2 : Addr) (f1 f2 : List Addr) : Prop where
 ap : ZAp z TI TO i1 i2
 z1 : z ∉ f1
 t1 : TO ∉ f1
 x1 : i2 ∉ f1
 z2 : z ∉ f2
 t2 : TO ∉ f2
 x2 : i1 ∉ f2
section
variable {prog : Program} {w : World} {A : Around} {E : VSP} {s : Shared} {z TI TO i1 i2 : Addr} {f1 f2 : List Addr} {n1 n2 k : Nat} {P1 P2 : Nat -> Value -> Prop} {S1 S2 : Nat -> Heap -> Prop} {a b : Value}
end
section
variable {prog : Program} {w : World} {A : Around} {E : VSP} {s : Shared} {z TI TO i1 i2 : Addr} {f1 f2 : List Addr} {n1 n2 k : Nat} {P1 P2 : Nat -> Value -> Prop} {S1 S2 : Nat -> Heap -> Prop} {a b : Value}
end
section
variable {X : Cx} {elts : List Expr} {x1 : Nat} {tp p pos : Pos} {e f : Expr}
end
section
variable {X : Cx} {tg : Expr}
def YoA (lo : Int) (n : Nat) : Src := ⟨n, fun i _ => some (if i < n then some (.int (lo - i)) else none)⟩
def Yoq (ps : List P) (st : YlA) : R Src := match ps with
 | [.int i, .int j, .int c] => if small62 i = true /\ small62 j = true /\ c = -1 then .ok (YoA i (i - j).toNat) st else .bad
 | _ => .bad
def YoS (mr : MA) : MI := fun ρ st => (mr ρ st).bind fun ps st1 => Yoq ps st1
end
@[simp] theorem YkD {ρ : Rho} {st : YlA} {r : MA} : YoS r ρ st = (r ρ st).bind fun ps st1 => Yoq ps st1 := rfl
@[simp] theorem Ylq {lo : Int} {n : Nat} : (YoA lo n).n = n := rfl
@[simp] theorem YkL {lo : Int} {n i : Nat} {st : YlA} : (YoA lo n).nx i st = some (if i < n then some (.int (lo - i)) else none) := rfl
inductive ZK where | tup (a : Addr) | lst (a : Addr) | str (z : Str)
section
variable {X : Cx} {elts : List Expr} {x1 : Nat} {tp p pos : Pos} {e f : Expr}
end
section
variable {ρ : Rho} {st : YlA}
end
section
variable {X : Cx}
end
section
variable {X : Cx}
variable {e es : Expr} {lo hi : Option Expr} {pos p2 : Pos}
end
section
variable {ρ : Rho} {st : YlA}
end
section
variable {X : Cx}
end
section
variable {X : Cx}
end
section
variable {prog : Program} {w : World} {A : Around} {E : VSP} {s : Shared}
end
section
variable {prog : Program} {w : World} {A : Around} {R : Result -> Shared -> Prop} {I : Addr} {fp wr : List Addr} {G : Array GenState -> Array GenState -> Prop} {P : Nat -> Value -> Prop} {St : Nat -> Shared -> Prop}
def YnQ (prog : Program) (w : World) (P : Nat -> Value -> Prop) (no : List Addr) (prs : List (Key × Value)) (h : Heap) : Prop :=
 ∀ i v, P i v -> ∃ t k key val, v = .ref t /\ t ∉ no /\ IsTup h t #[key, val] /\ prs[i]? = some (k, val) /\ (Yl0 prog w).is k key = true
theorem YnQ.keep {no : List Addr} {prs : List (Key × Value)} {h h' : Heap} (x : YnQ prog w P no prs h) (k : ∀ b o, b ∉ no -> h.get? b = some o -> h'.get? b = some o) : YnQ prog w P no prs h' := fun i v hv => by
 obtain ⟨t, kk, key, val, e1, e2, ⟨o, ho, c⟩, e4, e5⟩ := x i v hv
 exact ⟨t, kk, key, val, e1, e2, ⟨o, k t o e2 ho, c⟩, e4, e5⟩
end
section
variable {prog : Program} {w : World} {A : Around} {E : VSP} {s : Shared}
theorem PlainL.keep {h h' : Heap} {a : Addr} {xs : Array Value} (x : PlainL h a xs) (k : ∀ o, h.get? a = some o -> h'.get? a = some o) : PlainL h' a xs :=
 let ⟨o, n, e, c⟩ := x; ⟨o, n, k o e, c⟩
end
section
variable {X : Cx} {pins : LAO} {σ : St} {H : Hp} {s : Shared}
end
section
variable {X : Cx} {e : Expr} {m : MA} {p pos : Pos}
end
section
variable {X : Cx}
end
section
variable {prog : Program} {w : World} {A : Around} {E : VSP} {s : Shared}
abbrev Ypd (h : Heap) (z TI TO a : Addr) (f : Bool) : Prop := h.get? z = some { cls := .type "zip", dict := none, data := .fields #[rawInt a, .bool f, .bool false, .ref TI, .ref TO], slots := #[] }
end
section
variable {prog : Program} {w : World} {A : Around} {E : VSP} {s : Shared} {z TI TO i1 i2 al : Addr} {fl : Bool} {f1 f2 : List Addr} {n1 n2 k : Nat} {P1 P2 : Nat -> Value -> Prop} {S1 S2 : Nat -> Heap -> Prop}
def ZSt (z TI TO i1 i2 : Addr) (lo : Addr) (S1 S2 : Nat -> Heap -> Prop) (i : Nat) (h : Heap) : Prop :=
 (IsZip h z TI TO .none \/ ∃ a f, Ypd h z TI TO a f /\ lo <= a /\ ∃ o, h.get? a = some o) /\ IsPair h TI (.ref i1) (.ref i2) /\ (∃ x y, IsPair h TO x y) /\ S1 i h /\ S2 i h
theorem ZSt.keep {lo : Addr} {h h' : Heap} {d : Addr} {i : Nat} (D1 : Draws prog w A i1 f1 n1 P1 S1) (D2 : Draws prog w A i2 f2 n2 P2 S2) (st : ZSt z TI TO i1 i2 lo S1 S2 i h) (e : ∀ b o, b ≠ d -> h.get? b = some o -> h'.get? b = some o) (dz : z ≠ d) (dTI : TI ≠ d) (dTO : TO ≠ d) (d1 : d ∉ f1) (d2 : d ∉ f2) (dl : d < lo) : ZSt z TI TO i1 i2 lo S1 S2 i h' := by
 obtain ⟨hz, hTI, ⟨u, v, hTO⟩, h1, h2⟩ := st
 refine ⟨?_, e _ _ dTI hTI, ⟨u, v, e _ _ dTO hTO⟩, D1.frame _ _ _ h1 fun b hb o q => e b o (fun z => d1 (z ▸ hb)) q, D2.frame _ _ _ h2 fun b hb o q => e b o (fun z => d2 (z ▸ hb)) q⟩
 rcases hz with hz | ⟨a, f, hz, la, o, ho⟩
 ·exact .inl (e _ _ dz hz)
 ·exact .inr ⟨a, f, e _ _ dz hz, la, o, e a o (ZBV (ZAM dl la)) ho⟩
end
section
variable {prog : Program} {w : World} {A : Around} {R : Result -> Shared -> Prop} {z TI TO i1 i2 : Addr} {f1 f2 : List Addr} {P1 P2 : Nat -> Value -> Prop} {S1 S2 : Nat -> Heap -> Prop}
end
section
variable {prog : Program} {w : World} {A : Around} {E : VSP} {s : Shared}
end
section
variable {X : Cx} {e f : Expr} {p p2 pos pos2 : Pos}
end
section
variable {X : Cx} {e f : Expr} {p p2 pos pos2 : Pos} {m : MA}
end
section
variable {X : Cx} {e : Expr} {pos p2 : Pos} {me : ME}
end
section
variable {ρ : Rho} {st : YlA}
end
section
variable {X : Cx}
end
section
variable {ρ : Rho} {st : YlA}
end
def YnF (z : Str) : List V := z.cps.toList.map fun c => V.str ⟨#[c]⟩
theorem YeW (z : Str) : (YnF z).length = z.cps.size := by unfold YnF; simp
theorem Yer {z : Str} {acc : Array Value} (h : ItemsOf (SignAt z) acc z.cps.size) : Vals (YnF z) acc.toList := by
 show 235
 have gen : ∀ (cs : List Nat) (vs : List Value), cs.length = vs.length -> (∀ (i : Nat) v, vs[i]? = some v -> ∃ c u, cs[i]? = some c /\ v = .str ⟨#[c]⟩ u) -> Vals (cs.map fun c => V.str ⟨#[c]⟩) vs := by
  intro cs
  induction cs with
  | nil =>
   intro vs hl _
   cases vs with
   | nil => exact .nil
   | cons _ _ => cases hl
  | cons c cs ih =>
   intro vs hl hv
   cases vs with
   | nil => cases hl
   | cons v vs =>
    obtain ⟨d, u, e1, e2⟩ := hv 0 v rfl
    have e1' : some c = some d := e1
    cases e1'
    exact .cons ⟨u, e2⟩ (ih vs (Nat.succ.inj hl) fun i w hw => hv (i + 1) w hw)
 refine gen z.cps.toList acc.toList (by simp [h1]) fun i v hv => ?_
 obtain ⟨c, u, e1, e2⟩ := h2 i v (by simpa using hv)
 exact ⟨c, u, by simpa using e1, e2⟩
theorem YeM {K : Frag} {as : List Addr} {H : Hp} (z : Str) : Dens K as H (YnF z) (Ynq z) := by
 unfold YnF Ynq
 induction z.cps.toList with
 | nil => exact .nil
 | cons c cs ih => exact .cons .str ih
section
variable {prog : Program} {w : World} {A : Around} {E : VSP} {s : Shared}
theorem Ycj {z : Str} {t : Tok} {R : Result -> Shared -> Prop} (hh : A.handled = none) (hz : z.cps.size <= sizeLine)
 (hR : ∀ h' tk acc c1, (∀ b o, s.heap.get? b = some o -> h'.get? b = some o) -> h'.get? s.heap.objs.size = some { cls := .type "list", dict := none, data := .seq acc c1, slots := #[] } -> ItemsOf (SignAt z) acc z.cps.size -> R (.ok (.ret (.ref s.heap.objs.size))) { s with heap := h', toks := tk }) :
 codeAny (model prog w) A (.builtin "proto.collect" ⟨[.str z t], []⟩) R s := by
 apply codeAny_builtin F.entry_proto_collect
 rw [Around.under_plainId F.plain_proto_collect _]
 apply ZAA (m := newList [])
 refine ZAt ?_
 refine ZAC ⟨plainId_quiet F.plain_list_iadd _, ?_⟩
 apply codeAny_builtin F.entry_list_iadd
 rw [Around.under_plainId F.plain_list_iadd _]
 have g0 : (s.heap.push { cls := .type "list", data := .seq ([] : List Value).toArray }).get? s.heap.objs.size = some { cls := .type "list", data := .seq #[] } := ZAK _ rfl
 show wpAny _ _ (Builtin.List.listExtendWith (Value.ref s.heap.objs.size) (Value.str z t) (Value.ref s.heap.objs.size)) _ _ _
 exact wpAny_extend_str (s := { s with heap := s.heap.push { cls := .type "list", data := .seq ([] : List Value).toArray } }) hh z t s.heap.objs.size (.ref s.heap.objs.size) _ g0 (fun h1 tk acc c1 hk hS hi => hR h1 tk acc c1 (fun b o e => hk b o (ZAP (ZAG e)) (ZAB _ e)) hS hi) hz
theorem gathered {z : Str} {t : Tok} {Q : List Value -> Shared -> Prop} (hh : A.handled = none) (hz : z.cps.size <= sizeLine)
 (hQ : ∀ h' tk acc, (∀ b o, s.heap.get? b = some o -> h'.get? b = some o) -> s.heap.objs.size <= h'.objs.size -> ItemsOf (SignAt z) acc z.cps.size -> Q acc.toList { s with heap := h', toks := tk }) : wpAny (model prog w) A (collect (.str z t)) Q E s := by
 unfold collect
 apply ZAA
 apply ZCc
 refine Ycj hh hz fun h1 tk acc c1 hk hS hi => ?_
 refine ZAA (m := load s.heap.objs.size) (ZCL hS ?_)
 exact ZAC (hQ h1 tk acc hk (ZBd (ZAG hS)) hi)
theorem Jn (z : Str) (t : Tok) (hz : z.cps.size <= sizeLine) :
 Meets (Builtin.«tuple.__new__» ⟨[.type "tuple", .str z t], []⟩) (fun A R s => A.handled = none /\ ∀ (h' : Heap) (tk : Nat) (acc : Array Value), (∀ b o, s.heap.get? b = some o -> h'.get? b = some o) -> s.heap.objs.size <= h'.objs.size -> ItemsOf (SignAt z) acc z.cps.size ->
  R (.ok (.ret (.ref h'.objs.size))) { s with heap := h'.push { cls := .type "tuple", data := .seq acc }, toks := tk }) :=
 .of_wp fun prog w A R s h => by
  obtain ⟨hh, h⟩ := h
  have f1 := sub_tuple_self
  have f2 := init_tuple_lookup
  have f3 := madeHere_tuple
  have f4 : s.TypeIs (.str z t) "str" := rfl
  have f5 : A.in1.handled = none := hh
  wp_walk using ZBe f4, gathered (t := t) f5 hz
  intro h1 tk acc hk hsz hi
  apply ZAA (m := pure acc.toList.toArray)
  apply ZAC
  have ea : acc.toList.toArray = acc := by simp
  show wpAny _ _ (Builtin.Tuple.tupleExact acc.toList.toArray >>= fun v => ret v) _ _ _
  rw [ea]
  unfold Builtin.Tuple.tupleExact
  refine ZAA (ZAt ?_ (by show acc.size <= sizeLine; rw [hi.1]; exact hz))
  exact ZAC ⟨_, rfl, h h1 tk acc hk hsz hi⟩
theorem J7 {Q : VSP} (hh : A.handled = none) (z : Str) (t : Tok) (hz : z.cps.size <= sizeLine)
 (h : ∀ (h' : Heap) (tk : Nat) (acc : Array Value), (∀ b o, s.heap.get? b = some o -> h'.get? b = some o) -> s.heap.objs.size <= h'.objs.size -> ItemsOf (SignAt z) acc z.cps.size -> Q (.ref h'.objs.size) { s with heap := h'.push { cls := .type "tuple", data := .seq acc }, toks := tk }) :
 wpAny (model prog w) A (call (.type "tuple") [.str z t]) Q E s :=
 callType_new F.called_tuple (by decide) (F.typeCall_tuple_1 _) (F.newCall_tuple_1 _) (fun obj => F.args_object_init_2 obj _) F.entry_tuple_new
  (Jn z t hz) ⟨hh, fun h1 tk acc hk hsz hi => ⟨⟨_, ZAK _ rfl, rfl⟩, h h1 tk acc hk hsz hi⟩⟩
end
section
variable {X : Cx}
def Yne : GC := fun ps st => match ps with
 | [.str z] => if z.cps.size <= cap then okP (.tup (Ynq z)) st else none
 | _ => Ynm ps st
theorem Yfm (hc : X.calm = true) : Ymw X (.type "tuple") (rMC X Yne) := by
 intro pins s σ H xs us Q I r ⟨as, st, ps, rp, d, h⟩
 have old : YlU X as H (Ynm ps st) Q -> wpAny (model X.prog X.w) X.A (call (.type "tuple") us) (EP X pins σ Q) X.xe s := fun h' => YgI pins s σ H xs us Q I r ⟨as, st, ps, rp, d, h'⟩
 match ps, d, h, old with
 | [.str z], d, h, old =>
  have h' : YlU X as H (if z.cps.size <= cap then okP (.tup (Ynq z)) st else none) Q := h
  by_cases q : z.cps.size <= cap
  ·rw [ZAE q] at h'
   obtain ⟨x, rfl, dx⟩ := d.one
   cases dx
   obtain ⟨u, rfl, ru⟩ := vals1 r
   obtain ⟨t, rfl⟩ : ∃ t, u = .str z t := ru
   refine J7 (I.ok.hd hc) z t (ZAO q Yx) fun h1 tk acc hk hsz hi => ?_
   have hf : H h1.objs.size = none := I.hok.fresh hsz
   refine ⟨.ref h1.objs.size, _, I.laid (t' := tk) (o := .tup (YnF z)) (fun b o e => ZAB _ (hk b o e)) hsz ?_, rfl, h' as _ _ (Ext.laid hf) (rp.laid hf) (.tup (.of Ym) ((YeM z).ext (Ext.laid hf)))⟩
   refine ⟨by rw [YeW]; exact ZAO q Yx, acc.toList, Yer hi, ?_⟩
   have := IsTup.new h1 acc
   show 172
  ·rw [ZAF q] at h'; exact h'.elim
 | [], _, h, old => exact old h
 | [.non], _, h, old => exact old h
 | [.bl _], _, h, old => exact old h
 | [.int _], _, h, old => exact old h
 | [.ref _], _, h, old => exact old h
 | [.tup _], _, h, old => exact old h
 | _ :: _ :: _, _, h, old => exact old (by simp only [Yne] at h; exact h)
end
section
variable {prog : Program} {w : World} {A : Around} {E : VSP} {s : Shared}
end
section
variable {X : Cx} {e : Expr} {me : ME} {p1 p2 c1 c2 : Pos}
end
section
variable {X : Cx} {o e : Expr} {me mx : ME} {apos cpos : Pos}
end
section
variable {ρ : Rho} {st : YlA}
end
end Mi
namespace Mi
open PySem PySem.Spec L2
open PyProof.Rows hiding St
theorem V2 {P' : Program} {w : World} {H : Hp} {h : Heap} {a : Addr} {o : HO} (x : Yme P' w H h a o) : ∃ u, h.get? a = some u := by
 cases o with
 | lst xs => obtain ⟨_, _, _, _, e⟩ := x; exact ⟨_, e⟩
 | tup xs => obtain ⟨_, _, _, ob, e, _⟩ := x; exact ⟨_, e⟩
 | dK kvs => obtain ⟨_, _, _, _, o, _, _, e, _⟩ := x; exact ⟨_, e⟩
 | dT kvs => obtain ⟨_, _, _, _, o, _, _, e, _⟩ := x; exact ⟨_, e⟩
 | set S n => obtain ⟨o, _, _, _, e, _⟩ := x; exact ⟨_, e⟩
 | ins C dx fs => obtain ⟨_, _, _, e, _⟩ := x; exact ⟨_, e⟩
 | own y => exact x
 | xd fs => obtain ⟨_, ⟨_, _, _, e, _⟩, _⟩ := x; exact ⟨_, e⟩
 | rng lo hi => obtain ⟨_, _, _, e⟩ := x; exact ⟨_, e⟩
 | frz ob u => obtain ⟨e, _⟩ := x; exact ⟨_, e⟩
 | tbl ps => exact ⟨_, x⟩
 | met f y => exact ⟨_, x⟩
 | ext φ => exact x.2.1
theorem JQ (f : Array Value -> Array Value) (o : Obj) : (Obj.mapFields f o).dict = o.dict := by
 obtain ⟨c, d, dt, sl⟩ := o
 cases dt <;> rfl
structure Yod (l : List Env) (a : Addr) (Ts : List Addr) (h h' : Heap) : Prop where
 keep : ∀ b o, h.get? b = some o -> b ≠ a -> b ∉ Ts -> b ∉ frs l -> h'.get? b = some o
 slot : ∀ b o, h.get? b = some o -> b ∈ frs l -> ∃ sl, h'.get? b = some { o with slots := sl }
section
variable {M : Model} {A : Around} {E : VSP} {s : Shared} {base : Heap} {env e0 : Env} {l r : List Env} {L a : Addr} {oe : Obj} {vs : Array Value}
theorem YcT {Q : VSP} (hfr : A.frames = some l) (hl : s.heap.FunFrames base l) (hle : l = e0 :: r) (h0 : e0.frame = some L) (hf : env.frame = some L)
 (h : ∀ h', Heap.SlotsOnly (frs l) s.heap h' -> Q (.ref L) { s with heap := h' }) : wpAny M A (PySem.frameOf env) Q E s := by
 subst hle
 unfold PySem.frameOf
 refine ZAA (wpAny_frameEnvs hfr ?_)
 have hdw : ((e0 :: r).dropWhile fun x => x.frame != env.frame) = e0 :: r := by simp [List.dropWhile, h0, hf]
 rw [hdw]
 unfold frameObject
 refine ZAA (ZAA (wpAny_readyFrames_fun hl fun h₁ hs₁ => ZAC ?_))
 rw [h0]
 exact ZAC (h h₁ hs₁)
theorem Yo9 {Q : Unit -> Shared -> Prop} {head : Value} {hadNext : Bool} (hfr : A.frames = some l) (hl : s.heap.FunFrames base l) (hle : l = e0 :: r) (h0 : e0.frame = some L) (hf : env.frame = some L)
 (he : s.heap.get? a = some oe) (hd : oe.data = .fields vs) (hsz : 1 < vs.size)
 (h : ∀ h' T oT ts, h'.get? a = some (oe.mapFields (·.setIfInBounds 1 (.ref T))) -> s.heap.get? T = none -> h'.get? T = some oT -> oT.data = .fields ts -> ts[3]? = some (rawInt L) ->
  (∀ b o, b ≠ a -> b ∉ frs l -> s.heap.get? b = some o -> h'.get? b = some o) -> (∀ b o, b ∈ frs l -> s.heap.get? b = some o -> ∃ sl, h'.get? b = some { o with slots := sl }) -> Q () { s with heap := h' }) :
 wpAny M A (do let a' <- PySem.frameOf env; let pl <- entryPlaceOf L hadNext; let b <- EntryCells.newEntry head a' .none (rawInt L) .none pl; setField (.ref a) 1 b) Q E s := by
 have hene : a ∉ frs l := fun hm => by
  obtain ⟨_, o, ho, hnf⟩ := hl.mem hm
  rw [he] at ho; cases ho; exact hnf vs hd
 refine ZAA (YcT hfr hl hle h0 hf fun h₁ hs₁ => ?_)
 refine ZAA (wpAny_entryPlaceOf fun pl hpl => ?_)
 unfold EntryCells.newEntry newFields
 refine ZAA (ZAt ?_ (hpl.sizeOk5 _ _ _ _ _))
 have he₁ : h₁.get? a = some oe := (hs₁.2.1 a hene).trans he
 generalize hob : ({ cls := .type "traceback", dict := none, data := .fields ([head, .ref L, .none, rawInt L, .none] ++ (if pl.isEmpty then List.replicate 6 Value.none else pl)).toArray } : Obj) = ob
 have hbd : ob.data = .fields ([head, .ref L, .none, rawInt L, .none] ++ (if pl.isEmpty then List.replicate 6 Value.none else pl)).toArray := by rw [<- hob]
 have hfree : ob.isFreed = false := by rw [<- hob]; rfl
 have he₂ := ZAB (h := h₁) ob he₁
 refine wpAny_setField he₂ hd hsz ?_
 have hTe : h₁.objs.size ≠ a := ZBV (ZAG he₁)
 have hd₃ := Obj.data_mapFields hd (·.setIfInBounds 1 (Value.ref h₁.objs.size))
 have keep : ∀ b o, b ≠ a -> h₁.get? b = some o -> ((h₁.push ob).update a (Obj.mapFields (·.setIfInBounds 1 (Value.ref h₁.objs.size)))).get? b = some o := fun b o hb e => by
  rw [ZAY _ _ (ZBA hb)]
  exact ZAB _ e
 refine h _ h₁.objs.size ob _ (ZAq _ he₂ (Obj.isFreed_of_fields hd₃)) (ZBh (by rw [hs₁.1]; exact ZAI _)) ((ZAY _ _ (ZBA hTe)).trans (ZAK h₁ hfree)) hbd ?_ (fun b o hb hbf e => keep b o hb ((hs₁.2.1 b hbf).trans e)) fun b o hb e => ?_
 ·first | (simp; done) | (rcases hpl with rfl | ⟨_, _, _, _, _, _, _, rfl⟩ <;> simp)
 ·obtain ⟨sl, e1⟩ := hs₁.2.2 b o e
  refine ⟨sl, keep b _ (fun z => hene (z ▸ hb)) e1⟩
end
section
variable {M : Model} {A : Around} {E : VSP} {X : Cx} {pins : LAO} {σ : St} {H : Hp} {s : Shared} {a : Addr} {C : Value} {od : Option Addr} {N : Addr -> Prop}
theorem untracked (I : Inv X pins σ H s) {T : Addr} (z : s.heap.get? T = none) : H T = none := by
 cases q : H T with
 | none => rfl
 | some u =>
  obtain ⟨u', hu⟩ := V2 (I.hok T u q)
  rw [z] at hu; cases hu
theorem Ym7 {Q : Unit -> Shared -> Prop} (I : Inv X pins σ H s) (f : YmJ N H a C od s.heap)
 (hQ : ∀ h' Ts, (∀ t ∈ Ts, N t /\ H t = none /\ t ≠ a /\ ∃ o vs, s.heap.get? t = some o /\ o.data = .fields vs) -> Yod X.stack a Ts s.heap h' -> YmJ (fun b => N b \/ s.heap.get? b = none) H a C od h' -> Q () { s with heap := h' }) :
 wpAny M A (setFlight (.ref a) none) Q E s := by
 obtain ⟨na, ha, oe, vs, h1, h2, h3, h4, h5⟩ := f
 rcases h5 with h5 | ⟨T, oT, ts, g1, g2, g3, g4, g5, g6, g7⟩
 ·unfold setFlight
  refine ZAA (ZBR h1 h4 h5 ?_)
  rw [ZAF (by decide)]
  exact ZAC (hQ s.heap [] (fun _ z => nomatch z) ⟨fun b o e _ _ _ => e, fun b o e _ => ⟨o.slots, e⟩⟩ ⟨.inl na, ha, oe, vs, h1, h2, h3, h4, .inl h5⟩)
 ·have hsz3 : 3 < ts.size := g7
  refine wpAny_setFlight_none h1 h4 g1 g5 g6 hsz3 ?_
  have other : ∀ b o, b ≠ T -> s.heap.get? b = some o -> (s.heap.update T (Obj.mapFields (·.setIfInBounds 3 Value.none))).get? b = some o := fun b o hb e => (ZAY _ _ (ZBA hb)).trans e
  refine hQ _ [T] (fun t z => by rw [List.mem_singleton.mp z]; exact ⟨g2, g3, g4, oT, ts, g5, g6⟩) ⟨fun b o e hb hbT hbf => other b o (by simpa using hbT) e, fun b o e hb => ⟨o.slots, other b o (fun z => ?_) e⟩⟩
   ⟨.inl na, ha, oe, vs, other a oe (Ne.symm g4) h1, h2, h3, h4, .inr ⟨T, _, _, g1, .inl g2, g3, g4, Heap.get?_update_self _ g5 (Obj.isFreed_of_fields (Obj.data_mapFields g6 _)), Obj.data_mapFields g6 _, by simp [hsz3]⟩⟩
  obtain ⟨_, o', q3, q4⟩ := I.stack.mem hb
  rw [z, g5] at q3; cases q3
  exact q4 ts g6
theorem Ynx {Q : Unit -> Shared -> Prop} {env e0 : Env} {r : List Env} {L : Addr} (I : Inv X pins σ H s) (f : YmJ N H a C od s.heap) (hfr : A.frames = some X.stack) (hst : X.stack = e0 :: r) (h0 : e0.frame = some L) (hf : env.frame = some L)
 (hQ : ∀ h' Ts, (∀ t ∈ Ts, N t /\ H t = none /\ t ≠ a /\ ∃ o vs, s.heap.get? t = some o /\ o.data = .fields vs) -> Yod X.stack a Ts s.heap h' -> YmJ (fun b => N b \/ s.heap.get? b = none) H a C od h' -> Q () { s with heap := h' }) :
 wpAny M A (noteFrame (.ref a) env) (fun _ s₂ => wpAny M A (setFlight (.ref a) none) Q E s₂) E s := by
 obtain ⟨na, ha, oe, vs, h1, h2, h3, h4, h5⟩ := f
 have fin : ∀ (Ts : List Addr) (h₀ : Heap), (∀ t ∈ Ts, N t /\ H t = none /\ t ≠ a /\ ∃ o vs, s.heap.get? t = some o /\ o.data = .fields vs) -> h₀.get? a = some oe -> (∀ b o, b ∉ Ts -> s.heap.get? b = some o -> h₀.get? b = some o) -> (∀ b, s.heap.get? b = none -> h₀.get? b = none) -> (∀ b, h₀.get? b = none -> s.heap.get? b = none) ->
  h₀.FunFrames X.base X.stack -> 1 < vs.size -> ∀ (head : Value) (hadNext : Bool), wpAny M A (do let a' <- PySem.frameOf env; let pl <- entryPlaceOf L hadNext; let b <- EntryCells.newEntry head a' .none (rawInt L) .none pl; setField (.ref a) 1 b)
   (fun _ s₂ => wpAny M A (setFlight (.ref a) none) Q E s₂) E { s with heap := h₀ } := fun Ts h₀ hT he hk hno hno' hff hsz head hadNext => by
  refine Yo9 (s := { s with heap := h₀ }) hfr hff hst h0 hf he h4 hsz fun h' T oT ts e1 e2 e3 e4 e5 e6 e7 => ?_
  have hTa : T ≠ a := fun z => by have e2' : h₀.get? T = none := e2; rw [z, he] at e2'; cases e2'
  have hsz3 : 3 < ts.size := (ZBJ.mp e5).1
  have d1 := Obj.data_mapFields h4 (·.setIfInBounds 1 (Value.ref T))
  have sT : s.heap.get? T = none := hno' T e2
  refine wpAny_setFlight_none (s := { s with heap := h' }) e1 d1 (tb := T) (by simp [hsz]) e3 e4 hsz3 ?_
  have other : ∀ b o, b ≠ T -> h'.get? b = some o -> (h'.update T (Obj.mapFields (·.setIfInBounds 3 Value.none))).get? b = some o := fun b o hb e => (ZAY _ _ (ZBA hb)).trans e
  have nT : ∀ b o, s.heap.get? b = some o -> b ≠ T := fun b o e z => by rw [z, sT] at e; cases e
  have nfr : ∀ b, b ∈ frs X.stack -> b ∉ Ts := fun b hb z => by
   obtain ⟨_, _, _, o, ws, q1, q2⟩ := hT b z
   obtain ⟨_, o', q3, q4⟩ := I.stack.mem hb
   rw [q1] at q3; cases q3
   exact q4 ws q2
  refine hQ _ Ts hT ⟨fun b o e hb hbT hbf => other b o (nT b o e) (e6 b o hb hbf (hk b o hbT e)), fun b o e hb => ?_⟩ ⟨.inl na, ha, _, _, other a _ (Ne.symm hTa) e1, ?_, ?_, d1, .inr ⟨T, _, _, by simp [hsz], .inr sT, untracked I sT, hTa, Heap.get?_update_self _ e3 (Obj.isFreed_of_fields (Obj.data_mapFields e4 _)), Obj.data_mapFields e4 _, by simp [hsz3]⟩⟩
  ·obtain ⟨sl, e8⟩ := e7 b o hb (hk b o (nfr b hb) e)
   exact ⟨sl, other b _ (nT b o e) e8⟩
  ·rw [Obj.cls_mapFields]; exact h2
  ·rw [JQ]; exact h3
 rcases h5 with h5 | ⟨T, oT, ts, g1, g2, g3, g4, g5, g6, g7⟩
 ·unfold noteFrame
  simp only [hf]
  refine ZAA (ZBR h1 h4 h5 ?_)
  rw [ZAF (by decide)]
  exact fin [] s.heap (fun _ z => nomatch z) h1 (fun b o _ e => e) (fun b e => e) (fun b e => e) I.stack (ZBJ.mp h5).1 _ _
 ·unfold noteFrame
  simp only [hf]
  refine ZAA (ZBR h1 h4 g1 ?_)
  rw [if_pos (show (Value.ref T != Value.none) = true from by simp)]
  refine wpAny_bind (wpAny_field g5 g6 (x := ts[3]) (by simp [g7]) ?_)
  by_cases hfl : (ts[3] == rawInt L) = true
  ·rw [ZAE hfl]
   exact ZAC (Ym7 I ⟨na, ha, oe, vs, h1, h2, h3, h4, .inr ⟨T, oT, ts, g1, g2, g3, g4, g5, g6, g7⟩⟩ hQ)
  rw [ZAF hfl]
  refine ZAA (wpAny_setField g5 g6 g7 ?_)
  have other : ∀ b, b ≠ T -> (s.heap.update T (Obj.mapFields (·.setIfInBounds 3 Value.none))).get? b = s.heap.get? b := fun b hb => ZAY _ _ (ZBA hb)
  have self : (s.heap.update T (Obj.mapFields (·.setIfInBounds 3 Value.none))).get? T = some _ := ZAq _ g5 (Obj.isFreed_of_fields (Obj.data_mapFields g6 _))
  refine fin [T] _ (fun t z => by rw [List.mem_singleton.mp z]; exact ⟨g2, g3, g4, oT, ts, g5, g6⟩) ((other a (Ne.symm g4)).trans h1) (fun b o hb e => (other b (by simpa using hb)).trans e) (fun b e => ?_) (fun b e => ?_) (I.stack.of_keeps fun b o hb hnf => ⟨o, (other b fun z => ?_).trans hb, rfl⟩) (Array.getElem?_eq_some_iff.mp g1).1 _ _
  ·exact (other b (fun z => by rw [z, g5] at e; cases e)).trans e
  ·by_cases z : b = T
   ·rw [z, self] at e; cases e
   ·rw [other b z] at e; exact e
  ·rw [z, g5] at hb; cases hb; exact hnf ts g6
theorem Yod.hok {Ts : List Addr} {h' : Heap} (I : Inv X pins σ H s) (n : Yod X.stack a Ts s.heap h') (ha : H a = none) (hT : ∀ t ∈ Ts, H t = none) : HOk X.prog X.w H h' := fun b u e => by
 refine (I.hok b u e).stay (fun c v hc q => ?_) (fun _ q => q) fun _ _ q => q
 have tr : ∃ z, H c = some z := by
  show 239
  ·exact ⟨_, e⟩
  ·exact ⟨_, hc⟩
 obtain ⟨z, hz⟩ := tr
 refine n.keep c v q (fun y => ?_) (fun y => ?_) fun y => ?_
 ·rw [y, ha] at hz; cases hz
 ·rw [hT c y] at hz; cases hz
 ·rw [I.stkFree c y] at hz; cases hz
end
end Mi
namespace Mi
open PySem PySem.Spec L2
open PyProof.Rows hiding St
def CX1 (P' : Program) (w : World) : CXT := fun outer H s E e s' => ∃ a C od H', e = .ref a /\ s'.os = s.os /\ AllBare s'.gens /\ Un (frs outer) [] H H' s.heap s'.heap /\ HOk P' w H' s'.heap /\
 YmJ (fun b => s.heap.get? b = none) H' a C od s'.heap /\ E C od H'
section
variable {P' : Program} {w : World} {K : Frag} {mg : SOV} {base : Heap} {N : List Str} {qual : Str} {scope : Scope} {f : Addr} {cd : Value} {A : Around} {outer : List Env} {s₀ : Shared} {H₀ : Hp} {E : XK}
theorem leave1 {pins : LAO} {σ : St} {H : Hp} {s : Shared} {a : Addr} {C : Value} {od : Option Addr} (I : Inv (cxOf (CX1 P' w) P' w K mg base N qual scope f cd A outer s₀ H₀ E) pins σ H s)
 (fl : YmJ (Nw (cxOf (CX1 P' w) P' w K mg base N qual scope f cd A outer s₀ H₀ E) pins) H a C od s.heap) (hE : E C od H) : (cxOf (CX1 P' w) P' w K mg base N qual scope f cd A outer s₀ H₀ E).xe (.ref a) s := by
 show wpAny _ _ (leaving _ _) _ _ _
 unfold leaving
 refine ZAA (Ynx I fl I.ok.frames rfl rfl rfl fun h' Ts hT n f' => ?_)
 have noex : ∀ b : Addr, b ∉ (cxOf (CX1 P' w) P' w K mg base N qual scope f cd A outer s₀ H₀ E).ex := fun b z => absurd (show b ∈ ([] : List Addr) from z) (by simp)
 have nw : ∀ b, Nw (cxOf (CX1 P' w) P' w K mg base N qual scope f cd A outer s₀ H₀ E) pins b -> s₀.heap.get? b = none := fun b z => z.1.elim (fun y => absurd y (noex b)) fun y => y
 have ne : ∀ b o, s₀.heap.get? b = some o -> b ≠ a /\ b ∉ Ts := fun b o e =>
  ⟨fun z => (by rw [z, nw a fl.na] at e; cases e), fun z => (by rw [nw b (hT b z).1] at e; cases e)⟩
 have ins : ∀ b, b ∈ frs outer -> b ∈ frs (cxOf (CX1 P' w) P' w K mg base N qual scope f cd A outer s₀ H₀ E).stack := fun b hb => by
  show 219
  exact ZAu.mpr ⟨env, .tail _ he, hf⟩
 have neL : ∀ b o, s₀.heap.get? b = some o -> b ∉ frs outer -> b ∉ frs (cxOf (CX1 P' w) P' w K mg base N qual scope f cd A outer s₀ H₀ E).stack := fun b o e hb z =>
  (ZAT.mp (I.stkSub b z)).elim (ZAP (ZAM (ZAG e) I.ok.above)) hb
 refine ⟨a, C, od, H, rfl, I.os, I.bare, ⟨fun b o e nn hb hx => ?_, fun b o e nn hb hx => ?_, fun b o e nn hx => I.base.free b o e nn (noex b), fun b o e hx => ?_, I.base.tups, I.base.frzs, I.base.tbls⟩,
  n.hok I fl.ha (fun t z => (hT t z).2.1), f'.mono fun b z => ?_, hE⟩
 ·exact n.keep b o (I.base.keep b o e nn hb (noex b)) (ne b o e).1 (ne b o e).2 (neL b o e hb)
 ·obtain ⟨sl, e1⟩ := I.base.slot b o e nn hb (noex b)
  obtain ⟨sl', e2⟩ := n.slot b _ e1 (ins b hb)
  exact ⟨sl', e2⟩
 ·obtain ⟨o', e1⟩ := I.base.there b o e (noex b)
  by_cases hb : b ∈ frs outer
  ·obtain ⟨sl', e2⟩ := n.slot b _ e1 (ins b hb)
   exact ⟨_, e2⟩
  ·exact ⟨o', n.keep b o' e1 (ne b o e).1 (ne b o e).2 (neL b o e hb)⟩
 ·rcases z with z | z
  ·exact nw b z
  ·cases q : s₀.heap.get? b with
   | none => rfl
   | some o =>
    obtain ⟨o', e1⟩ := I.base.there b o q (noex b)
    have z' : s.heap.get? b = none := z
    rw [e1] at z'; cases z'
end
def Yn1 (n : Nat) (m : MS) : MF := fun ps st => match m (ps.map some ++ List.replicate (n - ps.length) none) st with
 | .nx _ st' => .ok .non st'
 | .rt p st' => .ok p st'
 | .exc x _ st' => .exc x st'
 | _ => .bad
def Ypm (K : Frag) (n : Nat) (mf : MF) : Sp := fun vs H Q E => vs.length = n /\ ∃ as st ps, Rep K as st H /\ Dens K as H vs ps /\ match mf ps st with
 | .ok p st' => ∀ as' H' v, Ext as H as' H' -> Rep K as' st' H' -> Den K as' H' v p -> Q v H'
 | .exc x st' => ∀ as' H' C od, nsIn K mainGlobals x.1 = some (some (.ref C)) -> Yoh K as' H' od x.2 -> Ext as H as' H' -> Rep K as' st' H' -> E (.ref C) od H'
 | .bad => False
abbrev FM1 (P' : Program) (w : World) (K : Frag) (mg : SOV) (base : Heap) (k : Nat) (f : Addr) (fd : FuncData) (ps : List Str) (mf : MF) : Prop := Ynb P' w K mg base (CX1 P' w) k f fd ps (Ypm K ps.length mf)
section
variable {P' : Program} {w : World} {K : Frag} {mg : SOV} {base : Heap}
theorem Fun.mirror1 {x qual : Str} {st : Stmt} {f : Addr} {fd : FuncData} {N ps : List Str} {k : Nat} {m : MS} (F : Fun K x qual st f fd) (S : YlI N ps (Ylx st))
 (hbody : ∀ (cdv : Value) (A : Around) (outer : List Env) (s : Shared) (H : Hp) (E : XK), Ymb k (A.deeper (envOfC qual (Ylx st) s.heap.objs.size f cdv)) -> JSs (cxOf (CX1 P' w) P' w K mg base N qual (Ylx st) f cdv A outer s H E) (YlE st) m) :
 FM1 P' w K mg base (k + 1) f fd ps (Yn1 N.length m) := by
 show 212
 refine YiT lk hcd S (fun vs H Q E h => h.1) fun A outer s H vs Q E hr h => ⟨_, hbody cdv A outer s H E hr, ?_⟩
 obtain ⟨hl, as, st', qs, rp, d, h⟩ := h
 refine ⟨as, _, st', VY d, rp, ?_⟩
 unfold Yn1 at h
 cases q : m (qs.map some ++ List.replicate (N.length - qs.length) none) st' with
 | nx ρ' s' => rw [q] at h; exact fun as' H' σ' x rp en => h as' H' .non x rp .non
 | rt p s' => show 151
 | bk ρ' s' => show 166
 | ct ρ' s' => show 166
 | exc k ρ' s' =>
  show 152
  exact fun pins σ' t as' H' a I en ext rp fl => by
   obtain ⟨C, od, hns, f0, fa⟩ := fl
   exact leave1 I f0 (h as' H' C od hns fa ext rp)
 | bad => show 166
end
section
variable {X : Cx} {k : Nat} {f : Addr} {fd : FuncData} {ps : List Str} {mf : MF} {x : Str} {p pos : Pos} {e : Expr} {es : List Expr} {mr : MA}
theorem JN {pins : LAO} {σ : St} {H : Hp} {s : Shared} {b : Addr} (I : Inv X pins σ H s) (h : s.heap.get? b = none) : Nw X pins b := by
 refine ⟨?_, fun p hp z => ?_⟩
 ·by_cases hb : b ∈ X.ex
  ·exact .inl hb
  ·refine .inr ?_
   cases q : X.s₀.heap.get? b with
   | none => rfl
   | some o =>
    obtain ⟨o', e1⟩ := I.base.there b o q hb
    rw [h] at e1; cases e1
 ·have := (I.pin p hp).1
  rw [z, h] at this; cases this
def YmD (n : Nat) (mf : MF) (mr : MA) : ME := fun ρ st => (mr ρ st).bind fun ps st1 => if ps.length = n then mf ps st1 else .bad
theorem Yhe (F : FM1 X.prog X.w X.K X.mg X.base k f fd ps mf) (hr : Ymb k X.A) (hg : Gl X x) (hm : X.mg x = some (.ref f)) (hk : PySem.W.keepIn X.K (.ref f) = true) (hb : Binds X.K fd ps [])
 (ha : JA X (e :: es) mr) (hdb : (x == ("__debug__" : Str)) = false := by decide) (he : starEach (e :: es) X.env = (false, eval e X.env) :: starEach es X.env := by rfl) (hpl : (backTo pos (starEach es X.env)).any (·.1) = false := by rfl) :
 JE X (.Call (.Name x p) (e :: es) [] pos) (YmD ps.length mf mr) := by
 show 238
 refine ZBL (ZS I hg hm ?_ hdb)
 refine PySem.W.callWith_K (h₀ := X.base) I.ok.mod.kin hk (thn (ha pos pins s σ H (fun vs H1 => ∃ qs st1 as1, Ext as H as1 H1 /\ Rep X.K as1 st1 H1 /\ Dens X.K as1 H1 vs qs /\ YlL X as1 H1 ρ (if qs.length = ps.length then mf qs st1 else .bad) Q) I
  ⟨as, ρ, st, en, rp, YlL.bindA h fun qs st1 as1 H1 vs x rp1 d h1 => ⟨qs, st1, as1, x, rp1, d, h1⟩⟩) fun us s1 ⟨vs, H1, I1, r, qs, st1, as1, x1, rp1, d, h1⟩ => ⟨I1.kIn, ?_⟩) he hpl
 by_cases hl : qs.length = ps.length
 ·rw [ZAE hl] at h1
  have hsp : Ypm X.K ps.length mf vs H1 Q (fun C od H' => ∀ s' a, Inv X pins σ H' s' -> YmJ (Nw X pins) H' a C od s'.heap -> X.xe (.ref a) s') := by
   refine ⟨by rw [d.length]; exact hl, as1, st1, qs, rp1, d, ?_⟩
   cases z : mf qs st1 with
   | ok p' st2 => rw [z] at h1; exact h1
   | exc xc st2 =>
    rw [z] at h1
    exact fun as' H' C od hns fa ext rp2 s' a I' f0 => h1 pins σ s' as' H' a I' (en.ext (x1.trans ext)) ext rp2 ⟨C, od, hns, f0, fa⟩
   | bad => show 187
  have hl' : us.length = ps.length := by rw [<- r.length, d.length]; exact hl
  refine ZBZ (codeAny_mono (F.run X.A X.stack s1 H1 ⟨us, []⟩ us vs Q _ hr I1.env0 (by have := hb s1 us I1.kIn (by rw [ZAZ]; exact hl'); rwa [ZAZ] at this) r hsp) fun r s' hq => ?_)
  cases r with
  | error ev =>
   obtain ⟨a, C, od, H', rfl, o1, o2, un, hok, f0, hE⟩ := hq
   exact hE s' a (I1.call' o1 un hok o2 fun b z => absurd z (by simp)) (f0.mono fun b z => JN I1 z)
  | ok fl =>
   cases fl with
   | ret u => exact I1.after hq
   | next => show 167
   | brk => show 167
   | cont => show 167
 ·rw [ZAF hl] at h1; exact h1.elim
end
structure Fn1 (P' : Program) (w : World) (K : Frag) (mg : SOV) (base : Heap) (x : Str) (k : Nat) (ps : List Str) (mf : MF) : Prop where
 ex : ∃ f fd, FM1 P' w K mg base k f fd ps mf /\ mg x = some (.ref f) /\ PySem.W.keepIn K (.ref f) = true /\ Binds K fd ps []
theorem Yam {X : Cx} {x : Str} {k : Nat} {ps : List Str} {mf : MF} {e : Expr} {es : List Expr} {mr : MA} {p pos : Pos} (F : Fn1 X.prog X.w X.K X.mg X.base x k ps mf) (hr : Ymb k X.A) (hg : Gl X x) (ha : JA X (e :: es) mr)
 (hdb : (x == ("__debug__" : Str)) = false := by decide) (he : starEach (e :: es) X.env = (false, eval e X.env) :: starEach es X.env := by rfl) (hpl : (backTo pos (starEach es X.env)).any (·.1) = false := by rfl) :
 JE X (.Call (.Name x p) (e :: es) [] pos) (YmD ps.length mf mr) := by
 obtain ⟨f, fd, h1, h2, h3, h4⟩ := F.ex
 exact Yhe h1 hr hg h2 h3 h4 ha hdb he hpl
section
variable {P' : Program} {w : World} {K : Frag} {mg : SOV} {base : Heap} {x : Str} {st : Stmt} {N ps : List Str} {k : Nat} {m : MS}
theorem YbU (T : Top K mg) (D : YlF K x st) (S : YlI N ps (Ylx st))
 (hb : ∀ (kV doc pm : Value) (an : Option Addr) (cdv ct : Value) (us : List Value), us.length = ps.length -> bindArgs (fnOf x x (YlH st) (YlE st) (Ylx st) .none kV doc pm an cdv ct) ⟨us, []⟩ = pure (ps.zip us))
 (hbody : ∀ (f : Addr) (cdv : Value) (A : Around) (outer : List Env) (s : Shared) (H : Hp) (E : XK), Ymb k (A.deeper (envOfC x (Ylx st) s.heap.objs.size f cdv)) -> JSs (cxOf (CX1 P' w) P' w K mg base N x (Ylx st) f cdv A outer s H E) (YlE st) m) :
 Fn1 P' w K mg base x (k + 1) ps (Yn1 N.length m) := by
 obtain ⟨f, oc, od, an, kV, doc, pm, cd, ct, sl, h1, h2, h3, h4⟩ := D
 have F := Yap (st := st) h2 h3 h4
 exact ⟨f, _, Mi.Fun.mirror1 F S (hbody f), T.at h1, h4, F.binds hb⟩
end
section
variable {K : Frag} {h : Heap} {C : Addr} {bmB : List Value} {newId : String}
theorem Ybh (X : K.In h) (q : PySem.W.excIn K C bmB newId = true) : ∃ (nm qn : Str) (N : Addr) (bs bm : List Value) (hdct : Bool) (sn : List Str) (sub : List Value) (ab : Bool) (col : Option Bool) (dd : Option Addr) (k0 k1 k2 k3 k5 : Option Value),
 h.get? C = some (excClassObj nm qn C N bs bm hdct sn sub ab col dd k0 k1 k2 k3 k5 newId) /\ h.Ns N (h.nsMap N) /\ h.nsMap N "__init__" = none /\ OwnTail h bmB bm := by
 unfold PySem.W.excIn at q
 split at q
 ·rename_i dd cd sl ho
  split at q
  ·rename_i C' bm k0 k1 k2 k3 n k5 hm hs
   simp only [Bool.and_eq_true, beq_iff_eq, Bool.not_eq_true'] at q
   obtain ⟨⟨⟨⟨⟨rfl, rfl⟩, hdel⟩, ht⟩, hok⟩, hni⟩ := q
   obtain ⟨nm, bs, mro, ns, qn, hd, sn, sub, ab, col, del⟩ := cd
   dsimp only at hm hdel hok hni
   subst hm hdel
   have hsl : sl = #[k0, k1, k2, k3, some (.builtin n), k5] := by
    obtain ⟨l⟩ := sl
    simp only at hs
    rw [hs]
   subst hsl
   exact ⟨nm, qn, ns, bs, bm, hd, sn, sub, ab, col, dd, k0, k1, k2, k3, k5, X _ _ ho, .of_isNs (PySem.W.isNs_of_in X hok), PySem.W.nsMap_none_of_in X hok hni, PySem.W.tail_of_in X ht⟩
  ·cases q
 ·cases q
end
abbrev Ynl : List Value := [.type "ValueError", .type "Exception", .type "BaseException", .type "object"]
def ExcAt (K : Frag) (c : Str) : Prop := ∃ C, nsIn K mainGlobals c = some (some (.ref C)) /\ PySem.W.excIn K C Ynl "ValueError.__new__" = true
theorem ExcAt.of {K : Frag} {c : Str} {C : Addr} (a : nsIn K mainGlobals c = some (some (.ref C))) (b : PySem.W.excIn K C Ynl "ValueError.__new__" = true) : ExcAt K c := ⟨C, a, b⟩
def YmV (c : Str) (ma : MA) : MS := fun ρ st => RS.ofE ρ (ma ρ st) fun ps st1 => if ps.length <= 1000 then .exc (c, []) ρ st1 else .bad
theorem Yaq {X : Cx} {c : Str} {ma : MA} {np cpos pos : Pos} {e : Expr} {es : List Expr} (D : ExcAt X.K c) (hc : X.calm = true) (hg : Gl X c) (ha : JA X (e :: es) ma)
 (hdb : (c == ("__debug__" : Str)) = false := by decide) (he : starEach (e :: es) X.env = (false, eval e X.env) :: starEach es X.env := by rfl) (hpl : (backTo cpos (starEach (e :: es) X.env)).any (·.1) = false := by rfl) :
 JS X (.Raise (some (.Call (.Name c np) (e :: es) [] cpos)) none pos) (YmV c ma) := by
 intro pins s σ H D' I ⟨as, ρ, st, en, rp, h⟩
 obtain ⟨C, hn, hx⟩ := D
 have hm : X.mg c = some (.ref C) := PySem.W.mg_of I.ok.mod.kin I.ok.mod.glob hn
 obtain ⟨nm, qn, N, bs, bm, hdct, sn, sub, ab, col, dd, k0, k1, k2, k3, k5, g1, g2, g3, g4⟩ := Ybh I.ok.mod.kin hx
 refine wpAny_Raise_call_subU (C := C) (nm := nm) (q := qn) (N := N) (bs := bs) (bm := bm) (hdct := hdct) (sn := sn) (sub := sub) (ab := ab) (col := col) (dd := dd) (k0 := k0) (k1 := k1) (k2 := k2) (k3 := k3) (k5 := k5) (mN := X.base.nsMap N)
  PySem.F.excBase_ValueError (by decide) PySem.F.excBase_ValueError (g4.hasType (by decide)) (I.ok.hd hc) hpl g3 (ZS I hg hm ⟨rfl, ?_⟩ hdb)
 have key : backTo cpos (starEach (e :: es) X.env) = (false, eval e X.env) :: backTo cpos (starEach es X.env) := by rw [he]; rfl
 rw [key]
 refine Calls.evalArgs_plain ?_
 rw [<- key]
 refine thn (ha cpos pins s σ H (fun vs H1 => vs.length <= 1000 /\ ∃ st1 as1, Ext as H as1 H1 /\ Rep X.K as1 st1 H1 /\ XOk X as1 H1 ρ (c, []) st1) I ⟨as, ρ, st, en, rp, ?_⟩) fun us s1 ⟨vs, H1, I1, r, hvl, st1, as1, x1, rp1, xok⟩ => ?_
 ·unfold YmV at h
  cases q : ma ρ st with
  | ok qs st1 =>
   show 152
   intro as1 H1 vs x1 rp1 d
   have h' : YlP X as H (if qs.length <= 1000 then RS.exc (c, []) ρ st1 else .bad) D' := h
   by_cases hl : qs.length <= 1000
   ·rw [ZAE hl] at h'
    exact ⟨by rw [d.length]; exact hl, st1, as1, x1, rp1, XOk.ext x1 h'⟩
   ·rw [ZAF hl] at h'; exact h'.elim
  | exc xc st1 => show 151
  | bad => show 151
 ·have kb := I1.bk
  refine ⟨rfl, ?_, kb _ _ g1, g2.keeps kb, g4.keeps kb, fun h' ev hm => ?_⟩
  ·show us.length <= sizeLine
   rw [<- r.length, sizeLine_eq]; omega
  ·obtain ⟨t, ht, htn, htt⟩ := hm.there
   have I2 : Inv X pins σ H1 { s1 with heap := h' } := I1.kept hm.keeps
   exact xok pins σ _ as1 H1 ev I2 (en.ext x1) Ext.refl rp1 ⟨C, none, hn, ⟨JN I1 hm.new, untracked I1 hm.new, _, _, ht, rfl, rfl, rfl, .inl rfl⟩, .inl ⟨rfl, rfl⟩⟩
end Mi
namespace Mi
open PySem PySem.Spec L2
open PyProof.Rows hiding St
section
variable {X : Cx} {pins : LAO} {σ : St} {H H' : Hp} {s : Shared}
theorem _root_.L2.Inv.stepN {h' : Heap} {t' : Nat} {ch : List Addr} (I : Inv X pins σ H s) (hch : ∀ b ∈ ch, Nw X pins b /\ b ≠ X.env.locals /\ (∀ x c, X.env.cells.lookup x = some c -> c ≠ b) /\ b ∉ frs X.stack)
 (keep : ∀ b o, b ∉ frs X.stack -> b ∉ ch -> s.heap.get? b = some o -> H b = none -> h'.get? b = some o) (slot : ∀ b o, b ∈ frs X.stack -> s.heap.get? b = some o -> ∃ sl, h'.get? b = some { o with slots := sl })
 (free : ∀ b, b ∉ ch -> H b = none -> H' b = none) (there : ∀ b o, b ∉ ch -> s.heap.get? b = some o -> ∃ o', h'.get? b = some o') (trk : ∀ b u, H b = some u -> H' b = some u)
 (hL : ∃ o sl, s.heap.get? X.env.locals = some o /\ h'.get? X.env.locals = some { o with slots := sl }) (hfs : ∀ b ∈ X.fs, b ∈ frs X.stack)
 (hok : HOk X.prog X.w H' h') : Inv X pins σ H' { s with heap := h', toks := t' } := by
 have neC : ∀ b o, X.s₀.heap.get? b = some o -> b ∉ X.ex -> b ∉ ch := fun b o e hx hb => by
  rcases (hch b hb).1.1 with z | z
  ·exact hx z
  ·rw [z] at e; cases e
 have anyF : ∀ b o, b ∉ ch -> s.heap.get? b = some o -> H b = none -> ∃ sl, h'.get? b = some { o with slots := sl } := fun b o hc e n => by
  by_cases hb : b ∈ frs X.stack
  ·exact slot b o hb e
  ·exact ⟨o.slots, keep b o hb hc e n⟩
 have cellK : ∀ x c, X.env.cells.lookup x = some c -> ∀ v, s.heap.IsCell c v -> h'.IsCell c v := fun x c e v ⟨o, ho, hd⟩ => by
  obtain ⟨sl, q⟩ := anyF c o (fun z => (hch c z).2.2.1 x c e rfl) ho (I.freeC x c e)
  exact ⟨_, q, hd⟩
 obtain ⟨oL, slL, hoL, hoL'⟩ := hL
 have nsK : ∀ m, s.heap.Ns X.env.locals m -> h'.Ns X.env.locals m := fun m ⟨o, es, ep, ho, r⟩ => by
  rw [hoL] at ho; cases ho
  exact ⟨_, es, ep, hoL', r⟩
 have lnch : X.env.locals ∉ ch := fun z => (hch _ z).2.1 rfl
 refine ⟨I.ok, I.os, I.bare, ⟨fun b o e n hb hx => ?_, fun b o e n hb hx => ?_, fun b o e n hx => free b (neC b o e hx) (I.base.free b o e n hx), fun b o e hx => ?_, fun b xs e => trk _ _ (I.base.tups b xs e), fun b o xs e => trk _ _ (I.base.frzs b o xs e), fun b ps e => ?_⟩,
  ?_, fun x c e => ?_, free _ lnch I.free, fun x c e => free c (fun z => (hch c z).2.2.1 x c e rfl) (I.freeC x c e), fun p hp => ?_, hok, I.len⟩
 ·have h1 := I.base.keep b o e n hb hx
  exact keep b o (fun z => by
   rcases ZAT.mp (I.stkSub b z) with y | y
   ·exact absurd (ZAM (ZAG e) I.ok.above) (by rw [y]; exact ZBH _)
   ·exact hb y) (neC b o e hx) h1 (I.base.free b o e n hx)
 ·show 207
  obtain ⟨sl', e2⟩ := slot b _ (hfs b hb) e1
  exact ⟨sl', e2⟩
 ·show 194
  exact there b o' (neC b o e hx) e1
 ·obtain ⟨m1, e1⟩ := I.base.tbls b ps e
  exact ⟨m1, trk _ _ e1⟩
 ·obtain ⟨m, hn, hl⟩ := I.loc
  refine ⟨m, nsK m hn, fun i x v e1 e2 e3 => ?_⟩
  obtain ⟨u, r, l⟩ := hl i x v e1 e2 e3
  refine ⟨u, r, ?_⟩
  rcases l with l | ⟨k, c, e, z⟩
  ·exact .inl l
  ·exact .inr ⟨k, c, e, cellK x c e _ z⟩
 ·obtain ⟨v, z⟩ := I.cell x c e
  exact ⟨v, cellK x c e v z⟩
 ·show 208
  have nch : p.1 ∉ ch := fun z => (hch p.1 z).1.2 p hp rfl
  refine ⟨keep p.1 p.2 (fun z => ?_) nch e n, free p.1 nch n, ne, nf, d⟩
  rcases ZAT.mp (I.stkSub p.1 z) with y | y
  ·exact ne y
  ·exact nf y
theorem Wk {a : Addr} {oe : Obj} {vs : Array Value} (I : Inv X pins σ H s) (h1 : s.heap.get? a = some oe) (h2 : oe.data = .fields vs) : a ≠ X.env.locals /\ (∀ x c, X.env.cells.lookup x = some c -> c ≠ a) /\ a ∉ frs X.stack := by
 refine ⟨fun z => ?_, fun x c e z => ?_, fun z => ?_⟩
 ·obtain ⟨m, ⟨o, es, ep, ho, hd, _⟩, _⟩ := I.loc
  rw [<- z, h1] at ho; cases ho
  rw [h2] at hd; cases hd
 ·obtain ⟨v, o, ho, hd⟩ := I.cell x c e
  rw [z, h1] at ho; cases ho
  rw [h2] at hd; cases hd
 ·obtain ⟨_, o, ho, hd⟩ := I.stack.mem z
  rw [h1] at ho; cases ho
  exact hd vs h2
theorem _root_.L2.Inv.noted {a : Addr} {C : Value} {od : Option Addr} {Ts : List Addr} {h' : Heap} (I : Inv X pins σ H s) (f : YmJ (Nw X pins) H a C od s.heap) (hT : ∀ t ∈ Ts, Nw X pins t /\ H t = none /\ t ≠ a /\ ∃ o vs, s.heap.get? t = some o /\ o.data = .fields vs)
 (n : Yod X.stack a Ts s.heap h') (hst : X.stack = X.env :: X.outer) (hf : X.env.frame = some X.env.locals) (ha : ∃ o, h'.get? a = some o) : Inv X pins σ H { s with heap := h' } := by
 obtain ⟨na, hna, oe, vs, h1, h2, h3, h4, h5⟩ := id f
 have fs : ∀ b ∈ X.fs, b ∈ frs X.stack := fun b hb => by
  show 219
  rw [hst]
  exact ZAu.mpr ⟨env, .tail _ he, hf⟩
 have lin : X.env.locals ∈ frs X.stack := by rw [hst]; exact ZAu.mpr ⟨X.env, .head _, hf⟩
 obtain ⟨m, ⟨oL, es, ep, hoL, _⟩, _⟩ := id I.loc
 obtain ⟨slL, hoL'⟩ := n.slot _ oL hoL lin
 refine L2.Inv.stepN (t' := s.toks) (ch := a :: Ts) I (fun b hb => ?_) (fun b o hbf hc e _ => n.keep b o e (fun z => hc (by rw [z]; exact .head _)) (fun z => hc (.tail _ z)) hbf) (fun b o hb e => n.slot b o e hb) (fun b _ q => q) (fun b o hc e => ?_) (fun b u q => q) ⟨oL, slL, hoL, hoL'⟩ fs
  (n.hok I hna fun t z => (hT t z).2.1)
 ·rcases ZAT.mp hb with z | z
  ·subst z
   obtain ⟨f1, f2, f3⟩ := Wk I h1 h4
   exact ⟨na, f1, f2, f3⟩
  ·obtain ⟨o, ws, e1, e2⟩ := (hT b z).2.2.2
   obtain ⟨f1, f2, f3⟩ := Wk I e1 e2
   exact ⟨(hT b z).1, f1, f2, f3⟩
 ·by_cases hb : b ∈ frs X.stack
  ·obtain ⟨sl, e2⟩ := n.slot b o e hb
   exact ⟨_, e2⟩
  ·exact ⟨o, n.keep b o e (fun z => hc (by rw [z]; exact .head _)) (fun z => hc (.tail _ z)) hb⟩
theorem _root_.L2.Inv.trackX {a : Addr} {C : Value} {od : Option Addr} (I : Inv X pins σ H s) (f : YmJ (Nw X pins) H a C od s.heap) (fs : ∀ b ∈ X.fs, b ∈ frs X.stack) : Inv X pins σ (upd H a (.ext (Yoy a C od))) s := by
 obtain ⟨na, hna, oe, vs, h1, h2, h3, h4, h5⟩ := id f
 obtain ⟨f1, f2, f3⟩ := Wk I h1 h4
 obtain ⟨m, ⟨oL, es, ep, hoL, _⟩, _⟩ := id I.loc
 have q := L2.Inv.stepN (t' := s.toks) (h' := s.heap) (H' := upd H a (.ext (Yoy a C od))) (ch := [a]) I (fun b hb => by rw [ZA1.mp hb]; exact ⟨na, f1, f2, f3⟩) (fun b o _ _ e _ => e) (fun b o _ e => ⟨o.slots, e⟩)
  (fun b hc q => by rw [Yi (by simpa using hc)]; exact q) (fun b o _ e => ⟨o, e⟩) (fun b u q => by rw [Yi (Yg q hna)]; exact q) ⟨oL, oL.slots, hoL, hoL⟩ fs (fun b u e => ?_)
 ·exact q
 ·show 192
  ·subst hb
   rw [Ym] at e; cases e
   exact ⟨⟨oe, vs, h1, h2, h3, h4⟩, ⟨oe, h1⟩, fun g1 g2 ⟨o, ws, e1, e2⟩ k => ⟨o, ws, k o e1, e2⟩⟩
  ·rw [Yi hb] at e
   exact (I.hok b u e).stay (fun c v _ q => q) (fun c q => by rw [Yi (Yg q hna)]; exact q) fun c xs q => by rw [Yi (Yg q hna)]; exact q
theorem _root_.L2.Inv.gone {i : Nat} {n : Str} {h' : Heap} {v : Option Value} {m : SOV} {t' : Nat} (I : Inv X pins σ H s) (hN : X.N.Nodup) (hi : X.N[i]? = some n) (hk : X.env.kindOf n = some .local) (hn : s.heap.Ns X.env.locals m)
 (hl : ∀ (i : Nat) (x : Str) (v : V), X.N[i]? = some x -> σ[i]? = some (some v) -> Vis X.env.scope x -> ∃ u, RelV v u /\ Look X.env s.heap m x u)
 (hn' : h'.Ns X.env.locals (fun x => if x = n then v else m x)) (hs : Heap.SameBut X.env.locals s.heap h') : Inv X pins (σ.set i none) H { s with heap := h', toks := t' } := by
 have cne := I.cne
 obtain ⟨oL, _, _, hoL, _⟩ := id hn
 have lt : ∀ b o, X.s₀.heap.get? b = some o -> b ≠ X.env.locals := fun b o e => ZAP (ZAM (ZAG e) I.ok.above)
 refine ⟨I.ok, I.os, I.bare, ⟨fun b o e n hb hx => (hs.2 b (lt b o e)).trans (I.base.keep b o e n hb hx), fun b o e n hb hx => ?_, I.base.free, fun b o e hx => ?_, I.base.tups, I.base.frzs, I.base.tbls⟩, ⟨_, hn', fun j y v' e1 e2 e3 => ?_⟩, fun y c e => ?_, I.free, I.freeC, fun p hp => ?_, fun b ob e => ?_, by simpa using I.len⟩
 ·show 207
  exact ⟨sl, (hs.2 b (lt b o e)).trans e1⟩
 ·show 194
  exact ⟨o', (hs.2 b (lt b o e)).trans e1⟩
 ·have hj : i ≠ j := fun z => by
   subst z
   by_cases hlt : i < σ.length
   ·rw [ZA8 hlt] at e2; cases e2
   ·rw [ZBu (by omega)] at e2
    have := (ZAL.mp e2).1
    omega
  rw [ZA0 hj] at e2
  obtain ⟨u', r', q⟩ := hl j y v' e1 e2 e3
  refine ⟨u', r', ?_⟩
  rcases q with ⟨k, e⟩ | ⟨k, c, e, z⟩
  ·refine .inl ⟨k, ?_⟩
   have : y ≠ n := fun z => hj (Yaa hN hi (z ▸ e1))
   simp [this, e]
  ·exact .inr ⟨k, c, e, z.sameBut hs (cne y c e)⟩
 ·obtain ⟨w', z⟩ := I.cell y c e
  exact ⟨w', z.sameBut hs (cne y c e)⟩
 ·show 208
  exact ⟨(hs.2 p.1 ne).trans e, n, ne, nf, d⟩
 ·refine (I.hok b ob e).stay (fun c w' hc q => (hs.2 c ?_).trans q) (fun _ q => q) fun _ _ q => q
  rintro rfl
  show 239
  ·rw [I.free] at e; cases e
  ·rw [I.free] at hc; cases hc
end
abbrev _root_.L2.Cx.tried (X : Cx) (pins : LAO) (E : VSP) : Cx := { X with pn := X.pn ++ pins, xe := E }
abbrev _root_.L2.Cx.caught (X : Cx) (pins : LAO) (v : Value) : Cx := { X with pn := X.pn ++ pins, A := X.A.mark (some v), calm := false, xe := fun _ _ => False }
theorem _root_.L2.Cx.Ok.tried {X : Cx} (ok : X.Ok) (pins : LAO) (E : VSP) : (X.tried pins E).Ok :=
 ⟨ok.mod, ok.kind, ok.glob, ok.blt, ok.above, ok.inj, ok.has, ok.cab, ok.hd, ok.frames, ok.stk, ok.exf, ok.bs, ok.bsz, ok.noex, ok.exfs, ok.funs, ok.frf⟩
theorem _root_.L2.Cx.Ok.caught {X : Cx} (ok : X.Ok) (pins : LAO) (v : Value) : (X.caught pins v).Ok :=
 ⟨ok.mod, ok.kind, ok.glob, ok.blt, ok.above, ok.inj, ok.has, ok.cab, (fun h => by cases h), ok.frames, ok.stk, ok.exf, ok.bs, ok.bsz, ok.noex, ok.exfs, ok.funs, ok.frf⟩
section
variable {X : Cx} {pins : LAO} {σ : St} {H : Hp} {s : Shared}
theorem _root_.L2.Inv.tried (I : Inv X pins σ H s) (E : VSP) : Inv (X.tried pins E) [] σ H s :=
 ⟨I.ok.tried pins E, I.os, I.bare, I.base, I.loc, I.cell, I.free, I.freeC, fun p hp => I.pin p (by simpa using hp), I.hok, I.len⟩
theorem _root_.L2.Inv.untried {E : VSP} {pins' : LAO} (ok : X.Ok) (I : Inv (X.tried pins E) pins' σ H s) : Inv X pins σ H s :=
 ⟨ok, I.os, I.bare, I.base, I.loc, I.cell, I.free, I.freeC, fun p hp => I.pin p (ZA4 _ hp), I.hok, I.len⟩
theorem _root_.L2.Inv.caught (I : Inv X pins σ H s) (v : Value) : Inv (X.caught pins v) [] σ H s :=
 ⟨I.ok.caught pins v, I.os, I.bare, I.base, I.loc, I.cell, I.free, I.freeC, fun p hp => I.pin p (by simpa using hp), I.hok, I.len⟩
theorem _root_.L2.Inv.uncaught {v : Value} {pins' : LAO} (ok : X.Ok) (I : Inv (X.caught pins v) pins' σ H s) : Inv X pins σ H s :=
 ⟨ok, I.os, I.bare, I.base, I.loc, I.cell, I.free, I.freeC, fun p hp => I.pin p (ZA4 _ hp), I.hok, I.len⟩
end
def YnE (i : Nat) : RS -> RS
 | .nx ρ st => .nx (ρ.set i none) st
 | .rt p st => .rt p st
 | _ => .bad
def Yob : RS -> RS
 | .exc _ _ _ => .bad
 | r => r
section
variable {X : Cx} {pins : LAO}
theorem YlO.unset {K : Frag} {as : List Addr} {H : Hp} {ρ : Rho} {σ : St} {i : Nat} (h : YlO K as H ρ σ) : YlO K as H (ρ.set i none) (σ.set i none) :=
 ⟨by simp [h.len], fun j q e => by
  have hj : i ≠ j := fun z => by
   subst z
   by_cases hlt : i < ρ.length
   ·rw [ZA8 hlt] at e; cases e
   ·rw [ZBu (by omega)] at e
    have := (ZAL.mp e).1
    omega
  rw [ZA0 hj] at e
  obtain ⟨w, h1, h2⟩ := h.val j q e
  exact ⟨w, by rw [ZA0 hj]; exact h1, h2⟩⟩
end
end Mi
namespace Mi
open PySem PySem.Spec L2 PySem.W
open PyProof.Rows hiding St
section
variable {prog : Program} {w : World} {A : Around} {E : VSP} {s : Shared} {K : Frag} {x C : Addr} {ox : Obj} {odo : Option Obj} {name : Str}
theorem YfJ {M : Model} {nameV : Value} {Q : Unit -> Shared -> Prop} (X : K.In s.heap) (I : InstAt s.heap x ox C odo) (hm : mroIn K C (.type "BaseException") = some true) (hq : Q () s) :
 wpAny M A (checkBuiltinCall "BaseException.__getattribute__" ⟨[.ref x, nameV], []⟩) Q E s := by
 show 227
 have L0 := I.type (M := M)
 have L1 := looks_mroIn (M := M) X hm
 have hk : builtinKind "BaseException.__getattribute__" = some .slot := by decide +kernel
 have hsplit : splitId "BaseException.__getattribute__" = some ("BaseException", "__getattribute__") := by decide +kernel
 have ha := F.args_bexc_ga (.ref x) nameV
 simp only [checkBuiltinCall, hk, hsplit]
 show 168
 unfold isInstance
 refine ZAA (L0.at (L1.at ?_))
 repeat (first | wp_step)
 exact hq
theorem YhH {nameV : Value} {Q : VSP} (X : K.In s.heap) (I : InstAt s.heap x ox C odo) (hm : mroIn K C (.type "BaseException") = some true)
 (h : wpAny (model prog w) A.in1 (Builtin.«object.__getattribute__» ⟨[.ref x, nameV], []⟩) (fun fin s' => match fin with | .done (.ret v) => Q v s' | _ => False) E s) :
 wpAny (model prog w) A (boundAndCalled (.builtin "BaseException.__getattribute__") (.ref x) nameV) Q E s := by
 unfold boundAndCalled
 refine ZAA (wpAny_of_eq (F.attr_ValueError.ga.bind (.ref x)) ?_)
 refine ZBZ (codeAny_call_builtin F.attr_ValueError.ga.plain F.entry_bexc_ga (YfJ X I hm ?_))
 refine ZAi h (fun fin s' z => ?_) fun _ _ z => z
 rcases fin with (_ | _ | _ | _) | _ <;> first | exact z | exact z.elim
theorem Yfs {Q : Option Value -> Shared -> Prop} (X : K.In s.heap) (I : InstAt s.heap x ox C odo) (hga : findIn K (.ref C) "__getattribute__" = some (some (.builtin "BaseException.__getattribute__"))) (hgt : findIn K (.ref C) "__getattr__" = some none)
 (hmB : mroIn K C (.type "BaseException") = some true) (hf : findObj K C odo "__class__" = some (.bind (.builtin "getset_descriptor.__get__") (.builtin "object.__class__"))) (hm : mroIn K C (.type "object") = some true)
 (h : Q (some (.ref C)) { s with toks := s.toks + 1 }) : wpAny (model prog w) A (getAttr? (.ref x) "__class__") Q E s := by
 show 227
 have L0 := I.type (M := model prog w)
 have L1 := looks_findIn (M := model prog w) X hga
 have L2 := looks_findIn (M := model prog w) X hgt
 have L3 := looks_find (M := model prog w) X I hf
 have hx2 : (Value.builtin "BaseException.__getattribute__" == Value.builtin "object.__getattribute__") = false := by decide +kernel
 unfold getAttr? getAttrBy? getAttrBy
 refine ZAA (wpAny_mkText (ZAA (ZBX (ZAh (ZAA (L0.at (ZAA (L1.at ?_))))))))
 simp only [hx2, Bool.and_false, Bool.false_eq_true, if_false]
 unfold getAttrByItsOwn hookBefore
 rw [ZAE (show onTheHeap (.ref C) = true from rfl)]
 refine ZAA (L2.at ?_)
 refine ZAA (ZBX (ZAh ?_))
 unfold callGetattribute
 rw [if_neg (by simp)]
 refine YhH X I hmB ?_
 unfold Builtin.«object.__getattribute__»
 refine ZAA (ZAC (ZAA (ZAC (ZAA (L0.at (ZAA (L3.at ?_)))))))
 show wpAny _ _ (holding [Value.builtin "object.__class__"] (call (.builtin "getset_descriptor.__get__") [.builtin "object.__class__", .ref x, .ref C]) >>= ret) _ _ _
 refine ZAA (ZAh (ZBZ (class_get (s := ⟨hh, g, d, t + 1, os⟩) (ox := ox) (od := odo) X I hm ?_)))
 exact ZAC (handed_on rfl (ZAC h))
end
end Mi
namespace Mi
open PySem PySem.Spec L2
open PyProof.Rows hiding St
section
variable {K : Frag}
theorem Yhb {x D : Addr} {ox : Obj} {odo : Option Obj} (hga : PySem.W.findIn K (.ref D) "__getattribute__" = some (some (.builtin "BaseException.__getattribute__"))) (hgt : PySem.W.findIn K (.ref D) "__getattr__" = some none) (hmB : PySem.W.mroIn K D (.type "BaseException") = some true) (hdct : PySem.W.hasDictIn K D = true) (ha : PySem.W.findIn K (.ref D) "__class__" = some (some (.builtin "object.__class__")))
 (hn : PySem.W.specialIn K (.builtin "object.__class__") "__get__" = some (some (.builtin "getset_descriptor.__get__"))) (htk : PySem.W.takesIn K (.builtin "object.__class__") = some true) (hm : PySem.W.mroIn K D (.type "object") = some true) :
 PySem.W.KitX K (.ref x) (.ref D) (fun h => PySem.W.InstAt h x ox D odo) where
 ty := fun _ _ _ I => I.type
 it := fun _ _ X _ => by
  obtain ⟨cdD, hcD, _⟩ := PySem.W.any_some hdct
  unfold PySem.W.clsIn at hcD
  split at hcD
  ·rename_i c' d' cd' sl' ho
   intro A' Q' E' s' k q
   unfold isType loadHead
   exact ZAA (ZCd (k _ _ (X _ _ ho)) (ZAC q))
  ·cases hcD
 ne := fun h tp dd its n sl X htp => by
  obtain ⟨cdD, hcD, _⟩ := PySem.W.any_some hdct
  refine ZCK.mpr fun q => ?_
  have e : D = tp := Value.ref.inj (ZBx.mp q)
  subst e
  unfold PySem.W.clsIn at hcD
  split at hcD
  ·rename_i c' d' cd' sl' ho
   have z := (X _ _ ho).symm.trans htp
   cases z
  ·cases hcD
 ca := fun {prog w A E Q s} X I k => by
  obtain ⟨cd, hc, _⟩ := PySem.W.any_some hdct
  have hf : PySem.W.findObj K D odo "__class__" = some (.bind (.builtin "getset_descriptor.__get__") (.builtin "object.__class__")) := by
   unfold PySem.W.findObj
   rw [hc, ZCP, ha, ZCP]
   simp [hn, htk]
  exact Yfs X I hga hgt hmB hf hm k
def YmY (K : Frag) (c : Str) : Prop := ∃ C, nsIn K mainGlobals c = some (some (.ref C)) /\ PySem.W.findIn K (.ref C) "__getattribute__" = some (some (.builtin "BaseException.__getattribute__")) /\ PySem.W.findIn K (.ref C) "__getattr__" = some none /\ PySem.W.mroIn K C (.type "BaseException") = some true /\ PySem.W.hasDictIn K C = true /\ PySem.W.findIn K (.ref C) "__class__" = some (some (.builtin "object.__class__")) /\
 PySem.W.specialIn K (.builtin "object.__class__") "__get__" = some (some (.builtin "getset_descriptor.__get__")) /\ PySem.W.takesIn K (.builtin "object.__class__") = some true /\ PySem.W.mroIn K C (.type "object") = some true
theorem YmY.of {c : Str} {C : Addr} (a : nsIn K mainGlobals c = some (some (.ref C))) (g1 : PySem.W.findIn K (.ref C) "__getattribute__" = some (some (.builtin "BaseException.__getattribute__"))) (g2 : PySem.W.findIn K (.ref C) "__getattr__" = some none) (g3 : PySem.W.mroIn K C (.type "BaseException") = some true) (h2 : PySem.W.hasDictIn K C = true) (h3 : PySem.W.findIn K (.ref C) "__class__" = some (some (.builtin "object.__class__")))
 (h4 : PySem.W.specialIn K (.builtin "object.__class__") "__get__" = some (some (.builtin "getset_descriptor.__get__"))) (h5 : PySem.W.takesIn K (.builtin "object.__class__") = some true) (h6 : PySem.W.mroIn K C (.type "object") = some true) : YmY K c := ⟨C, a, g1, g2, g3, h2, h3, h4, h5, h6⟩
def YlM (K : Frag) (c y : Str) (b : Bool) : Prop := ∃ C D, nsIn K mainGlobals c = some (some (.ref C)) /\ nsIn K mainGlobals y = some (some (.ref D)) /\ PySem.W.kitOne K (.ref C) (.ref D) = some b
theorem YlM.of {c y : Str} {b : Bool} {C D : Addr} (h1 : nsIn K mainGlobals c = some (some (.ref C))) (h2 : nsIn K mainGlobals y = some (some (.ref D))) (h3 : PySem.W.kitOne K (.ref C) (.ref D) = some b) : YlM K c y b := ⟨C, D, h1, h2, h3⟩
def YnJ (K : Frag) (c : Str) (T : String) (b : Bool) : Prop := ∃ C, nsIn K mainGlobals c = some (some (.ref C)) /\ PySem.W.kitOne K (.ref C) (.type T) = some b
theorem YnJ.of {c : Str} {T : String} {b : Bool} {C : Addr} (h1 : nsIn K mainGlobals c = some (some (.ref C))) (h3 : PySem.W.kitOne K (.ref C) (.type T) = some b) : YnJ K c T b := ⟨C, h1, h3⟩
end
def Yn9 (c : Str) (p : P) (st : YlA) : Bool := match p with
 | .ref k => (match st[k]? with
  | some (.exc c' _) => c' == c
  | _ => false)
 | _ => false
def Ym5 (c : Str) (b : Bool) (me : ME) : ME := fun ρ st => (me ρ st).bind fun p st1 => if Yn9 c p st1 = true then .ok (.bl b) st1 else .bad
section
variable {X : Cx} {e : Expr} {me : ME} {pos p p' : Pos}
theorem Yj2 {pins : LAO} {σ : St} {H : Hp} {s : Shared} {as : List Addr} {st : YlA} {x : V} {q : P} {c : Str} {C : Addr} (I : Inv X pins σ H s) (hn : nsIn X.K mainGlobals c = some (some (.ref C))) (rp : Rep X.K as st H) (d : Den X.K as H x q) (h : Yn9 c q st = true) :
 ∃ a ox odo, x = .ref a /\ PySem.W.InstAt s.heap a ox C odo := by
 cases d with
 | @ref k a ea =>
  have h' : (match st[k]? with | some (.exc c' _) => c' == c | _ => false) = true := h
  cases w : st[k]? with
  | none => rw [w] at h'; cases h'
  | some ob =>
   rw [w] at h'
   have r := rp.ob k a ob ea w
   cases ob with
   | exc c' fs =>
    have e : c' = c := eq_of_beq h'
    subst e
    obtain ⟨C', od, h1, h2, h3⟩ := r
    rw [hn] at h1; cases h1
    obtain ⟨⟨o, vs, g1, g2, g3, g4⟩, _⟩ := I.hok a _ h2
    rcases h3 with ⟨h3, _⟩ | ⟨d, ws, h3, h4, _⟩
    ·exact ⟨a, o, none, rfl, g1, g2, by unfold PySem.W.notCls; rw [g4], by rw [g3, h3]; trivial⟩
    ·obtain ⟨u, hu⟩ := V2 (I.hok d _ h4)
     exact ⟨a, o, some u, rfl, g1, g2, by unfold PySem.W.notCls; rw [g4], by rw [g3, h3]; exact hu⟩
   | _ => cases h'
 | _ => cases h
theorem YcA {c : Str} {v : V} {u : Value} {b : Bool} {C : Addr} (D : YmY X.K c) (hn : nsIn X.K mainGlobals c = some (some (.ref C))) (hu : ∀ w, RelV v w -> w = u) (hk : PySem.W.kitOne X.K (.ref C) u = some b) :
 Ymw X (.builtin "isinstance") (fun xs H Q => ∃ x as st p, xs = [x, v] /\ Rep X.K as st H /\ Den X.K as H x p /\ Yn9 c p st = true /\ Q (.bl b) H) := by
 intro pins s σ H xs us Q I rv h
 obtain ⟨x, as, st, p, rfl, rp, d, he, q⟩ := h
 obtain ⟨w, w2, rfl, ru, rc⟩ := rv.two
 obtain rfl := hu _ rc
 obtain ⟨C', h1, g1, g2, g3, h3, h4, h5, h6, h7⟩ := D
 rw [hn] at h1; cases h1
 obtain ⟨a, ox, odo, rfl, J⟩ := Yj2 I hn rp d he
 obtain rfl : w = Value.ref a := ru
 exact PySem.W.kia_one (Yhb g1 g2 g3 h3 h4 h5 h6 h7) I.kIn J hk (fun z => nomatch z) fun tk => ⟨.bl _, H, I.tok tk, rfl, q⟩
theorem Zb {c y : Str} {b : Bool} (D : YmY X.K c) (D2 : YlM X.K c y b) (T : Top X.K X.mg) (hg : Gl X "isinstance") (hm : X.mg "isinstance" = none) (hv : bootBuiltins "isinstance" = some (.builtin "isinstance")) (gy : Gl X y) (he : JE X e me)
 (hyd : (y == ("__debug__" : Str)) = false := by decide)
 (h1 : starEach [e, .Name y p'] X.env = (false, eval e X.env) :: starEach [.Name y p'] X.env := by rfl) (h2 : starEach [.Name y p'] X.env = (false, eval (.Name y p') X.env) :: starEach [] X.env := by rfl) (hpl : (backTo pos (starEach [.Name y p'] X.env)).any (·.1) = false := by rfl) :
 JE X (.Call (.Name "isinstance" p) [e, .Name y p'] [] pos) (Ym5 c b me) := by
 obtain ⟨C, D', g1, g2, g3⟩ := D2
 exact PE.imp (Wx (YcA (v := .ref D') (u := .ref D') D g1 (fun w z => z) g3) hg hm hv (Y8 he (Y8 (Yea (v := .ref D') gy (T.at g2) rfl hyd) WD h2) h1) (by decide) (by decide) h1 hpl) fun σ H Q ⟨as, ρ, st, en, rp, h⟩ => ⟨as, ρ, st, en, rp, YlL.bindE h fun p st1 as1 H1 v x rp1 d h1 => by
  by_cases w : Yn9 c p st1 = true
  ·rw [ZAE w] at h1; exact ⟨v, as1, st1, p, rfl, rp1, d, w, h1 as1 H1 _ Ext.refl rp1 .bl⟩
  ·rw [ZAF w] at h1; exact h1.elim⟩
theorem Yh1 {c y : Str} {T : String} {b : Bool} (D : YmY X.K c) (D2 : YnJ X.K c T b) (hg : Gl X "isinstance") (hm : X.mg "isinstance" = none) (hv : bootBuiltins "isinstance" = some (.builtin "isinstance")) (gy : Gl X y) (my : X.mg y = none) (vy : bootBuiltins y = some (.type T)) (he : JE X e me)
 (hy : y ≠ "__name__" := by decide) (hyd : (y == ("__debug__" : Str)) = false := by decide)
 (h1 : starEach [e, .Name y p'] X.env = (false, eval e X.env) :: starEach [.Name y p'] X.env := by rfl) (h2 : starEach [.Name y p'] X.env = (false, eval (.Name y p') X.env) :: starEach [] X.env := by rfl) (hpl : (backTo pos (starEach [.Name y p'] X.env)).any (·.1) = false := by rfl) :
 JE X (.Call (.Name "isinstance" p) [e, .Name y p'] [] pos) (Ym5 c b me) := by
 obtain ⟨C, g1, g3⟩ := D2
 exact PE.imp (Wx (YcA (v := .ty T) (u := .type T) D g1 (fun w z => z) g3) hg hm hv (Y8 he (Y8 (YdV (v := .ty T) gy my vy rfl hy hyd) WD h2) h1) (by decide) (by decide) h1 hpl) fun σ H Q ⟨as, ρ, st, en, rp, h⟩ => ⟨as, ρ, st, en, rp, YlL.bindE h fun p st1 as1 H1 v x rp1 d h1 => by
  by_cases w : Yn9 c p st1 = true
  ·rw [ZAE w] at h1; exact ⟨v, as1, st1, p, rfl, rp1, d, w, h1 as1 H1 _ Ext.refl rp1 .bl⟩
  ·rw [ZAF w] at h1; exact h1.elim⟩
end
theorem YaR : bootBuiltins "ValueError" = some (.type "ValueError") := PyProof.Rows.Boot.«ValueError»
end Mi
namespace Mi
open PySem PySem.Spec L2
open PyProof.Rows hiding St
def Yl8 : P -> Bool
 | .non => true
 | .bl _ => true
 | .int _ => true
 | .str _ => true
 | _ => false
def eqF : P -> P -> Bool
 | .non, .non => true
 | .bl a, .bl b => a == b
 | .bl a, .int b => (if a then 1 else 0) == b
 | .int a, .bl b => a == (if b then 1 else 0)
 | .int a, .int b => a == b
 | .str a, .str b => a == b
 | _, _ => false
def YoV : G2 := fun p q st => match Ymo q st with
 | some xs => if Yl8 p = true /\ xs.all Yl8 = true then okP (.bl (xs.any fun y => eqF y p)) st else none
 | none => inP p q st
section
variable {K : Frag} {as : List Addr} {H : Hp}
theorem J9 {v : V} {p : P} (d : Den K as H v p) (h : Yl8 p = true) : YmP v = true := by cases d <;> first | rfl | cases h
theorem YdX {v w : V} {p q : P} (d : Den K as H v p) (e : Den K as H w q) (h : Yl8 p = true) (h' : Yl8 q = true) : eqV v w = eqF p q := by
 cases d <;> first | (cases h; done) | (cases e <;> first | rfl | (cases h'; done))
theorem WO : ∀ {vs : List V} {ps : List P}, Dens K as H vs ps -> ps.all Yl8 = true -> vs.all YmP = true
 | _, _, .nil, _ => rfl
 | _, _, .cons d r, h => by
  rw [ZBC, ZAb] at h ⊢
  exact ⟨J9 d h.1, WO r h.2⟩
theorem Yd4 {w : V} {q : P} (e : Den K as H w q) (h' : Yl8 q = true) : ∀ {vs : List V} {ps : List P}, Dens K as H vs ps -> ps.all Yl8 = true -> inV w vs = ps.any fun y => eqF y q
 | _, _, .nil, _ => rfl
 | _, _, .cons d r, h => by
  rw [ZBC, ZAb] at h
  have ih := Yd4 e h' r h.2
  unfold inV at ih ⊢
  rw [ZBT, ZBT, YdX d e h.1 h', ih]
end
section
variable {X : Cx}
theorem Yj8 (hu : X.A.units + 1 < cLine) : OpR X (compareOp .In) (rM X YoV) := opM fun pins s σ H x y v u Q as st p q I rx ry rp d1 d2 h => by
 have h' : YlU X as H (match Ymo q st with
  | some xs => if Yl8 p = true /\ xs.all Yl8 = true then okP (.bl (xs.any fun y => eqF y p)) st else none
  | none => inP p q st) Q := h
 cases z : Ymo q st with
 | none =>
  rw [z] at h'
  exact Ylj hu pins s σ H x y v u Q I rx ry ⟨as, st, p, q, rp, d1, d2, h'⟩
 | some xs =>
  rw [z] at h'
  by_cases c : Yl8 p = true /\ xs.all Yl8 = true
  ·simp only [if_pos c] at h'
   obtain ⟨a, vs, e1, e2, e3⟩ := YgV rp d2 z
   subst e1
   refine Yfh pins s σ H x _ v u Q I rx ry ⟨a, vs, rfl, e2, J9 d1 c.1, WO e3 c.2, ?_⟩
   have := Yd4 d1 c.1 e3 c.2
   simp only [Bool.false_eq_true, if_false, this]
   exact h' as H _ Ext.refl rp .bl
  ·simp only [if_neg c] at h'; exact h'.elim
end
end Mi
namespace Mi
open PySem PySem.Spec L2
open PyProof.Rows hiding St
structure Yp9 (N : Addr -> Prop) (H : Hp) (a : Addr) (C : Value) (od : Option Addr) (h : Heap) : Prop where
 na : N a
 ha : H a = none
 tr : ∃ oe vs T oT ts, h.get? a = some oe /\ oe.cls = C /\ oe.dict = od /\ oe.data = .fields vs /\ vs[1]? = some (.ref T) /\ N T /\ H T = none /\ T ≠ a /\ h.get? T = some oT /\ oT.data = .fields ts /\ 3 < ts.size
section
variable {M : Model} {A : Around} {E : VSP} {X : Cx} {pins : LAO} {σ : St} {H : Hp} {s : Shared} {a : Addr} {C : Value} {od : Option Addr} {N : Addr -> Prop}
end
section
variable {X : Cx} {scope : Scope} {TN FN : List Str} {pins : LAO} {σ : St} {H2 : Hp} {s2 : Shared} {fp : List Addr} {Cc : Addr}
end
section
variable {X : Cx}
end
end Mi
namespace Mi
open PySem PySem.Spec L2
open PyProof.Rows hiding St
section
variable {X : Cx}
end
end Mi
namespace Mi
open PySem PySem.Spec L2
open PyProof.Rows hiding St
section
variable {K : Frag} {as : List Addr} {H : Hp}
end
section
variable {X : Cx} {a b o i e : Expr} {ma mb mo mi me : ME} {pos pos' : Pos}
end
end Mi
namespace Mi
open PySem PySem.Spec L2
open PyProof.Rows hiding St
structure YmL (k : Nat) (A : Around) : Prop where
 dp : A.depth + 3 * k + 5 < recursionLimit
 un : A.units + 16 * k + 200 < cLine
theorem YmL.of {j k : Nat} {A : Around} {v : Option Value} (r : Ymb k A) (h : j <= k) : YmL j (A.mark v) :=
 ⟨by have := r.dp; show A.depth + 3 * j + 5 < _; omega, by have := r.un; show A.units + 16 * j + 200 < _; omega⟩
theorem YmL.deeper {k : Nat} {A : Around} (r : YmL (k + 1) A) (env : Env) : YmL k (A.deeper env) :=
 ⟨by have := r.dp; show A.depth + 1 + 3 * k + 5 < _; omega, by have := r.un; show A.units + 3 + 16 * k + 200 < _; omega⟩
theorem Yje {k : Nat} {A : Around} (r : YmL k A) : A.units + 1 < cLine := by have := r.un; omega
theorem YhR {k : Nat} {A : Around} (r : YmL k A) : A.units + deep < cLine := ZBt (ZCB (by decide : deep <= 64) _) (by have := r.un; omega)
def cxH (P' : Program) (w : World) (K : Frag) (mg : SOV) (base : Heap) (N : List Str) (qual : Str) (scope : Scope) (f : Addr) (cd : Value) (A : Around) (outer : List Env) (s : Shared) (H : Hp) : Cx where
 prog := P'
 w := w
 K := K
 mg := mg
 base := base
 A := A.deeper (envOfC qual scope s.heap.objs.size f cd)
 N := N
 s₀ := s
 H₀ := H
 env := envOfC qual scope s.heap.objs.size f cd
 outer := outer
 stack := envOfC qual scope s.heap.objs.size f cd :: outer
 ex := []
 calm := false
 fn := fun _ => true
 pn := []
 xe := fun _ _ => False
structure Yo3 (P' : Program) (w : World) (K : Frag) (mg : SOV) (base : Heap) (k : Nat) (f : Addr) (fd : FuncData) (ps : List Str) (sp : Sp) : Prop where
 run : ∀ (A : Around) (outer : List Env) (s : Shared) (H : Hp) (args : Args) (us : List Value) (vs : List V) (Q : VK) (E : XK), YmL k A -> Yng P' w K mg base A outer s H -> BindsTo s fd args (ps.zip us) -> Vals vs us -> sp vs H Q E ->
  codeAny (model P' w) A (.call (.ref f) args) (CR CX0 outer P' w H s Q E) s
section
variable {P' : Program} {w : World} {K : Frag} {mg : SOV} {base : Heap}
theorem Fun.mirrorH {x qual : Str} {st : Stmt} {f : Addr} {fd : FuncData} {N ps : List Str} {k : Nat} {m : MS} (F : Fun K x qual st f fd) (S : YlI N ps (Ylx st))
 (hbody : ∀ (cdv : Value) (A : Around) (outer : List Env) (s : Shared) (H : Hp), YmL k (A.deeper (envOfC qual (Ylx st) s.heap.objs.size f cdv)) -> JSs (cxH P' w K mg base N qual (Ylx st) f cdv A outer s H) (YlE st) m) :
 Yo3 P' w K mg base (k + 1) f fd ps (spM K ps.length (fnM N.length m)) := by
 show 212
 refine ⟨fun A outer s H args us vs Q E hr e0 hb r hsp => ?_⟩
 have hl : vs.length = ps.length := hsp.1
 have KX : K.In s.heap := e0.mod.kin.keeps fun b o e => (e0.bs b o e).1
 have lim : s.heap.NoLimit := e0.mod.nolimit.keeps fun b o e => (e0.bs b o e).1
 have hkind : ∀ y ∈ ps.zip us, (Ylx st).names.lookup y.1 = some .local \/ ((Ylx st).names.lookup y.1 = some .cell /\ ((cellsFrom (s.heap.objs.size + 1) (Ylx st).names []).lookup y.1).isSome = true) := fun ⟨n, v⟩ hy =>
  (S.par n (ZBq hy).1).elim .inl fun q => .inr ⟨q, PySem.W.cellsFrom_some _ _ _ (.inl q)⟩
 refine codeAny_call_function (by have := hr.dp; omega) (KX _ _ lk) rfl S.co S.gen rfl (PySem.W.codeRec_of KX hcd) (hb _ _ _ _ ?_)
 refine ZBk S.kind hkind fun env he s1 x => ?_
 subst he
 refine ⟨lim.keeps x.toInCall.keep, codeAny_func ?_⟩
 have e0' : Yng P' w K mg base { A with handled := none } outer s H := ⟨e0.frames, e0.mod, e0.bs, e0.bsz, e0.funs, e0.frf, e0.hok, e0.bare⟩
 have I0 := VS (CX := CX0) (qual := qual) (f := f) (cd := cdv) (E := E) S (A := { A with handled := none }) rfl e0' hl r x
 have I : Inv (cxH P' w K mg base N qual (Ylx st) f cdv A outer s H) [] (start N vs) H s1 :=
  ⟨⟨I0.ok.mod, I0.ok.kind, I0.ok.glob, I0.ok.blt, I0.ok.above, I0.ok.inj, I0.ok.has, I0.ok.cab, (fun h => by cases h), Around.frames_deeper e0.frames, I0.ok.stk, I0.ok.exf, I0.ok.bs, I0.ok.bsz, I0.ok.noex, I0.ok.exfs, I0.ok.funs, I0.ok.frf⟩, I0.os, I0.bare, I0.base, I0.loc, I0.cell, I0.free, I0.freeC, I0.pin, I0.hok, I0.len⟩
 obtain ⟨_, as, st', qs, rp, d, h⟩ := hsp
 refine ZAi (hbody cdv A outer s H (hr.deeper _) [] s1 (start N vs) H { nx := fun _ H' => Q .non H', rt := Q } I ⟨as, _, st', VY d, rp, ?_⟩) (fun fl s' hs => ?_) fun e s' hs => hs.elim
 ·unfold fnM at h
  cases q : m (qs.map some ++ List.replicate (N.length - qs.length) none) st' with
  | nx ρ' s' => rw [q] at h; exact fun as' H' σ' x rp en => h as' H' .non x rp .non
  | rt p s' => show 151
  | bk ρ' s' => show 166
  | ct ρ' s' => show 166
  | exc k ρ' s' => show 166
  | bad => show 166
 ·cases fl with
  | ret u =>
   obtain ⟨v, σ', H', J, rv, q⟩ := hs
   exact ⟨v, H', J.os, J.bare, J.base, J.hok, rv, q⟩
  | next =>
   obtain ⟨σ', H', J, q⟩ := hs
   exact ⟨V.non, H', J.os, J.bare, J.base, J.hok, rfl, q⟩
  | brk => obtain ⟨_, _, _, q⟩ := hs; exact q.elim
  | cont => obtain ⟨_, _, _, q⟩ := hs; exact q.elim
end
structure FnH (P' : Program) (w : World) (K : Frag) (mg : SOV) (base : Heap) (x : Str) (k : Nat) (ps : List Str) (mf : MF) : Prop where
 ex : ∃ f fd, Yo3 P' w K mg base k f fd ps (spM K ps.length mf) /\ mg x = some (.ref f) /\ PySem.W.keepIn K (.ref f) = true /\ Binds K fd ps []
theorem Yjy {X : Cx} {x : Str} {k : Nat} {ps : List Str} {mf : MF} {e : Expr} {es : List Expr} {mr : MA} {p pos : Pos} (F : FnH X.prog X.w X.K X.mg X.base x k ps mf) (hr : YmL k X.A) (hg : Gl X x) (ha : JA X (e :: es) mr)
 (hdb : (x == ("__debug__" : Str)) = false := by decide) (he : starEach (e :: es) X.env = (false, eval e X.env) :: starEach es X.env := by rfl) (hpl : (backTo pos (starEach es X.env)).any (·.1) = false := by rfl) :
 JE X (.Call (.Name x p) (e :: es) [] pos) (YlQ ps.length mf mr) := by
 obtain ⟨f, fd, F, hm, hk, hb⟩ := F.ex
 show 238
 refine ZBL (ZS I hg hm ?_ hdb)
 refine PySem.W.callWith_K (h₀ := X.base) I.ok.mod.kin hk (thn (ha pos pins s σ H (fun vs H1 => ∃ qs st1 as1, Ext as H as1 H1 /\ Rep X.K as1 st1 H1 /\ Dens X.K as1 H1 vs qs /\ YlL X as1 H1 ρ (if qs.length = ps.length then (match mf qs st1 with | .ok p st2 => .ok p st2 | _ => .bad) else .bad) Q) I
  ⟨as, ρ, st, en, rp, YlL.bindA h fun qs st1 as1 H1 vs x rp1 d h1 => ⟨qs, st1, as1, x, rp1, d, h1⟩⟩) fun us s1 ⟨vs, H1, I1, r, qs, st1, as1, x1, rp1, d, h1⟩ => ⟨I1.kIn, ?_⟩) he hpl
 by_cases hl : qs.length = ps.length
 ·rw [ZAE hl] at h1
  have hsp : spM X.K ps.length mf vs H1 Q (fun _ _ _ => False) := by
   refine ⟨by rw [d.length]; exact hl, as1, st1, qs, rp1, d, ?_⟩
   cases z : mf qs st1 with
   | ok p' st2 => rw [z] at h1; exact h1
   | exc xc st2 => show 187
   | bad => show 187
  have hl' : us.length = ps.length := by rw [<- r.length, d.length]; exact hl
  refine ZBZ (codeAny_mono (F.run X.A X.stack s1 H1 ⟨us, []⟩ us vs Q _ hr I1.env0 (by have := hb s1 us I1.kIn (by rw [ZAZ]; exact hl'); rwa [ZAZ] at this) r hsp) fun r s' hq => ?_)
  cases r with
  | error ev => show 167
  | ok fl =>
   cases fl with
   | ret u => exact I1.after hq
   | next => show 167
   | brk => show 167
   | cont => show 167
 ·rw [ZAF hl] at h1; exact h1.elim
section
variable {P' : Program} {w : World} {K : Frag} {mg : SOV} {base : Heap} {x : Str} {st : Stmt} {N ps : List Str} {k : Nat} {m : MS}
theorem YjG (T : Top K mg) (D : YlF K x st) (S : YlI N ps (Ylx st))
 (hb : ∀ (kV doc pm : Value) (an : Option Addr) (cdv ct : Value) (us : List Value), us.length = ps.length -> bindArgs (fnOf x x (YlH st) (YlE st) (Ylx st) .none kV doc pm an cdv ct) ⟨us, []⟩ = pure (ps.zip us))
 (hbody : ∀ (f : Addr) (cdv : Value) (A : Around) (outer : List Env) (s : Shared) (H : Hp), YmL k (A.deeper (envOfC x (Ylx st) s.heap.objs.size f cdv)) -> JSs (cxH P' w K mg base N x (Ylx st) f cdv A outer s H) (YlE st) m) :
 FnH P' w K mg base x (k + 1) ps (fnM N.length m) := by
 obtain ⟨f, oc, od, an, kV, doc, pm, cd, ct, sl, h1, h2, h3, h4⟩ := D
 have F := Yap (st := st) h2 h3 h4
 exact ⟨f, _, Mi.Fun.mirrorH F S (hbody f), T.at h1, h4, F.binds hb⟩
end
end Mi
namespace Mi
open PySem PySem.Spec L2
open PyProof.Rows hiding St
def YnY : GM := fun p ps st => match p, ps with
 | .ref k, [q] => (match Yl7 st k with
  | some xs => if Yl8 q = true /\ xs.all Yl8 = true then okP (.int ((xs.countP fun y => eqF y q : Nat) : Int)) st else none
  | none => none)
 | _, _ => none
theorem Ybe {x : V} : ∀ {xs : List V} {us : List Value}, Vals xs us -> xs.all YmP = true -> us.countP (eqU x) = xs.countP fun y => eqV y x
 | _, _, .nil, _ => rfl
 | _, _, .cons r t, h => by
  rw [ZBC, ZAb] at h
  rw [ZB4, ZB4, Ybe t h.2, YdP r h.1]
theorem Ybt {K : Frag} {as : List Addr} {H : Hp} {w : V} {q : P} (e : Den K as H w q) (h' : Yl8 q = true) : ∀ {vs : List V} {ps : List P}, Dens K as H vs ps -> ps.all Yl8 = true -> (vs.countP fun y => eqV y w) = ps.countP fun y => eqF y q
 | _, _, .nil, _ => rfl
 | _, _, .cons d r, h => by
  rw [ZBC, ZAb] at h
  rw [ZB4, ZB4, Ybt e h' r h.2, YdX d e h.1 h']
section
variable {X : Cx}
theorem Yfe : MtR X "list.count" (rMM X YnY) := mM fun pins s σ H x xs v us Q as st p ps I rx rv rp d1 d2 h => by
 match p, ps, d1, d2, h with
 | .ref k, [q], d1, d2, h =>
  have h' : YlU X as H (match Yl7 st k with | some xs => if Yl8 q = true /\ xs.all Yl8 = true then okP (.int ((xs.countP fun y => eqF y q : Nat) : Int)) st else none | none => none) Q := h
  cases z : Yl7 st k with
  | none => rw [z] at h'; exact h'.elim
  | some ys =>
   rw [z] at h'
   obtain ⟨a, vs, rfl, e, hk, h1, h2⟩ := Yar rp d1 z
   obtain ⟨y, rfl, dy⟩ := d2.one
   obtain ⟨u, rfl, ru⟩ := vals1 rv
   cases rx
   by_cases c : Yl8 q = true /\ ys.all Yl8 = true
   ·simp only [if_pos c] at h'
    obtain ⟨hz, its, n, rv', hl⟩ := (show Yme X.prog X.w H s.heap a (.lst vs) from I.hok a _ h1)
    refine call_meets F.slot_list_count ⟨_, hl, rfl⟩ F.entry_list_count (F.args_list_count_2 _ _) (SeqAt.list_countAt a its.toArray n none #[] u (eqU y)) ⟨hl, fun z hz' => Vv ru (J9 dy c.1) rv' (WO h2 c.2) z (by simpa using hz'), ?_⟩
    have e1 : its.toArray.toList.countP (eqU y) = ys.countP fun w => eqF w q := by
     rw [show its.toArray.toList = its from rfl, Ybe rv' (WO h2 c.2), Ybt dy c.1 h2 c.2]
    rw [e1]
    exact ⟨.int _, H, I.tok _, ⟨_, rfl⟩, h' as H _ Ext.refl rp .int⟩
   ·simp only [if_neg c] at h'; exact h'.elim
 | .ref k, [], _, _, h => show 142
 | .ref k, _ :: _ :: _, _, _, h => show 142
 | .non, _, _, _, h => show 142
 | .bl _, _, _, _, h => show 142
 | .int _, _, _, _, h => show 142
 | .str _, _, _, _, h => show 142
 | .tup _, _, _, _, h => show 142
end
end Mi
namespace Mi
open PySem
open Sem (wp)
section
variable {prog : Program} {w : World} {A : Around} {E : VSP} {h : Heap} {g : Array GenState} {d : Drawn} {t : Nat} {os : OsState}
variable {nm q : Str} {C N : Addr} {bs bm bmB : List Value} {hdct : Bool} {sn : List Str} {sub : List Value} {ab : Bool} {col : Option Bool} {dd : Option Addr} {k0 k1 k2 k3 k5 : Option Value} {B Bn newId nid initId inN : String} {bmN : List Value}
theorem YaZ {M : Model} {env : Env} {s : Shared} {x : Sem Value} {Q : Flow -> Shared -> Prop} (hbase : bm.contains (.type "BaseException") = true) (hh : A.handled = none)
 (hx : wpAny M A x (fun v s₁ => ∃ e oe, v = .ref e /\ s₁.heap.get? C = some (excClassObj nm q C N bs bm hdct sn sub ab col dd k0 k1 k2 k3 k5 newId) /\
  s₁.heap.get? e = some oe /\ oe.cls = .ref C /\ (∃ vs, oe.data = .fields vs /\ vs[1]? = some .none) /\ E (.ref e) s₁) E s) :
 wpAny M A (raiseStmt env (some x) none) Q E s := by
 have hcB : (Value.ref C :: bm).contains (.type "BaseException") = true := by rw [ZCH, hbase, ZCn]
 unfold raiseStmt
 refine ZAA (ZAi hx (fun v s₁ h₁ => ?_) fun _ _ x => x)
 obtain ⟨e, ⟨cls, dct, dat, slts⟩, rfl, hC, he, hcls, ⟨vs, hvs, hv1⟩, hE⟩ := h₁
 obtain rfl : cls = .ref C := hcls
 obtain rfl : dat = .fields vs := hvs
 obtain ⟨hp, g, d, tk, os⟩ := s₁
 repeat (first | with_reducible refine ZBF he ?_ | with_reducible refine ZBF hC ?_ | (with_reducible refine ZBo hC ?_; rw [hcB]) | wp_step)
 rw [hv1]
 repeat wp_step
 exact wpAny_raiseNew_none hh hE
theorem YaL (Fn : ExcBaseFacts Bn newId inN bmN) (hBn : bmB.contains (.type Bn) = true) (F : ExcBaseFacts B nid initId bmB) (T : OwnTail h bmB bm) {mN : SOV} {rest : List Value} {fI : Addr} {oI : Obj} {Q : Fin -> Shared -> Prop}
 (hC : h.get? C = some (excClassObj nm q C N bs bm hdct sn sub ab col dd k0 k1 k2 k3 k5 newId)) (hn : h.Ns N mN) (hi : mN "__init__" = some (.ref fI)) (hfI : h.get? fI = some oI) (hfc : oI.cls = .type "function")
 (hq : ∀ h' e, Heap.MadeExcOf h h' e (.ref C) rest -> h.objs.size <= h'.objs.size -> wpAny (model prog w) A (call (.ref fI) (.ref e :: rest)) (fun r s' => r = .none /\ Q (.done (.ret (.ref e))) s') E ⟨h', g, d, t, os⟩) (hrest : rest.length <= sizeLine := by size_fits) :
 wpAny (model prog w) A (Builtin.«type.__call__» ⟨.ref C :: rest, []⟩) Q E ⟨h, g, d, t, os⟩ := by
 repeat (first | with_reducible refine ZBF hC ?_ | with_reducible refine wpAny_madeBy_exc hC ?_ | wp_step)
 refine codeAny_call_builtin_code (Code.quiet_builtin _ Fn.quiet) (wpAny_check_new_subU Fn hBn T hC ?_)
 refine codeAny_exc_new_subU Fn hBn F T hC ?_ hrest
 show wpAny _ _ _ _ _ _
 have push2 : ∀ b o, h.get? b = some o -> ((h.push { cls := .type "tuple", data := .seq rest.toArray }).push { cls := .ref C, data := .fields #[.ref h.objs.size, .none, .none, .none, .bool false, .none] }).get? b = some o := fun b o e => ZAB _ (ZAB _ e)
 have hC₁ := push2 _ _ hC
 have hfI₁ := push2 _ _ hfI
 have hn₁ : ((h.push { cls := .type "tuple", data := .seq rest.toArray }).push { cls := .ref C, data := .fields #[.ref h.objs.size, .none, .none, .none, .bool false, .none] }).Ns N mN := let ⟨o, es, ep, e, r⟩ := hn; ⟨o, es, ep, push2 _ _ e, r⟩
 have hget : ((h.push { cls := .type "tuple", data := .seq rest.toArray }).push { cls := .ref C, data := .fields #[.ref h.objs.size, .none, .none, .none, .bool false, .none] }).get? (h.objs.size + 1) = some { cls := .ref C, data := .fields #[.ref h.objs.size, .none, .none, .none, .bool false, .none] } := by heap_get
 have hcC : (Value.ref C :: bm).contains (.ref C) = true := by simp
 have T₁ := T.keeps push2
 unfold isInstance
 repeat (first | with_reducible refine ZBF hget ?_ | (with_reducible refine ZBo hC₁ ?_; rw [hcC]) | wp_step)
 show wpAny _ _ (typeLookup (.ref C) _) _ _ _
 refine wpAny_typeLookup_tail hC₁ hn₁ T₁ F.mroIs F.init.lookup ?_
 rw [hi]
 refine ZAh (ZAA ?_)
 unfold bindSpecial
 refine ZAA (ZBe (T := "function") ⟨_, hfI₁, hfc⟩ ?_)
 rw [ZAE (by decide)]
 refine wpAny_pure (wpAny_bind (wpAny_mono (hq _ (h.objs.size + 1) ⟨push2, Heap.get?_none_of_le (Nat.le_succ _), h.objs.size, hget, Heap.get?_none_of_le (Nat.le_refl _), ?_⟩ (by simp [Heap.push]; omega)) (fun r s' hr => ?_) fun _ _ x => x))
 ·exact ZAB _ (Heap.get?_push_at rfl rfl)
 ·obtain ⟨rfl, hQ⟩ := hr
  wp_walk
  exact hQ
theorem Yf0 (Fn : ExcBaseFacts Bn newId inN bmN) (hBn : bmB.contains (.type Bn) = true) (F : ExcBaseFacts B nid initId bmB) (T : OwnTail h bmB bm) {mN : SOV} {rest : List Value} {fI : Addr} {oI : Obj} {Q : VSP}
 (hC : h.get? C = some (excClassObj nm q C N bs bm hdct sn sub ab col dd k0 k1 k2 k3 k5 newId)) (hn : h.Ns N mN) (hi : mN "__init__" = some (.ref fI)) (hfI : h.get? fI = some oI) (hfc : oI.cls = .type "function")
 (hq : ∀ h' e, Heap.MadeExcOf h h' e (.ref C) rest -> h.objs.size <= h'.objs.size -> wpAny (model prog w) (A.under (.builtin "type.__call__" ⟨.ref C :: rest, []⟩)) (call (.ref fI) (.ref e :: rest)) (fun r s' => r = .none /\ Q (.ref e) s') E ⟨h', g, d, t, os⟩) (hrest : rest.length <= sizeLine := by size_fits) :
 wpAny (model prog w) A (call (.ref C) rest) Q E ⟨h, g, d, t, os⟩ := by
 have f1 := tc_lookup
 have f2 := tc_bind (.ref C)
 have hT : (⟨h, g, d, t, os⟩ : Shared).TypeIs (.ref C) "type" := ⟨_, hC, rfl⟩
 refine ZBZ (codeAny_of_tree ?_)
 show wpAny _ _ (callAny (.ref C) _) _ _ _
 repeat (any_goals (first | assumption | with_reducible refine ZBF hC ?_ | wp_step))
 refine ⟨rfl, ?_⟩
 refine codeAny_call_builtin_at (Code.quiet_builtin _ (by decide +kernel)) entry_typeCall (wpAny_check_type_call_sub hC (YaL (hrest := hrest) Fn hBn F T hC hn hi hfI hfc fun h' e hm hz => ?_))
 exact hq h' e hm hz
end
section
variable {prog : Program} {w : World} {A : Around} {E : VSP} {s : Shared} {env : Env}
variable {nm q : Str} {C N : Addr} {bs bm bmB : List Value} {hdct : Bool} {sn : List Str} {sub : List Value} {ab : Bool} {col : Option Bool} {dd : Option Addr} {k0 k1 k2 k3 k5 : Option Value} {B Bn newId nid initId inN : String} {bmN : List Value}
theorem Yfy (Fn : ExcBaseFacts Bn newId inN bmN) (hBn : bmB.contains (.type Bn) = true) (F : ExcBaseFacts B nid initId bmB) {mN : SOV} {x : Str} {np cpos pos : Pos} {args : List Expr} {fI : Addr} {oI : Obj} {Q : Flow -> Shared -> Prop}
 (hbase : bm.contains (.type "BaseException") = true) (hh : A.handled = none) (hplain : (backTo cpos (starEach args env)).any (·.1) = false) (hi : mN "__init__" = some (.ref fI)) (hfc : oI.cls = .type "function")
 (h : wpAny (model prog w) A (eval (.Name x np) env) (fun f s₁ => f = .ref C /\ wpAny (model prog w) A (evalArgs (.ref C) true (backTo cpos (starEach args env)) [])
  (fun a s₂ => a.kw = [] /\ a.pos.length <= sizeLine /\ s₂.heap.get? C = some (excClassObj nm q C N bs bm hdct sn sub ab col dd k0 k1 k2 k3 k5 newId) /\ s₂.heap.Ns N mN /\ OwnTail s₂.heap bmB bm /\ s₂.heap.get? fI = some oI /\
   ∀ h' e, Heap.MadeExcOf s₂.heap h' e (.ref C) a.pos -> s₂.heap.objs.size <= h'.objs.size -> wpAny (model prog w) (A.under (.builtin "type.__call__" ⟨.ref C :: a.pos, []⟩)) (call (.ref fI) (.ref e :: a.pos)) (fun r s' => r = .none /\
    s'.heap.get? C = some (excClassObj nm q C N bs bm hdct sn sub ab col dd k0 k1 k2 k3 k5 newId) /\ ∃ oe, s'.heap.get? e = some oe /\ oe.cls = .ref C /\ (∃ vs, oe.data = .fields vs /\ vs[1]? = some .none) /\ E (.ref e) s') E { s₂ with heap := h' }) E s₁) E s) :
 wpAny (model prog w) A (exec (.Raise (some (.Call (.Name x np) args [] cpos)) none pos) env) Q E s := by
 rw [arm_exec_Raise]
 first
  | refine ZAA (ZBl (YaZ (C := C) (nm := nm) (q := q) (N := N) (bs := bs) (bm := bm) (hdct := hdct) (sn := sn) (sub := sub) (ab := ab) (col := col) (dd := dd) (k0 := k0) (k1 := k1) (k2 := k2) (k3 := k3) (k5 := k5) (newId := newId) hbase hh (ZAA (ZAi (wpAny_Call_ofName (ZAi h (fun f s₁ h₁ => ?_) fun _ _ x => x)) (fun v s₃ h₃ => ZAA (ZBl (ZAC h₃))) fun _ _ x => x))))
  | (simp only [evalOpt, Option.map]; refine wpAny_bind (wpAny_standAt (YaZ (C := C) (nm := nm) (q := q) (N := N) (bs := bs) (bm := bm) (hdct := hdct) (sn := sn) (sub := sub) (ab := ab) (col := col) (dd := dd) (k0 := k0) (k1 := k1) (k2 := k2) (k3 := k3) (k5 := k5) (newId := newId) hbase hh (wpAny_bind (wpAny_mono (wpAny_Call_ofName (wpAny_mono h (fun f s₁ h₁ => ?_) fun _ _ x => x)) (fun v s₃ h₃ => wpAny_bind (wpAny_standAt (wpAny_pure h₃))) fun _ _ x => x)))))
 obtain ⟨rfl, h₁⟩ := h₁
 unfold callWith
 refine ZAA (ZAh (ZAi h₁ (fun a s₂ h₂ => ZAA (ZBl ?_)) fun _ _ x => x))
 obtain ⟨apos, akw⟩ := a
 obtain ⟨hkw, hlen, hC, hn, T, hfI, h₂⟩ := h₂
 obtain rfl : akw = [] := hkw
 obtain ⟨hp, g, d, tk, os⟩ := s₂
 simp only [hplain]
 refine ZAA (wpAny_keeperOf_exc hC ?_)
 refine ZAA (Yf0 (hrest := hlen) Fn hBn F T hC hn hi hfI hfc fun h' e hm hz => ZAi (h₂ h' e hm hz) (fun r s' hr => ⟨hr.1, ZAA (ZAh (wpAny_point (ZAC ?_)))⟩) fun _ _ x => x)
 obtain ⟨_, hC', oe, he, hcls, hd, hE⟩ := hr
 exact ⟨e, oe, rfl, hC', he, hcls, hd, hE⟩
end
end Mi
namespace Mi
open PySem PySem.Spec L2 PySem.W
open PyProof.Rows hiding St
open Builtin Builtin.ObjectAttr
def Yn2 : List Value -> Bool
 | .ref _ :: r => Yn2 r
 | [.type a, .type b, .type c, .type d] => a == "ValueError" && b == "Exception" && c == "BaseException" && d == "object"
 | _ => false
def YmU (K : Frag) (C : Addr) : Bool := (clsIn K C).any fun cd => Yn2 cd.mro
theorem J3 : ∀ {l : List Value}, Yn2 l = true -> ∃ cs : List Addr, l = cs.map .ref ++ Ynl
 | .ref c :: r, e => by
  obtain ⟨cs, rfl⟩ := J3 (l := r) (by unfold Yn2 at e; exact e)
  exact ⟨c :: cs, rfl⟩
 | [.type a, .type b, .type c, .type d], e => by
  unfold Yn2 at e
  simp only [Bool.and_eq_true, beq_iff_eq] at e
  obtain ⟨⟨⟨rfl, rfl⟩, rfl⟩, rfl⟩ := e
  exact ⟨[], rfl⟩
theorem Jg (self : Value) : ∀ cs : List Addr, refuseLoop self "__setattr__" (cs.map Value.ref ++ Ynl) = pure ()
 | [] => PySem.F.store_ValueError.passes self
 | c :: cs => by
  show refuseLoop self "__setattr__" (.ref c :: (cs.map Value.ref ++ Ynl)) = _
  rw [refuseLoop_ref]; exact Jg self cs
theorem Ycm (T : Value) (h : Ynl.contains T = true) : ∀ cs : List Addr, (cs.map Value.ref ++ Ynl).contains T = true
 | [] => h
 | c :: cs => by
  show (Value.ref c :: (cs.map Value.ref ++ Ynl)).contains T = true
  rw [ZCH, Ycm T h cs, ZCn]
section
variable {prog : Program} {w : World} {A : Around} {E : VSP} {s : Shared} {K : Frag} {x C : Addr} {ox : Obj} {name : Str} {v : Value}
theorem YdY {odo : Option Obj} {T : Value} (X : K.In s.heap) (I : InstAt s.heap x ox C odo) (hp : YmU K C = true) (hT : Ynl.contains T = true) : Looks (model prog w) s.heap (isInstance (.ref x) T) true := by
 obtain ⟨cd, hc, ho⟩ := any_some hp
 obtain ⟨cs, hcs⟩ := J3 ho
 have ne : cd.mro.isEmpty = false := by rw [hcs]; cases cs <;> rfl
 exact I.type.andThen (looks_mroIn X (by unfold mroIn; rw [hc, Option.bind_some, if_neg (by rw [ne]; decide), hcs, Ycm T hT cs]))
theorem Yei {odo : Option Obj} {tk : Tok} {R : Result -> Shared -> Prop} (X : K.In s.heap) (I : InstAt s.heap x ox C odo) (hp : YmU K C = true) (hf : findIn K (.ref C) name = some none)
 (h : wpAny (model prog w) A.in1 (storeInOwnDict (.ref x) (.ref C) (.str name tk) name v false)
  (fun fin s' => match fin with | .done f => R (.ok f) s' | .again c' => c'.quiet = true /\ codeAny (model prog w) A c' R s') (fun e s' => R (.error e) s') s) :
 codeAny (model prog w) A (.call (.builtin "object.__setattr__") ⟨[.ref x, .str name tk, v], []⟩) R s := by
 have SF := PySem.F.store_object
 have sub := YdY (prog := prog) (w := w) (T := .type "object") X I hp (by decide)
 obtain ⟨cd, hc, ho⟩ := any_some hp
 obtain ⟨cs, hcs⟩ := J3 ho
 refine codeAny_call_builtin SF.slot.plain SF.entry (@check_slot (model prog w) _ _ s "object.__setattr__" "object" "__setattr__" (.ref x) [.str name tk, v] [] _ SF.kind SF.split sub (SF.args (.ref x) (.str name tk) v) ?_)
 have hm : Looks (model prog w) s.heap (mroOf (.ref C)) cd.mro := (looks_clsIn X hc).andThen .now
 rw [osa_eq, refuse_eq]
 refine ZAA (ZAA (I.type.here (ZAA (hm.here ?_))))
 rw [hcs, Jg]
 refine ZAC (ZAA (I.type.here (ZAA ((looks_findIn X hf).here (ZAA (ZAC ?_))))))
 exact h
theorem Yiw {vs : Array Value} {mA : SOV} {ns : List Str} {Q : Unit -> Shared -> Prop} (X : K.In s.heap) (hx : s.heap.get? x = some ox) (hcl : ox.cls = .ref C) (hdt : ox.data = .fields vs)
 (hd : (ox.dict = none /\ mA = fun _ => none) \/ ∃ dx, ox.dict = some dx /\ dx ≠ x /\ s.heap.Ns1 dx mA)
 (hs : findIn K (.ref C) "__setattr__" = some (some (.builtin "object.__setattr__"))) (hp : YmU K C = true) (hf : findIn K (.ref C) name = some none) (hh : hasDictIn K C = true)
 (hw : PySem.Within mA ns) (hsz : ns.length <= 1000)
 (h : ∀ h' t' dx, h'.get? x = some { ox with dict := some dx } -> dx ≠ x -> h'.Ns1 dx (fun y => if y = name then some v else mA y) -> (ox.dict = some dx \/ (ox.dict = none /\ s.heap.get? dx = none)) ->
  (∀ b o, b ≠ x -> b ≠ dx -> s.heap.get? b = some o -> h'.get? b = some o) -> Q () { s with heap := h', toks := t' }) :
 wpAny (model prog w) A (setAttr (.ref x) name v) Q E s := by
 obtain ⟨oc, odi, oda, osl⟩ := ox
 dsimp only at hcl hdt hd
 subst hcl hdt
 obtain ⟨cd, hc, hd'⟩ := any_some hh
 have hsl := sizeLine_eq
 rcases hd with ⟨rfl, rfl⟩ | ⟨dx, rfl, hne, hns⟩
 ·have J : InstAt s.heap x ⟨.ref C, none, .fields vs, osl⟩ C none := ⟨hx, rfl, rfl, trivial⟩
  refine set_plain X J hs (Yei (s := { s with toks := s.toks + 1 }) X J hp hf ?_)
  refine ZAA (ZAC (ZAA (ZAA (ZCd hx (ZAA (Looks.here (s := { s with toks := s.toks + 1 }) (looks_clsIn X hc) ?_))))))
  rw [hd']
  have hx₁ : (s.heap.push { cls := .type "dict", data := .dict #[] }).get? x = some ⟨.ref C, none, .fields vs, osl⟩ := ZAB _ hx
  have hxs : x ≠ s.heap.objs.size := ZAP (ZAG hx)
  refine ZAA (wpAny_alloc' ?_)
  refine ZAA (wpAny_update' hx₁ ?_)
  refine ZAC ?_
  have hgd : ((s.heap.push { cls := .type "dict", data := .dict #[] }).update x fun o => { cls := o.cls, dict := some s.heap.objs.size, data := o.data, slots := o.slots }).get? s.heap.objs.size
   = some { cls := .type "dict", data := .dict #[] } := (ZCC _ _ _ _ hxs.symm).trans (Heap.get?_push_at rfl rfl)
  have hnd : ((s.heap.push { cls := .type "dict", data := .dict #[] }).update x fun o => { cls := o.cls, dict := some s.heap.objs.size, data := o.data, slots := o.slots }).Ns s.heap.objs.size (fun _ => none) :=
   ⟨_, #[], _, hgd, rfl, fun e he => absurd he (by simp), fun _ => rfl⟩
  refine ZAA (ZAC (ZAA (wpAny_nsSet1 (Heap.Ns1.of_empty hnd) fun h' hn2 hs2 => ?_)))
  obtain ⟨oD, esD, epD, hoD, hdD, hcD⟩ := hn2.count (PySem.Within.cons name v hw)
  refine ZAA (wpAny_lookBehind hoD (by rw [hdD]; exact pastItsLine_dict (ZAO hcD (by rw [ZAQ]; omega))) ?_)
  refine ZAC (h h' _ s.heap.objs.size ?_ hxs.symm hn2 (.inr ⟨rfl, ZBh (ZAI _)⟩) fun b o n1 n2 e => ?_)
  ·exact (hs2.2 x hxs).trans (ZAq _ hx₁ rfl)
  ·exact (hs2.2 b n2).trans ((ZCC _ _ _ _ n1).trans (ZAB _ e))
 ·have hdo : ∃ od, s.heap.get? dx = some od := let ⟨o, _, _, e, _⟩ := hns; ⟨o, e⟩
  obtain ⟨od, ho⟩ := hdo
  have J : InstAt s.heap x ⟨.ref C, some dx, .fields vs, osl⟩ C (some od) := ⟨hx, rfl, rfl, ho⟩
  refine set_plain X J hs (Yei (s := { s with toks := s.toks + 1 }) X J hp hf ?_)
  refine ZAA (ZAC (ZAA (ZAA (ZCd hx (ZAA (Looks.here (s := { s with toks := s.toks + 1 }) (looks_clsIn X hc) ?_))))))
  rw [hd']
  refine ZAC (a := some dx) (ZAA (ZAC (ZAA ?_)))
  refine wpAny_nsSet1 (s := { s with toks := s.toks + 1 }) hns fun h' hn2 hs2 => ?_
  obtain ⟨oD, esD, epD, hoD, hdD, hcD⟩ := hn2.count (PySem.Within.cons name v hw)
  refine ZAA (wpAny_lookBehind hoD (by rw [hdD]; exact pastItsLine_dict (ZAO hcD (by rw [ZAQ]; omega))) ?_)
  exact ZAC (h h' _ dx ((hs2.2 _ (ZBA hne)).trans hx) hne hn2 (.inl rfl) fun b o n1 n2 e => (hs2.2 b n2).trans e)
end
end Mi
namespace Mi
open PySem PySem.Spec L2 PySem.W
open PyProof.Rows hiding St
open Builtin Builtin.ObjectAttr
section
variable {prog : Program} {w : World} {A : Around} {E : VSP} {s : Shared} {K : Frag} {x C : Addr} {ox : Obj}
theorem YfZ {odo : Option Obj} {vs : Array Value} {rest : List Value} {Q : VSP} (X : K.In s.heap) (J : InstAt s.heap x ox C odo) (hp : YmU K C = true) (hdt : ox.data = .fields vs) {T0 : Addr} (hv0 : vs[0]? = some (.ref T0)) (hrest : rest.length <= 1000)
 (h : ∀ h' T, s.heap.get? T = none -> h'.get? x = some { ox with data := .fields (vs.setIfInBounds 0 (.ref T)) } -> (∀ b o, b ≠ x -> s.heap.get? b = some o -> h'.get? b = some o) -> Q .none { s with heap := h' }) :
 wpAny (model prog w) A (call (.builtin "ValueError.__init__") (.ref x :: rest)) Q E s := by
 have F := PySem.F.excBase_ValueError
 have hshort := F.noStar
 have sub := YdY (prog := prog) (w := w) (T := .type "ValueError") X J hp (by decide)
 obtain ⟨hx, hcl, -, -⟩ := J
 obtain ⟨oc, odi, oda, osl⟩ := ox
 dsimp only at hcl hdt
 subst hcl hdt
 obtain ⟨cd, hc, -⟩ := any_some hp
 have LC := looks_clsIn (M := model prog w) X hc
 show 227
 have hx0 : hh.get? x = some ⟨.ref C, odi, .fields vs, osl⟩ := hx
 refine ZBZ (codeAny_call_builtin F.init.plain F.initEntry ?_)
 simp only [checkBuiltinCall, F.initKind, F.initSplit, F.initRow]
 refine ZAA (sub.here ?_)
 simp only [Bool.not_true, Bool.false_eq_true, if_false]
 repeat (first | with_reducible refine ZBF hx0 ?_ | refine LC.here ?_ | wp_step)
 refine wpAny_onRaise ?_
 rw [show ∀ (a b : String) (n : Nat), Bind.check ⟨.positional, "*", "ValueError", .self, [⟨"args", .varPos, false⟩]⟩ a b n (List.map (fun x => x.fst) ({ pos := Value.ref x :: rest } : Args).kw) = pure () from
  fun a b n => check_star_args _ _ _ _ _ _]
 refine ZAC ?_
 have hz : rest.length <= sizeLine := by rw [sizeLine_eq]; omega
 wp_walk
 rw [hv0]
 wp_walk
 rw [ZAE (show 0 < vs.size from (ZBJ.mp hv0).1)]
 have hx1 : (hh.push { cls := .type "tuple", data := .seq rest.toArray }).get? x = some ⟨.ref C, odi, .fields vs, osl⟩ := ZAB _ hx0
 refine wpAny_update' hx1 ?_
 wp_walk
 refine h _ hh.objs.size (ZBh (ZAI _)) ?_ fun b o n e => ?_
 ·refine (ZAq _ (ZAB _ hx0) ?_).trans ?_
  ·rfl
  ·rfl
 ·exact (ZCC _ _ _ _ n).trans (ZAB _ e)
end
section
variable {X : Cx} {pins : LAO} {σ : St} {H H' : Hp} {s : Shared}
theorem Ze {p : Addr × Obj} (I : Inv X pins σ H s) (hp : p ∈ pins) : s.heap.get? p.1 = some p.2 /\ H p.1 = none /\ p.1 ≠ X.env.locals /\ (∀ x c, X.env.cells.lookup x = some c -> c ≠ p.1) /\ p.1 ∉ frs X.stack := by
 obtain ⟨e, n, ne, nf, d⟩ := I.pin p (ZAX _ hp)
 refine ⟨e, n, ne, fun x c q z => ?_, fun z => ?_⟩
 ·obtain ⟨v, o, ho, hd⟩ := I.cell x c q
  rw [z, e] at ho; cases ho
  exact d v hd
 ·rcases ZAT.mp (I.stkSub p.1 z) with y | y
  ·exact ne y
  ·exact nf y
theorem _root_.L2.Inv.swap {pins' : LAO} {h' : Heap} {t' : Nat} (I : Inv X pins σ H s) (hpn : X.pn = []) (fs : ∀ b ∈ X.fs, b ∈ frs X.stack)
 (hch : ∀ p ∈ pins', (p.1 ∈ X.ex \/ X.s₀.heap.get? p.1 = none) /\ p.1 ≠ X.env.locals /\ (∀ x c, X.env.cells.lookup x = some c -> c ≠ p.1) /\ p.1 ∉ frs X.stack /\ H p.1 = none /\ h'.get? p.1 = some p.2 /\ ∀ v, p.2.data ≠ .cell v)
 (keep : ∀ b o, b ∉ pins'.map (·.1) -> s.heap.get? b = some o -> h'.get? b = some o) : Inv X pins' σ H { s with heap := h', toks := t' } := by
 have I0 : Inv X [] σ H s := I.pins_of fun p hp => absurd hp (by simp)
 obtain ⟨m, ⟨oL, es, ep, hoL, _⟩, _⟩ := id I.loc
 have ne : ∀ b, b ∈ pins'.map (·.1) -> ∃ p ∈ pins', p.1 = b := fun b hb => by
  obtain ⟨p, hp, e⟩ := ZAj.mp hb
  exact ⟨p, hp, e⟩
 have q := L2.Inv.stepN (t' := t') (h' := h') (H' := H) (ch := pins'.map (·.1)) I0 (fun b hb => by
  obtain ⟨p, hp, rfl⟩ := ne b hb
  obtain ⟨a1, a2, a3, a4, _⟩ := hch p hp
  exact ⟨⟨a1, fun r hr => absurd hr (by rw [hpn]; simp)⟩, a2, a3, a4⟩)
  (fun b o _ hc e _ => keep b o hc e) (fun b o hb e => ⟨o.slots, keep b o (fun z => by obtain ⟨p, hp, rfl⟩ := ne b z; exact (hch p hp).2.2.2.1 hb) e⟩) (fun b _ q => q)
  (fun b o hc e => ⟨o, keep b o hc e⟩) (fun b u q => q) ⟨oL, oL.slots, hoL, keep _ _ (fun z => by obtain ⟨p, hp, e⟩ := ne _ z; exact (hch p hp).2.1 e) hoL⟩ fs (fun b u e => by
   refine (I.hok b u e).stay (fun c v hc q => keep c v (fun z => ?_) q) (fun _ q => q) fun _ _ q => q
   obtain ⟨p, hp, rfl⟩ := ne c z
   have hn := (hch p hp).2.2.2.2.1
   rcases hc with hc | hc
   ·rw [hc, e] at hn; cases hn
   ·rw [hc] at hn; cases hn)
 refine q.pins_of fun p hp => ?_
 obtain ⟨a1, a2, a3, a4, a5, a6, a7⟩ := hch p hp
 exact ⟨a6, a5, a2, fun z => a4 (fs _ z), a7⟩
end
end Mi
namespace Mi
open PySem PySem.Spec L2 PySem.W
open PyProof.Rows hiding St
def Short (v : V) : Prop := (∃ i : Int, v = .int i /\ i.natAbs.log2 < 1920) \/ ∃ x : Str, v = .str x /\ x.length <= 2000
structure Own (X : Cx) : Prop where
 pn : X.pn = []
 ex : X.ex = []
 fs : ∀ b ∈ X.fs, b ∈ frs X.stack
section
variable {X : Cx} {pins : LAO} {σ : St} {H : Hp} {s : Shared}
theorem Ye0 (I : Inv X pins σ H s) (hx : X.ex = []) {b : Addr} (h : s.heap.get? b = none) :
 X.s₀.heap.get? b = none /\ b ≠ X.env.locals /\ (∀ x c, X.env.cells.lookup x = some c -> c ≠ b) /\ b ∉ frs X.stack /\ H b = none := by
 refine ⟨?_, fun z => ?_, fun x c q z => ?_, fun z => ?_, untracked I h⟩
 ·rcases (JN I h).1 with q | q
  ·rw [hx] at q; cases q
  ·exact q
 ·obtain ⟨m, ⟨o, es, ep, e, _⟩, _⟩ := I.loc
  rw [<- z, h] at e; cases e
 ·obtain ⟨v, o, e, _⟩ := I.cell x c q
  rw [z, h] at e; cases e
 ·obtain ⟨_, o, e, _⟩ := I.stack.mem z
  rw [h] at e; cases e
def PJ (X : Cx) (σ : St) (e : Expr) : Prop := ∀ (pins : LAO) (s : Shared) (H : Hp) (Q : VSP), Inv X pins σ H s ->
 (∀ (x : Str) t s1, x.length <= 2000 -> Inv X pins σ H s1 -> Q (.str x t) s1) -> wpAny (model X.prog X.w) X.A (eval e X.env) Q X.xe s
theorem VR {x : Str} {j pos} (h : x.length <= 2000) : PJ X σ (.Constant (.str x) j pos) := fun pins s H Q I hq => Calls.Constant_str (hq x _ _ h (I.tok _))
theorem V4 {i : Nat} {x : Str} {p pos : Pos} {v : V} (hN : X.N[i]? = some x) (hv : Vis X.env.scope x) (e : σ[i]? = some (some v)) (hs : Short v) (hd : (x == ("__debug__" : Str)) = false := by decide) (hcd : (x == ("__classdict__" : Str)) = false := by decide) :
 PJ X σ (.FormattedValue (.Name x p) (-1) none pos) := by
 intro pins s H Q I hq
 refine wpAny_FormattedValue_plain (thn (VW hN hv hd hcd pins s σ H (fun v' H' => v' = v /\ H' = H) I ⟨v, e, rfl, rfl⟩) fun u s1 ⟨v', H', I1, r, e1, e2⟩ => ?_)
 subst e1 e2
 rcases hs with ⟨i, rfl, hi⟩ | ⟨y, rfl, hy⟩
 ·show 204
  refine wpAny_formatField_int hi (hq _ _ _ ?_ (I1.tok _))
  have := int_text_length_le (k := 1920) (by decide) hi
  show (Str.ofString (toString i)).length <= 2000
  rw [PySem.ofString_length]; omega
 ·show 204
  exact wpAny_formatField_str (hq _ _ _ hy I1) (hq _ _ _ hy (I1.tok _)) (by rw [sizeLine_eq]; omega)
theorem YaT {Q : Str -> Shared -> Prop} : ∀ (es : List Expr) (acc : Str) (s : Shared), (∀ e ∈ es, PJ X σ e) -> acc.length + 2000 * es.length <= 100000 -> Inv X pins σ H s -> (∀ out s1, out.length <= 100000 -> Inv X pins σ H s1 -> Q out s1) ->
 Joins (model X.prog X.w) X.A X.xe (evalEach es X.env) acc Q s
 | [], acc, s, _, hl, I, hq => Joins_nil (hq acc s (by simpa using hl) I)
 | e :: es, acc, s, h, hl, I, hq => Joins_cons (h e (by simp) pins s H _ I fun x t s1 hx I1 => by
  have e1 := strLen_append acc x
  rw [ZAQ] at hl
  exact ⟨x, t, rfl, by rw [e1, sizeLine_eq]; omega, YaT es (acc ++ x) s1 (fun y hy => h y (ZAW _ hy)) (by rw [e1]; omega) I1 hq⟩)
theorem YeA {v1 v2 : Expr} {rest : List Expr} {pos : Pos} {Q : VSP} (h : ∀ e ∈ v1 :: v2 :: rest, PJ X σ e) (hl : rest.length <= 40) (I : Inv X pins σ H s) (hq : ∀ x t s1, Inv X pins σ H s1 -> Q (.str x t) s1) :
 wpAny (model X.prog X.w) X.A (eval (.JoinedStr (v1 :: v2 :: rest) pos) X.env) Q X.xe s :=
 wpAny_JoinedStr (YaT _ _ _ h (by show (0 : Nat) + _ <= _; rw [ZAQ, ZAQ]; omega) I fun out s1 hz I1 => ⟨by rw [sizeLine_eq]; omega, hq _ _ _ (I1.tok _)⟩)
def Yol (X : Cx) (σ : St) (H : Hp) (e C : Addr) (fs : List (Str × V)) (s : Shared) : Prop := ∃ pins oe vs T0, Inv X pins σ H s /\ (e, oe) ∈ pins /\ X.s₀.heap.get? e = none /\ oe.cls = .ref C /\ oe.data = .fields vs /\ vs[0]? = some (.ref T0) /\ vs[1]? = some .none /\
 ((oe.dict = none /\ fs = []) \/ ∃ d od mA, oe.dict = some d /\ d ≠ e /\ (d, od) ∈ pins /\ X.s₀.heap.get? d = none /\ (∀ h : Heap, h.get? d = some od -> h.Ns1 d mA) /\ (∀ f, Ym0 (fs.lookup f) (mA f)) /\ PySem.Within mA (fs.map (·.1)))
def Yoe (X : Cx) (σ : St) (H : Hp) (e C : Addr) (s : Shared) : Prop := ∃ pins oe vs T0, Inv X pins σ H s /\ (e, oe) ∈ pins /\ X.s₀.heap.get? e = none /\ oe.cls = .ref C /\ oe.data = .fields vs /\ vs[0]? = some (.ref T0) /\ vs[1]? = some .none /\ oe.dict = none
theorem Yoe.half {e C : Addr} (h : Yoe X σ H e C s) : Yol X σ H e C [] s := by
 obtain ⟨pins, oe, vs, T0, I, a1, a2, a3, a4, a5, a6, a7⟩ := h
 exact ⟨pins, oe, vs, T0, I, a1, a2, a3, a4, a5, a6, .inl ⟨a7, rfl⟩⟩
theorem Yi7 {h : Heap} {d : Addr} {mA : SOV} (x : h.Ns1 d mA) : ∃ od, h.get? d = some od /\ (∀ v, od.data ≠ .cell v) /\ ∀ h' : Heap, h'.get? d = some od -> h'.Ns1 d mA := by
 obtain ⟨o, es, ep, e, hd, r⟩ := x
 refine ⟨o, e, ?_, fun h' e' => ⟨o, es, ep, e', hd, r⟩⟩
 intro v q
 rw [hd] at q; cases q
theorem Ya5 {o : Obj} {vs : Array Value} (h : o.data = .fields vs) (v : Option Value) : o.data ≠ .cell v := fun q => by rw [h] at q; cases q
variable {e C : Addr} {fs : List (Str × V)}
theorem YeV {G : Addr} {mc : Value} {g sf : Str} {gp ap sp jp cp ep : Pos} {v1 v2 : Expr} {rest : List Expr} {D : Flow -> Shared -> Prop} {pl : Sem Bool} (O : Own X) (Hf : Yoe X σ H e C s)
 (hp : YmU X.K C = true) (hg : Gl X g) (hm : X.mg g = some (.ref G)) (h1 : specialIn X.K (.ref G) "__getattribute__" = some (some (.builtin "type.__getattribute__"))) (h2 : readsIn X.K G mc = true) (h3 : findCls X.K (.ref G) mc "__init__" = some (.val (.builtin "ValueError.__init__")))
 (hN : X.N[0]? = some sf) (hv : Vis X.env.scope sf) (hs0 : σ[0]? = some (some (.ref e))) (hj : ∀ x ∈ v1 :: v2 :: rest, PJ X σ x) (hl : rest.length <= 40)
 (ht : eval (.Call (.Attribute (.Name g gp) "__init__" ap) [.Name sf sp, .JoinedStr (v1 :: v2 :: rest) jp] [] cp) X.env = (do
  let ov <- eval (.Name g gp) X.env
  standAt ap.atName
  let (f, first) <- holding [ov] (getMethod ov "__init__" pl)
  callWith cp f first (backTo cp (starEach [.Name sf sp, .JoinedStr (v1 :: v2 :: rest) jp] X.env)) (backToKw cp (keywordEach [] X.env))))
 (hdb : (g == ("__debug__" : Str)) = false) (hd : (sf == ("__debug__" : Str)) = false) (hcd : (sf == ("__classdict__" : Str)) = false) (hsw : swapsWith (.Call (.Attribute (.Name g gp) "__init__" ap) [.Name sf sp, .JoinedStr (v1 :: v2 :: rest) jp] [] cp) none ep.line X.env = pure false)
 (hq : ∀ s', Yoe X σ H e C s' -> D .next s') :
 wpAny (model X.prog X.w) X.A (exec (.Expr (.Call (.Attribute (.Name g gp) "__init__" ap) [.Name sf sp, .JoinedStr (v1 :: v2 :: rest) jp] [] cp) ep) X.env) D X.xe s := by
 obtain ⟨pins, oe, vs, T0, I, hpe, he0, hcl, hdt, hv0, hv1, hnone⟩ := Hf
 refine wpAny_Expr_any (methodCall_KW (pl := pl) (ZS I hg hm (method_cls I.kIn h1 (cls_value I.kIn h2 h3 rfl ?_)) hdb) ht) I.quiet hsw
 refine callWith_builtin1 ?_ rfl rfl
 have I1 : Inv X pins σ H { s with toks := s.toks + 1 } := I.tok _
 refine Calls.spliced_cons (thn (VW hN hv hd hcd pins _ σ H (fun v' H' => v' = .ref e /\ H' = H) I1 ⟨_, hs0, rfl, rfl⟩) fun u s1 ⟨v', H', I2, r, e1, e2⟩ => ?_)
 subst e1 e2
 obtain rfl : u = .ref e := r
 refine Calls.spliced_cons (YeA (pos := jp) hj hl I2 fun x t s2 I3 => Calls.spliced_nil ?_)
 obtain ⟨hpa, hHe, hL, hC, hF⟩ := Ze I3 hpe
 have J : InstAt s2.heap e oe C none := ⟨hpa, hcl, by unfold notCls; rw [hdt], by rw [hnone]; trivial⟩
 refine YfZ I3.kIn J hp hdt hv0 (by simp) fun h' T hT hx hk => ?_
 have I4 : Inv X [(e, { oe with data := .fields (vs.setIfInBounds 0 (.ref T)) })] σ H' { s2 with heap := h' } := by
  have := L2.Inv.swap (pins' := [(e, { oe with data := .fields (vs.setIfInBounds 0 (.ref T)) })]) (h' := h') (t' := s2.toks) I3 O.pn O.fs (fun p hp => by
   obtain rfl := ZA1.mp hp
   exact ⟨.inr he0, hL, hC, hF, hHe, hx, Ya5 (vs := vs.setIfInBounds 0 (.ref T)) rfl⟩) (fun b o hb eo => hk b o (by simpa using hb) eo)
  exact this
 have hsz : 1 < vs.size := (ZBJ.mp hv1).1
 refine hq _ ⟨_, _, _, T, I4, ZB0 _, he0, hcl, rfl, ?_, ?_, hnone⟩
 ·rw [Array.getElem?_setIfInBounds_self_of_lt (by omega)]
 ·rw [Array.getElem?_setIfInBounds_ne (by decide)]; exact hv1
theorem YgG {a sf x : Str} {i : Nat} {v : V} {ap sp xp pos : Pos} {D : Flow -> Shared -> Prop} (O : Own X) (Hf : Yol X σ H e C fs s) (hlen : fs.length <= 900)
 (hp : YmU X.K C = true) (hsa : findIn X.K (.ref C) "__setattr__" = some (some (.builtin "object.__setattr__"))) (hf : findIn X.K (.ref C) a = some none) (hh : hasDictIn X.K C = true)
 (hN : X.N[0]? = some sf) (hv : Vis X.env.scope sf) (hs0 : σ[0]? = some (some (.ref e))) (hNx : X.N[i]? = some x) (hvx : Vis X.env.scope x) (hsx : σ[i]? = some (some v))
 (hd : (sf == ("__debug__" : Str)) = false) (hcd : (sf == ("__classdict__" : Str)) = false) (hdx : (x == ("__debug__" : Str)) = false) (hcdx : (x == ("__classdict__" : Str)) = false)
 (hsw : swapsWith (.Name x xp) (some (.Attribute (.Name sf sp) a ap)) pos.line X.env = pure false)
 (hq : ∀ s', Yol X σ H e C ((a, v) :: fs) s' -> D .next s') :
 wpAny (model X.prog X.w) X.A (exec (.Assign [.Attribute (.Name sf sp) a ap] (.Name x xp) pos) X.env) D X.xe s := by
 obtain ⟨pins, oe, vs, T0, I, hpe, he0, hcl, hdt, hv0, hv1, hdc⟩ := Hf
 refine plainObj_wpAny_Assign_Attribute (thn (VW hNx hvx hdx hcdx pins s σ H (fun v' H' => v' = v /\ H' = H) I ⟨_, hsx, rfl, rfl⟩) fun u s1 ⟨v', H', I1, ru, e1, e2⟩ => ?_) hsw
 subst e1 e2
 refine thn (VW hN hv hd hcd pins s1 σ H' (fun v'' H'' => v'' = .ref e /\ H'' = H') I1 ⟨_, hs0, rfl, rfl⟩) fun ov s2 ⟨v'', H'', I2, r, e1, e2⟩ => ?_
 subst e1 e2
 obtain rfl : ov = .ref e := r
 obtain ⟨hpa, hHe, hL, hC, hF⟩ := Ze I2 hpe
 have key : ∃ mA : Str -> Option Value, ((oe.dict = none /\ mA = fun _ => none) \/ ∃ dx, oe.dict = some dx /\ dx ≠ e /\ s2.heap.Ns1 dx mA) /\ (∀ f, Ym0 (fs.lookup f) (mA f)) /\ PySem.Within mA (fs.map (·.1)) /\ ∀ dx, oe.dict = some dx -> ∃ od, (dx, od) ∈ pins /\ X.s₀.heap.get? dx = none := by
  rcases hdc with ⟨d1, rfl⟩ | ⟨d, od, mA, d1, d2, d3, d4, d5, d6, d7⟩
  ·exact ⟨fun _ => none, .inl ⟨d1, rfl⟩, fun f => trivial, PySem.Within.nil, fun dx q => by rw [d1] at q; cases q⟩
  ·refine ⟨mA, .inr ⟨d, d1, d2, d5 _ (Ze I2 d3).1⟩, d6, d7, fun dx q => ?_⟩
   rw [d1] at q; cases q
   exact ⟨od, d3, d4⟩
 obtain ⟨mA, hd', hrel, hw, hdp⟩ := key
 refine Yiw I2.kIn hpa hcl hdt hd' hsa hp hf hh hw (by rw [ZAH]; omega) fun h' t' dx hx' hne hns hor hk => ?_
 obtain ⟨od, hod, hnc, hall⟩ := Yi7 hns
 have apart : X.s₀.heap.get? dx = none /\ dx ≠ X.env.locals /\ (∀ x c, X.env.cells.lookup x = some c -> c ≠ dx) /\ dx ∉ frs X.stack /\ H'' dx = none := by
  rcases hor with q | ⟨_, q⟩
  ·obtain ⟨od', m1, m2⟩ := hdp dx q
   obtain ⟨_, b1, b2, b3, b4⟩ := Ze I2 m1
   exact ⟨m2, b2, b3, b4, b1⟩
  ·exact Ye0 I2 O.ex q
 obtain ⟨a0, a1, a2, a3, a4⟩ := apart
 have I4 : Inv X [(e, { oe with dict := some dx }), (dx, od)] σ H'' { s2 with heap := h', toks := t' } := by
  refine L2.Inv.swap (pins' := [(e, { oe with dict := some dx }), (dx, od)]) (h' := h') (t' := t') I2 O.pn O.fs (fun p hp => ?_) (fun b o hb eo => ?_)
  ·rcases ZAT.mp hp with rfl | hp
   ·exact ⟨.inr he0, hL, hC, hF, hHe, hx', Ya5 (vs := vs) hdt⟩
   ·obtain rfl := ZA1.mp hp
    exact ⟨.inr a0, a1, a2, a3, a4, hod, hnc⟩
  ·simp only [List.map_cons, List.map_nil, List.mem_cons, List.not_mem_nil, or_false, not_or] at hb
   exact hk b o hb.1 hb.2 eo
 refine hq _ ⟨_, _, vs, T0, I4, ZAc, he0, hcl, hdt, hv0, hv1, .inr ⟨dx, od, _, rfl, hne, ZAW _ (ZB0 _), a0, hall, fun f => ?_, ?_⟩⟩
 ·rw [ZA6]
  by_cases z : f = a
  ·subst z; simp; exact ru
  ·rw [ZAF z, show (f == a) = false from beq_eq_false_iff_ne.mpr z]; exact hrel f
 ·exact PySem.Within.cons a u hw
end
end Mi
namespace Mi
open PySem PySem.Spec L2 PySem.W
open PyProof.Rows hiding St
def shapeOf (o : Obj) : Option (ClassData × List (Option Value)) := match o with
 | { cls := .type t, data := .cls d, slots := z, .. } => if t = "type" then some (d, z.toList) else none
 | _ => none
def Ypr : List (Option Value) -> Bool
 | [_, _, _, _, some (.builtin n), _] => n == "ValueError.__new__"
 | _ => false
def behind (C : Addr) : List Value -> Option (List Value)
 | .ref D :: r => if D = C then some r else none
 | _ => none
def Yni (K : Frag) (C fI : Addr) : Bool := match (K.lookup C).bind shapeOf with
 | some (d, z) => Ypr z && (!d.hasDel && (nsOkIn K d.ns && ((nsIn K d.ns "__init__" == some (some (.ref fI))) && (match behind C d.mro with | some r => tailIn K Ynl r | none => false))))
 | none => false
theorem Yfx {K : Frag} {h : Heap} {N : Addr} {m : SOV} {x : Str} {v : Value} (X : K.In h) (G : h.Ns N m) (q : nsIn K N x = some (some v)) : m x = some v := by
 obtain ⟨ob, tab, pp, k1, k2, _, k3⟩ := G
 unfold nsIn at q
 split at q
 ·rename_i hl
  have k4 := X _ _ hl
  rw [k1] at k4
  cases k4
  cases k2
  split at q
  ·rename_i u hu
   cases q
   rw [<- k3, nsFind, findBy, <- Array.find?_toList, hu]
   rfl
  ·split at q <;> cases q
 ·cases q
theorem YdZ {K : Frag} {h : Heap} {C fI : Addr} (X : K.In h) (q : Yni K C fI = true) : ∃ (nm qn : Str) (N : Addr) (bs bm : List Value) (hdct : Bool) (sn : List Str) (sub : List Value) (ab : Bool) (col : Option Bool) (dd : Option Addr) (k0 k1 k2 k3 k5 : Option Value),
 h.get? C = some (excClassObj nm qn C N bs bm hdct sn sub ab col dd k0 k1 k2 k3 k5 "ValueError.__new__") /\ h.Ns N (h.nsMap N) /\ h.nsMap N "__init__" = some (.ref fI) /\ OwnTail h Ynl bm := by
 unfold Yni at q
 cases hl : K.lookup C with
 | none => rw [hl] at q; cases q
 | some o =>
  rw [hl, ZCP] at q
  cases hs : shapeOf o with
  | none => rw [hs] at q; cases q
  | some dz =>
   obtain ⟨d, z⟩ := dz
   rw [hs] at q
   simp only [Bool.and_eq_true, Bool.not_eq_true', beq_iff_eq] at q
   obtain ⟨q1, q2, q3, q4, q5⟩ := q
   have ho := X _ _ hl
   unfold shapeOf at hs
   split at hs
   ·rename_i t dd d' z'
    split at hs
    ·rename_i ht
     cases hs
     subst ht
     unfold Ypr at q1
     split at q1
     ·rename_i k0 k1 k2 k3 n k5 hz
      have hn : n = "ValueError.__new__" := by simpa using q1
      subst hn
      have hz' : z' = #[k0, k1, k2, k3, some (.builtin "ValueError.__new__"), k5] := by
       obtain ⟨l⟩ := z'
       simp only at hz
       rw [hz]
      subst hz'
      obtain ⟨nm, bs, mro, ns, qn, hd, sn, sub, ab, col, del⟩ := d
      dsimp only at q2 q3 q4 q5 ho
      subst q2
      split at q5
      ·rename_i r hb
       unfold behind at hb
       split at hb
       ·rename_i D r'
        split at hb
        ·rename_i hD
         cases hb
         subst hD
         have hn := Heap.Ns.of_isNs (isNs_of_in X q3)
         exact ⟨nm, qn, ns, bs, r, hd, sn, sub, ab, col, dd, k0, k1, k2, k3, k5, ho, hn, Yfx X hn q4, tail_of_in X q5⟩
        ·cases hb
       ·cases hb
      ·cases q5
     ·cases q1
    ·cases hs
   ·cases hs
def YoE : Option CFound -> Bool
 | some (.val (.builtin id)) => id == "ValueError.__init__"
 | _ => false
theorem Ygc {r : Option CFound} (h : YoE r = true) : r = some (.val (.builtin "ValueError.__init__")) := by
 unfold YoE at h
 split at h
 ·rw [ZBx.mp h]
 ·cases h
def Yov (K : Frag) (C G fI : Addr) (ats : List Str) : Bool := Yni K C fI && (YmU K C && ((findIn K (.ref C) "__setattr__" == some (some (.builtin "object.__setattr__"))) && (hasDictIn K C && ((specialIn K (.ref G) "__getattribute__" == some (some (.builtin "type.__getattribute__"))) &&
 (readsIn K G (.type "type") && (YoE (findCls K (.ref G) (.type "type") "__init__") && ats.all fun a => findIn K (.ref C) a == some none))))))
structure YoT (K : Frag) (C G : Addr) (ats : List Str) : Prop where
 over : YmU K C = true
 sa : findIn K (.ref C) "__setattr__" = some (some (.builtin "object.__setattr__"))
 hd : hasDictIn K C = true
 sp : specialIn K (.ref G) "__getattribute__" = some (some (.builtin "type.__getattribute__"))
 rd : readsIn K G (.type "type") = true
 cl : findCls K (.ref G) (.type "type") "__init__" = some (.val (.builtin "ValueError.__init__"))
 no : ∀ a ∈ ats, findIn K (.ref C) a = some none
theorem Yg3 {K : Frag} {C G fI : Addr} {ats : List Str} (h : Yov K C G fI ats = true) : Yni K C fI = true /\ YoT K C G ats := by
 unfold Yov at h
 simp only [Bool.and_eq_true, beq_iff_eq, List.all_eq_true] at h
 obtain ⟨a1, a2, a3, a4, a5, a6, a7, a8⟩ := h
 exact ⟨a1, a2, a3, a4, a5, a6, Ygc a7, a8⟩
section
variable {X : Cx} {σ : St} {e C : Addr} {fs fs' : List (Str × V)}
def You (X : Cx) (σ : St) (e C : Addr) (ss : List Stmt) (fs fs' : List (Str × V)) : Prop := ∀ (H : Hp) (s : Shared) (D : Flow -> Shared -> Prop), Yol X σ H e C fs s -> (∀ s', Yol X σ H e C fs' s' -> D .next s') -> wpAny (model X.prog X.w) X.A (execs ss X.env) D X.xe s
def Yoi (X : Cx) (σ : St) (e C : Addr) (ss : List Stmt) (fs' : List (Str × V)) : Prop := ∀ (H : Hp) (s : Shared) (D : Flow -> Shared -> Prop), Yoe X σ H e C s -> (∀ s', Yol X σ H e C fs' s' -> D .next s') -> wpAny (model X.prog X.w) X.A (execs ss X.env) D X.xe s
theorem Ygq : You X σ e C [] fs fs := fun H s D h hq => ZBY (hq s h)
theorem VI {G : Addr} {ats : List Str} {a sf x : Str} {i : Nat} {v : V} {ap sp xp pos : Pos} {rest : List Stmt} (O : Own X) (F : YoT X.K C G ats) (hlen : fs.length <= 900) (ha : a ∈ ats)
 (hN : X.N[0]? = some sf) (hv : Vis X.env.scope sf) (hs0 : σ[0]? = some (some (.ref e))) (hNx : X.N[i]? = some x) (hvx : Vis X.env.scope x) (hsx : σ[i]? = some (some v)) (hr : You X σ e C rest ((a, v) :: fs) fs')
 (hd : (sf == ("__debug__" : Str)) = false := by decide) (hcd : (sf == ("__classdict__" : Str)) = false := by decide) (hdx : (x == ("__debug__" : Str)) = false := by decide) (hcdx : (x == ("__classdict__" : Str)) = false := by decide)
 (hsw : swapsWith (.Name x xp) (some (.Attribute (.Name sf sp) a ap)) pos.line X.env = pure false := by rfl) : You X σ e C (.Assign [.Attribute (.Name sf sp) a ap] (.Name x xp) pos :: rest) fs fs' :=
 fun H s D h hq => ZB3 (YgG O h hlen F.over F.sa (F.no a ha) F.hd hN hv hs0 hNx hvx hsx hd hcd hdx hcdx hsw fun s' h' => hr H s' D h' hq)
theorem Yem {G : Addr} {ats : List Str} {g sf : Str} {gp ap sp jp cp ep : Pos} {v1 v2 : Expr} {es : List Expr} {rest : List Stmt} {pl : Sem Bool} (O : Own X) (F : YoT X.K C G ats) (hg : Gl X g) (hm : X.mg g = some (.ref G))
 (hN : X.N[0]? = some sf) (hv : Vis X.env.scope sf) (hs0 : σ[0]? = some (some (.ref e))) (hj : ∀ x ∈ v1 :: v2 :: es, PJ X σ x) (hl : es.length <= 40) (hr : You X σ e C rest [] fs')
 (ht : eval (.Call (.Attribute (.Name g gp) "__init__" ap) [.Name sf sp, .JoinedStr (v1 :: v2 :: es) jp] [] cp) X.env = (do
  let ov <- eval (.Name g gp) X.env
  standAt ap.atName
  let (f, first) <- holding [ov] (getMethod ov "__init__" pl)
  callWith cp f first (backTo cp (starEach [.Name sf sp, .JoinedStr (v1 :: v2 :: es) jp] X.env)) (backToKw cp (keywordEach [] X.env))) := by rfl)
 (hdb : (g == ("__debug__" : Str)) = false := by decide) (hd : (sf == ("__debug__" : Str)) = false := by decide) (hcd : (sf == ("__classdict__" : Str)) = false := by decide)
 (hsw : swapsWith (.Call (.Attribute (.Name g gp) "__init__" ap) [.Name sf sp, .JoinedStr (v1 :: v2 :: es) jp] [] cp) none ep.line X.env = pure false := by rfl) :
 Yoi X σ e C (.Expr (.Call (.Attribute (.Name g gp) "__init__" ap) [.Name sf sp, .JoinedStr (v1 :: v2 :: es) jp] [] cp) ep :: rest) fs' :=
 fun H s D h hq => ZB3 (YeV O h F.over hg hm F.sp F.rd F.cl hN hv hs0 hj hl ht hdb hd hcd hsw fun s' h' => hr H s' D h'.half hq)
end
theorem rebase {X : Cx} {pins : LAO} {σ : St} {H : Hp} {s s0 : Shared} {xe : VSP} (I : Inv X pins σ H s) (ks : ∀ b o, s0.heap.get? b = some o -> X.s₀.heap.get? b = some o) (hsz : s0.heap.objs.size <= X.s₀.heap.objs.size) (hos : X.s₀.os = s0.os)
 (hbs : ∀ b o, X.base.get? b = some o -> s0.heap.get? b = some o /\ X.H₀ b = none) (hbz : X.base.objs.size <= s0.heap.objs.size) (hfu : s0.heap.FunFrames X.base X.outer) : Inv { X with s₀ := s0, xe := xe } pins σ H s :=
 ⟨⟨I.ok.mod, I.ok.kind, I.ok.glob, I.ok.blt, ZAO hsz I.ok.above, I.ok.inj, I.ok.has, fun x c h q => ZAO hsz (I.ok.cab x c h q), I.ok.hd, I.ok.frames, I.ok.stk, I.ok.exf, hbs, hbz, I.ok.noex, I.ok.exfs, hfu, I.ok.frf⟩,
  I.os.trans hos, I.bare, ⟨fun b o q => I.base.keep b o (ks b o q), fun b o q => I.base.slot b o (ks b o q), fun b o q => I.base.free b o (ks b o q), fun b o q => I.base.there b o (ks b o q), I.base.tups, I.base.frzs, I.base.tbls⟩, I.loc, I.cell, I.free, I.freeC, I.pin, I.hok, I.len⟩
def cxI (P : Program) (w : World) (K : Frag) (mg : SOV) (base : Heap) (N : List Str) (qual : Str) (scope : Scope) (f : Addr) (cd : Value) (A : Around) (outer : List Env) (s0 sE : Shared) (H : Hp) : Cx :=
 { cxOf CX0 P w K mg base N qual scope f cd A outer sE H E0 with s₀ := s0, xe := fun _ _ => False }
theorem ZN {P : Program} {w : World} {K : Frag} {mg : SOV} {base : Heap} {N : List Str} {qual : Str} {scope : Scope} {f : Addr} {cd : Value} {A : Around} {outer : List Env} {s0 sE : Shared} {H : Hp} : Own (cxI P w K mg base N qual scope f cd A outer s0 sE H) :=
 ⟨rfl, rfl, fun b hb => by
  show 219
  exact ZAu.mpr ⟨env, .tail _ he, hf⟩⟩
structure Made (P : Program) (w : World) (outer : List Env) (s s' : Shared) (H : Hp) (e C : Addr) (fs : List (Str × V)) : Prop where
 os : s'.os = s.os
 bare : AllBare s'.gens
 un : Un (frs outer) [] H H s.heap s'.heap
 hok : HOk P w H s'.heap
 ex : ∃ oe vs, s'.heap.get? e = some oe /\ oe.cls = .ref C /\ oe.data = .fields vs /\ vs[1]? = some .none /\
  ((oe.dict = none /\ fs = []) \/ ∃ d mA, oe.dict = some d /\ d ≠ e /\ s.heap.get? d = none /\ H d = none /\ s'.heap.Ns1 d mA /\ ∀ f, Ym0 (fs.lookup f) (mA f))
section
variable {P : Program} {w : World} {K : Frag} {mg : SOV} {base : Heap}
theorem Yib {x qual : Str} {st : Stmt} {f C : Addr} {fd : FuncData} {N : List Str} {k : Nat} {A : Around} {outer : List Env} {s : Shared} {H : Hp} {us : List Value} {vs : List V} {fs : List (Str × V)} {h' : Heap} {e : Addr} {Q : VSP} {E : VSP}
 (F : Fun K x qual st f fd) (S : YlI N N (Ylx st)) (hb : Binds K fd N []) (hr : Ymb (k + 1) A) (e0 : Yng P w K mg base A outer s H) (eE : Yng P w K mg base A outer { s with heap := h' } H) (hl : vs.length + 1 = N.length) (r : Vals vs us)
 (m : Heap.MadeExcOf s.heap h' e (.ref C) us) (hz : s.heap.objs.size <= h'.objs.size)
 (hbody : ∀ cdv, Ymb k (A.deeper (envOfC qual (Ylx st) h'.objs.size f cdv)) -> Yoi (cxI P w K mg base N qual (Ylx st) f cdv A outer s { s with heap := h' } H) ((V.ref e :: vs).map some) e C (YlE st) fs)
 (hq : ∀ s', Made P w outer s s' H e C fs -> Q .none s') :
 wpAny (model P w) A (call (.ref f) (.ref e :: us)) Q E { s with heap := h' } := by
 show 212
 have KX : K.In h' := eE.mod.kin.keeps fun b o e => (eE.bs b o e).1
 have lim : h'.NoLimit := eE.mod.nolimit.keeps fun b o e => (eE.bs b o e).1
 have hul : (Value.ref e :: us).length = N.length := by rw [ZAQ, <- r.length]; exact hl
 have hkind : ∀ y ∈ N.zip (.ref e :: us), (Ylx st).names.lookup y.1 = some .local \/ ((Ylx st).names.lookup y.1 = some .cell /\ ((cellsFrom (h'.objs.size + 1) (Ylx st).names []).lookup y.1).isSome = true) := fun ⟨n, v⟩ hy => by
  rcases S.par n (ZBq hy).1 with q | q
  ·exact .inl q
  ·exact .inr ⟨q, PySem.W.cellsFrom_some _ _ _ (.inl q)⟩
 have hB := hb { s with heap := h' } (.ref e :: us) KX (by rw [ZAZ]; exact hul)
 rw [ZAZ] at hB
 refine ZBZ (codeAny_call_function hr.depth (s := { s with heap := h' }) (KX _ _ lk) rfl S.co S.gen rfl (PySem.W.codeRec_of KX hcd) (hB _ _ _ _ ?_))
 refine ZBk S.kind hkind fun env he s1 x => ?_
 subst he
 refine ⟨lim.keeps x.toInCall.keep, codeAny_func ?_⟩
 have I0 : Inv (cxOf CX0 P w K mg base N qual (Ylx st) f cdv A outer { s with heap := h' } H E0) [] (L2.start N (V.ref e :: vs)) H s1 := VS S hr.hd eE (by rw [ZAQ]; exact hl) (.cons rfl r) x
 have hst : L2.start N (V.ref e :: vs) = (V.ref e :: vs).map some := by
  unfold L2.start
  rw [ZAQ, hl, Nat.sub_self, List.replicate_zero, ZAZ]
 rw [hst] at I0
 have I1 : Inv (cxI P w K mg base N qual (Ylx st) f cdv A outer s { s with heap := h' } H) [] ((V.ref e :: vs).map some) H s1 := rebase I0 m.keeps hz rfl e0.bs e0.bsz e0.funs
 obtain ⟨t, ht, htn, htt⟩ := m.there
 have he1 := x.toInCall.keep _ _ ht
 have hHe : H e = none := by
  cases q : H e with
  | none => rfl
  | some u =>
   obtain ⟨u', hu⟩ := V2 (e0.hok e u q)
   rw [m.new] at hu; cases hu
 have I2 := I1.pins_of (pins' := [(e, _)]) fun p hp => by
  obtain rfl := ZA1.mp hp
  refine ⟨he1, hHe, ZAP (ZAG ht), fun z => ?_, fun v q => by cases q⟩
  obtain ⟨_, o, ho, _⟩ := e0.funs.mem z
  have ho' : s.heap.get? e = some o := ho
  rw [m.new] at ho'; cases ho'
 refine ZAi (hbody cdv (hr.deeper _) H s1 (fun fl s' => fl = .next /\ Yol (cxI P w K mg base N qual (Ylx st) f cdv A outer s { s with heap := h' } H) ((V.ref e :: vs).map some) H e C fs s') ⟨_, _, _, t, I2, ZB0 _, m.new, rfl, rfl, rfl, rfl, rfl⟩ fun s' hs => ⟨rfl, hs⟩) (fun fl s' hs => ?_) fun e s' hs => hs.elim
 obtain ⟨rfl, pins, oe, vs', T0, J, hpe, _, hcl, hdt, hv0, hv1, hdc⟩ := hs
 refine hq s' ⟨J.os, J.bare, J.base, J.hok, oe, vs', (Ze J hpe).1, hcl, hdt, hv1, ?_⟩
 rcases hdc with q | ⟨d, od, mA, d1, d2, d3, d4, d5, d6, d7⟩
 ·exact .inl q
 ·exact .inr ⟨d, mA, d1, d2, d4, (Ze J d3).2.1, d5 _ (Ze J d3).1, d6⟩
end
end Mi
namespace Mi
open PySem PySem.Spec L2 PySem.W
open PyProof.Rows hiding St
def YmE : P -> Bool
 | .int i => decide (i.natAbs < 1000000)
 | .str x => decide (x.length <= 2000)
 | _ => false
theorem YgZ {K : Frag} {as : List Addr} {H : Hp} {v : V} {p : P} (d : Den K as H v p) (h : YmE p = true) : Short v := by
 cases d with
 | int =>
  rename_i i
  have h' : i.natAbs < 1000000 := ZA3 h
  refine .inl ⟨_, rfl, ?_⟩
  by_cases z : i.natAbs = 0
  ·rw [z]; decide
  ·exact (Nat.log2_lt z).mpr (ZAM h' (ZAO (by decide : 1000000 <= 2 ^ 20) (Nat.pow_le_pow_right (by decide) (by decide))))
 | str => exact .inr ⟨_, rfl, ZA3 h⟩
 | non => cases h
 | bl => cases h
 | ref e => cases h
 | tup e r t => cases h
theorem YaY {K : Frag} {as : List Addr} {H : Hp} : ∀ {vs : List V} {ps : List P}, Dens K as H vs ps -> ps.all YmE = true -> ∀ v ∈ vs, Short v
 | _, _, .nil, _, _, hv => by cases hv
 | _, _, .cons d r, h, v, hv => by
  rw [ZBC, ZAb] at h
  rcases ZAT.mp hv with rfl | hv
  ·exact YgZ d h.1
  ·exact YaY r h.2 v hv
theorem Dens.getD {K : Frag} {as : List Addr} {H : Hp} : ∀ {vs : List V} {ps : List P}, Dens K as H vs ps -> ∀ i : Nat, Den K as H (vs.getD i .non) (ps.getD i .non)
 | _, _, .nil, i => by simp; exact .non
 | _, _, .cons d r, 0 => by simp; exact d
 | _, _, .cons d r, i + 1 => by
  have := Dens.getD r i
  show 172
theorem Dens.ats {K : Frag} {as : List Addr} {H : Hp} {vs : List V} {ps : List P} (d : Dens K as H vs ps) : ∀ l : List (Str × Nat), Dens K as H ((l.map fun p => (p.1, vs.getD p.2 .non)).map (·.2)) ((l.map fun p => (p.1, ps.getD p.2 .non)).map (·.2))
 | [] => .nil
 | p :: l => .cons (d.getD p.2) (Dens.ats d l)
structure Yow (P' : Program) (w : World) (K : Frag) (mg : SOV) (base : Heap) (c : Str) (k n : Nat) (ats : List (Str × Nat)) : Prop where
 ex : ∃ C fI oI, nsIn K mainGlobals c = some (some (.ref C)) /\ Yni K C fI = true /\ K.lookup fI = some oI /\ oI.cls = .type "function" /\
  ∀ (A : Around) (outer : List Env) (s : Shared) (H : Hp) (us : List Value) (vs : List V) (h' : Heap) (e : Addr) (Q : VSP) (E : VSP), Ymb k A -> Yng P' w K mg base A outer s H -> Yng P' w K mg base A outer { s with heap := h' } H -> vs.length = n -> Vals vs us -> (∀ v ∈ vs, Short v) ->
   Heap.MadeExcOf s.heap h' e (.ref C) us -> s.heap.objs.size <= h'.objs.size -> (∀ s', Made P' w outer s s' H e C (ats.map fun p => (p.1, vs.getD p.2 .non)) -> Q .none s') -> wpAny (model P' w) A (call (.ref fI) (.ref e :: us)) Q E { s with heap := h' }
def Ym9 (c : Str) (n : Nat) (ats : List (Str × Nat)) (ma : MA) : MS := fun ρ st => RS.ofE ρ (ma ρ st) fun ps st1 => if ps.length = n /\ ps.all YmE = true then .exc (c, ats.map fun p => (p.1, ps.getD p.2 .non)) ρ st1 else .bad
theorem Ybc {X : Cx} {c : Str} {k n : Nat} {ats : List (Str × Nat)} {ma : MA} {np cpos pos : Pos} {e : Expr} {es : List Expr} (D : Yow X.prog X.w X.K X.mg X.base c k n ats) (hr : Ymb (k + 1) X.A) (hc : X.calm = true) (hg : Gl X c) (ha : JA X (e :: es) ma) (hn1000 : n <= 1000 := by decide) (hat : ats ≠ [] := by decide)
 (hdb : (c == ("__debug__" : Str)) = false := by decide) (he : starEach (e :: es) X.env = (false, eval e X.env) :: starEach es X.env := by rfl) (hpl : (backTo cpos (starEach (e :: es) X.env)).any (·.1) = false := by rfl) :
 JS X (.Raise (some (.Call (.Name c np) (e :: es) [] cpos)) none pos) (Ym9 c n ats ma) := by
 intro pins s σ H D' I ⟨as, ρ, st, en, rp, h⟩
 obtain ⟨C, fI, oI, hn, hx, hlk, hfc, hrun⟩ := D.ex
 have hm : X.mg c = some (.ref C) := PySem.W.mg_of I.ok.mod.kin I.ok.mod.glob hn
 obtain ⟨nm, qn, N, bs, bm, hdct, sn, sub, ab, col, dd, k0, k1, k2, k3, k5, g1, g2, g3, g4⟩ := YdZ I.ok.mod.kin hx
 refine Yfy (C := C) (nm := nm) (q := qn) (N := N) (bs := bs) (bm := bm) (hdct := hdct) (sn := sn) (sub := sub) (ab := ab) (col := col) (dd := dd) (k0 := k0) (k1 := k1) (k2 := k2) (k3 := k3) (k5 := k5) (mN := X.base.nsMap N)
  PySem.F.excBase_ValueError (by decide) PySem.F.excBase_ValueError (g4.hasType (by decide)) (I.ok.hd hc) hpl g3 hfc (ZS I hg hm ⟨rfl, ?_⟩ hdb)
 have key : backTo cpos (starEach (e :: es) X.env) = (false, eval e X.env) :: backTo cpos (starEach es X.env) := by rw [he]; rfl
 rw [key]
 refine Calls.evalArgs_plain ?_
 rw [<- key]
 refine thn (ha cpos pins s σ H (fun vs H1 => ∃ qs st1 as1, Ext as H as1 H1 /\ Rep X.K as1 st1 H1 /\ Dens X.K as1 H1 vs qs /\ qs.length = n /\ qs.all YmE = true /\ XOk X as1 H1 ρ (c, ats.map fun p => (p.1, qs.getD p.2 .non)) st1) I ⟨as, ρ, st, en, rp, ?_⟩)
  fun us s1 ⟨vs, H1, I1, r, qs, st1, as1, x1, rp1, d, hl, hsh, xok⟩ => ?_
 ·unfold Ym9 at h
  cases q : ma ρ st with
  | ok qs st1 =>
   show 152
   intro as1 H1 vs x1 rp1 d
   have h' : YlP X as H (if qs.length = n /\ qs.all YmE = true then RS.exc (c, ats.map fun p => (p.1, qs.getD p.2 .non)) ρ st1 else .bad) D' := h
   by_cases hl : qs.length = n /\ qs.all YmE = true
   ·rw [ZAE hl] at h'
    exact ⟨qs, st1, as1, x1, rp1, d, hl.1, hl.2, XOk.ext x1 h'⟩
   ·rw [ZAF hl] at h'; exact h'.elim
  | exc xc st1 => show 151
  | bad => show 151
 ·have kb := I1.bk
  have hvl : vs.length = n := by rw [d.length]; exact hl
  refine ⟨rfl, ?_, kb _ _ g1, g2.keeps kb, g4.keeps kb, I1.kIn _ _ hlk, fun h' ev hm hz => ?_⟩
  ·show us.length <= sizeLine
   rw [<- r.length, sizeLine_eq]; omega
  ·have I2 : Inv X pins σ H1 { s1 with heap := h' } := I1.kept hm.keeps
   refine hrun (X.A.under _) X.stack s1 H1 us vs h' ev _ _ (hr.make C us []) (I1.env0.make C us []) (I2.env0.make C us []) hvl r (YaY d hsh) hm hz fun s' mk => ⟨rfl, ?_⟩
   obtain ⟨oe, vs', e1, e2, e3, e4, e5⟩ := mk.ex
   rcases e5 with ⟨_, q⟩ | ⟨dx, mA, d1, d2, d3, d4, d5, d6⟩
   ·exact absurd q (by cases ats with | nil => exact absurd rfl hat | cons a l => simp)
   have hHe := untracked I1 hm.new
   have un2 : Un (frs X.stack) [] H1 (upd H1 dx (.xd (ats.map fun p => (p.1, vs.getD p.2 .non)))) s1.heap s'.heap :=
    ⟨mk.un.keep, mk.un.slot, fun b o q nn hx => by rw [Yi (fun z => by rw [z, d3] at q; cases q)]; exact nn, mk.un.there, fun b xs q => by rw [Yi (Yg q d4)]; exact q, fun b o u q => by rw [Yi (Yg q d4)]; exact q, fun b ps q => ⟨#[], by rw [Yi (Yg q d4), Array.append_empty]; exact q⟩⟩
   have hok2 : HOk X.prog X.w (upd H1 dx (.xd (ats.map fun p => (p.1, vs.getD p.2 .non)))) s'.heap := fun b u q => by
    by_cases z : b = dx
    ·subst z
     rw [Ym] at q; cases q
     exact ⟨mA, d5, d6⟩
    ·rw [Yi z] at q
     exact (mk.hok b u q).stay (fun c v _ q => q) (fun c q => by rw [Yi (Yg q d4)]; exact q) fun c xs q => by rw [Yi (Yg q d4)]; exact q
   have I3 : Inv X pins σ (upd H1 dx (.xd (ats.map fun p => (p.1, vs.getD p.2 .non)))) s' := I1.call' mk.os un2 hok2 mk.bare fun b z => absurd z (by simp)
   refine ⟨I3.bk _ _ g1, oe, e1, e2, ⟨vs', e3, e4⟩, ?_⟩
   refine xok pins σ s' as1 _ ev I3 (en.ext (x1.trans (Ext.laid d4))) (Ext.laid d4) (rp1.laid d4) ⟨C, some dx, hn, ⟨JN I1 hm.new, by rw [Yi (ZBA d2)]; exact hHe, oe, vs', e1, e2, d1, e3, .inl e4⟩, .inr ⟨dx, _, rfl, Ym, ?_, ?_⟩⟩
   ·rw [ZAy, ZAy]; rfl
   ·exact (Dens.ats d ats).ext (Ext.laid d4)
def Ym8 (K : Frag) (c g : Str) (st : Stmt) (qual : Str) (ats : List Str) : Prop := ∃ (C G fI : Addr) (od an : Option Addr) (kV doc pm cd ct : Value) (sl : Array (Option Value)),
 nsIn K mainGlobals c = some (some (.ref C)) /\ nsIn K mainGlobals g = some (some (.ref G)) /\ Yov K C G fI ats = true /\
 K.lookup fI = some ⟨.type "function", od, .func (fnOf "__init__" qual (YlH st) (YlE st) (Ylx st) .none kV doc pm an cd ct), sl⟩ /\ codeIn K cd qual = true /\ keepIn K (.ref fI) = true
theorem Ym8.of {K : Frag} {c g : Str} {st : Stmt} {qual : Str} {ats : List Str} {C G fI : Addr} {od an : Option Addr} {kV doc pm cd ct : Value} {sl : Array (Option Value)} (a : nsIn K mainGlobals c = some (some (.ref C))) (b : nsIn K mainGlobals g = some (some (.ref G))) (f : findIn K (.ref C) "__init__" = some (some (.ref fI)))
 (l : K.lookup fI = some ⟨.type "function", od, .func (fnOf "__init__" qual (YlH st) (YlE st) (Ylx st) .none kV doc pm an cd ct), sl⟩) (h : codeIn K cd qual = true) (k : keepIn K (.ref fI) = true) (i : Yov K C G fI ats = true) : Ym8 K c g st qual ats :=
 ⟨C, G, fI, od, an, kV, doc, pm, cd, ct, sl, a, b, i, l, h, k⟩
theorem Yhn {P' : Program} {w : World} {K : Frag} {mg : SOV} {base : Heap} {c g qual : Str} {st : Stmt} {N : List Str} {k n : Nat} {ats : List (Str × Nat)} (T : Top K mg) (D : Ym8 K c g st qual (ats.map (·.1))) (S : YlI N N (Ylx st)) (hN : N.length = n + 1)
 (hb : ∀ (kV doc pm : Value) (an : Option Addr) (cdv ct : Value) (us : List Value), us.length = N.length -> bindArgs (fnOf "__init__" qual (YlH st) (YlE st) (Ylx st) .none kV doc pm an cdv ct) ⟨us, []⟩ = pure (N.zip us))
 (hbody : ∀ (C G f : Addr) (cdv : Value) (A : Around) (outer : List Env) (s sE : Shared) (H : Hp) (e : Addr) (vs : List V), YoT K C G (ats.map (·.1)) -> mg g = some (.ref G) -> vs.length = n -> (∀ v ∈ vs, Short v) -> Ymb k (A.deeper (envOfC qual (Ylx st) sE.heap.objs.size f cdv)) ->
  Yoi (cxI P' w K mg base N qual (Ylx st) f cdv A outer s sE H) ((V.ref e :: vs).map some) e C (YlE st) (ats.map fun p => (p.1, vs.getD p.2 .non))) :
 Yow P' w K mg base c (k + 1) n ats := by
 obtain ⟨C, G, fI, od, an, kV, doc, pm, cd, ct, sl, a, b, i, l, h, kp⟩ := D
 obtain ⟨i1, i2⟩ := Yg3 i
 have F := Yap (st := st) l h kp
 refine ⟨C, fI, _, a, i1, l, rfl, fun A outer s H us vs h' e Q E hr e0 eE hl r hs m hz hq => ?_⟩
 exact Yib F S (F.binds hb) hr e0 eE (by rw [hl, hN]) r m hz (fun cdv hr' => hbody C G fI cdv A outer s { s with heap := h' } H e vs i2 (T.at b) hl hs hr') hq
end Mi
namespace Mi
open PySem PySem.Spec L2 PySem.W
open PyProof.Rows hiding St
section
variable {prog : Program} {w : World} {A : Around} {E : VSP} {s : Shared} {K : Frag} {x C : Addr} {ox : Obj} {odo : Option Obj} {name : Str} {expr : Bool}
theorem Yfo {v : Value} {Q : VSP} (X : K.In s.heap) (I : InstAt s.heap x ox C odo) (hga : findIn K (.ref C) "__getattribute__" = some (some (.builtin "BaseException.__getattribute__"))) (hgt : findIn K (.ref C) "__getattr__" = some none)
 (hmB : mroIn K C (.type "BaseException") = some true) (hf : findObj K C odo name = some (.value v)) (hv : handedIn v = true) (h : Q v { s with toks := s.toks + 1 }) : wpAny (model prog w) A (getAttr (.ref x) name expr) Q E s := by
 show 227
 have L0 := I.type (M := model prog w)
 have L1 := looks_findIn (M := model prog w) X hga
 have L2 := looks_findIn (M := model prog w) X hgt
 have L3 := looks_find (M := model prog w) X I hf
 have hx2 : (Value.builtin "BaseException.__getattribute__" == Value.builtin "object.__getattribute__") = false := by decide +kernel
 unfold getAttr getAttrBy
 refine ZAA (wpAny_mkText (ZAh (ZAA (L0.at (ZAA (L1.at ?_))))))
 simp only [hx2, Bool.and_false, Bool.false_eq_true, if_false]
 unfold getAttrByItsOwn hookBefore
 rw [ZAE (show onTheHeap (.ref C) = true from rfl)]
 refine ZAA (L2.at ?_)
 refine ZAA (ZBX (ZAh ?_))
 unfold callGetattribute
 rw [if_neg (by simp; intro _; rfl)]
 refine YhH X I hmB ?_
 unfold Builtin.«object.__getattribute__»
 refine ZAA (ZAC (ZAA (ZAC (ZAA (L0.at (ZAA (L3.at ?_)))))))
 exact ZAC (handed_on hv h)
end
def Ymg (K : Frag) (c a : Str) : Prop := ∃ C, nsIn K mainGlobals c = some (some (.ref C)) /\ findIn K (.ref C) "__getattribute__" = some (some (.builtin "BaseException.__getattribute__")) /\ findIn K (.ref C) "__getattr__" = some none /\ mroIn K C (.type "BaseException") = some true /\ hasDictIn K C = true /\ findIn K (.ref C) a = some none
theorem Ymg.of {K : Frag} {c a : Str} {C : Addr} (h : nsIn K mainGlobals c = some (some (.ref C))) (g1 : findIn K (.ref C) "__getattribute__" = some (some (.builtin "BaseException.__getattribute__"))) (g2 : findIn K (.ref C) "__getattr__" = some none) (g3 : mroIn K C (.type "BaseException") = some true) (g4 : hasDictIn K C = true) (g5 : findIn K (.ref C) a = some none) : Ymg K c a := ⟨C, h, g1, g2, g3, g4, g5⟩
def YoO (c a : Str) (p : P) (st : YlA) : Option P := match p with
 | .ref k => (match st[k]? with
  | some (.exc c' fs) => if c' = c then fs.lookup a else none
  | _ => none)
 | _ => none
def YnP (c a : Str) (me : ME) : ME := fun ρ st => (me ρ st).bind fun p st1 => match YoO c a p st1 with
 | some q => .ok q st1
 | none => .bad
theorem Ya0 {K : Frag} {as : List Addr} {H : Hp} {a : Str} {q : P} : ∀ {ws : List (Str × V)} {fs : List (Str × P)}, ws.map (·.1) = fs.map (·.1) -> Dens K as H (ws.map (·.2)) (fs.map (·.2)) -> fs.lookup a = some q -> ∃ v, ws.lookup a = some v /\ Den K as H v q
 | [], [], _, _, h => by cases h
 | [], _ :: _, h, _, _ => by cases h
 | _ :: _, [], h, _, _ => by cases h
 | (x, v) :: ws, (y, p) :: fs, e, d, h => by
  rw [ZAV, ZAV] at e
  injection e with e1 e2
  have e1' : x = y := e1
  subst e1'
  rw [ZAV, ZAV] at d
  cases d with
  | cons d1 d2 =>
   rw [ZA6] at h ⊢
   by_cases z : (a == x) = true
   ·rw [z] at h ⊢
    cases h
    exact ⟨v, rfl, d1⟩
   ·have z' : (a == x) = false := by simpa using z
    rw [z'] at h ⊢
    exact Ya0 e2 d2 h
section
variable {X : Cx} {e : Expr} {me : ME} {pos : Pos}
theorem VV {c a : Str} (D : Ymg X.K c a) (he : JE X e me) (hb : attributeBase e a X.env (eval e X.env) = eval e X.env := by rfl) : JE X (.Attribute e a pos) (YnP c a me) := by
 show 238
 refine YhV hb (thn (he pins s σ H (fun v H1 => ∃ p st1 as1 q, Ext as H as1 H1 /\ Rep X.K as1 st1 H1 /\ Den X.K as1 H1 v p /\ YoO c a p st1 = some q /\ (∀ u, Den X.K as1 H1 u q -> Q u H1)) I ⟨as, ρ, st, en, rp, YlL.bindE h fun p st1 as1 H1 v x rp1 d h1 => ?_⟩) fun u s1 ⟨v, H1, I1, r, p, st1, as1, q, x, rp1, d, hq, h1⟩ => ?_)
 ·cases z : YoO c a p st1 with
  | none => show 187
  | some q => rw [z] at h1; exact ⟨p, st1, as1, q, x, rp1, d, z, fun u du => h1 as1 H1 u Ext.refl rp1 du⟩
 ·obtain ⟨C, hn, g1, g2, g3, g4, g5⟩ := D
  cases d with
  | @ref k ad ea =>
   obtain rfl : u = Value.ref ad := r
   have hq' : (match st1[k]? with | some (.exc c' fs) => if c' = c then fs.lookup a else none | _ => none) = some q := hq
   cases w : st1[k]? with
   | none => rw [w] at hq'; cases hq'
   | some ob =>
    rw [w] at hq'
    have ro := rp1.ob k ad ob ea w
    cases ob with
    | exc c' fs =>
     by_cases e : c' = c
     ·subst e
      simp only [if_true] at hq'
      obtain ⟨C', od, h1', h2, h3⟩ := ro
      rw [hn] at h1'; cases h1'
      obtain ⟨⟨o, vs, k1, k2, k3, k4⟩, _⟩ := I1.hok ad _ h2
      rcases h3 with ⟨_, h3⟩ | ⟨dd, ws, h3, h4, h5, h6⟩
      ·rw [h3] at hq'; cases hq'
      ·obtain ⟨v', hv', dv⟩ := Ya0 h5 h6 hq'
       obtain ⟨mA, hns, hrel⟩ := I1.hok dd _ h4
       obtain ⟨u', hu, ru⟩ := Ym0.some_of (v := v') (o := mA a) (by rw [<- hv']; exact hrel a)
       obtain ⟨od', ho', hl⟩ := Ye5 hns
       have J : InstAt s1.heap ad o C (some od') := ⟨k1, k2, by unfold notCls; rw [k4], by rw [k3, h3]; exact ho'⟩
       exact Yfo I1.kIn J g1 g2 g3 (findObj_own g4 g5 rfl (by rw [hl, hu])) (Yfz ru) ⟨v', H1, I1.tok _, ru, h1 v' dv⟩
     ·simp only [if_neg e] at hq'; cases hq'
    | _ => cases hq'
  | _ => cases hq
end
end Mi
namespace Mi
open PySem PySem.Spec L2 PySem.W
open PyProof.Rows hiding St
def YnG (K : Frag) (C : Addr) : Bool := excIn K C Ynl "ValueError.__new__" || (match findIn K (.ref C) "__init__" with
 | some (some (.ref f)) => Yni K C f
 | _ => false)
theorem Yc2 {K : Frag} {h : Heap} {C : Addr} (X : K.In h) (q : YnG K C = true) : ∃ (nm qn : Str) (N : Addr) (bs bm : List Value) (hdct : Bool) (sn : List Str) (sub : List Value) (ab : Bool) (col : Option Bool) (dd : Option Addr) (k0 k1 k2 k3 k5 : Option Value),
 h.get? C = some (excClassObj nm qn C N bs bm hdct sn sub ab col dd k0 k1 k2 k3 k5 "ValueError.__new__") /\ OwnTail h Ynl bm := by
 unfold YnG at q
 rcases Bool.or_eq_true_iff.mp q with q | q
 ·obtain ⟨nm, qn, N, bs, bm, hdct, sn, sub, ab, col, dd, k0, k1, k2, k3, k5, g1, _, _, g4⟩ := Ybh X q
  exact ⟨nm, qn, N, bs, bm, hdct, sn, sub, ab, col, dd, k0, k1, k2, k3, k5, g1, g4⟩
 ·split at q
  ·obtain ⟨nm, qn, N, bs, bm, hdct, sn, sub, ab, col, dd, k0, k1, k2, k3, k5, g1, _, _, g4⟩ := YdZ X q
   exact ⟨nm, qn, N, bs, bm, hdct, sn, sub, ab, col, dd, k0, k1, k2, k3, k5, g1, g4⟩
  ·cases q
def Yoj (K : Frag) (C D : Addr) : Bool := match (K.lookup C).map Obj.data with
 | some (.cls d) => !(d.mro.contains (.ref D))
 | _ => false
def Ymz (K : Frag) (c : Str) : Prop := ∃ C, nsIn K mainGlobals c = some (some (.ref C)) /\ YnG K C = true
theorem Ymz.of {K : Frag} {c : Str} {C : Addr} (a : nsIn K mainGlobals c = some (some (.ref C))) (b : YnG K C = true) : Ymz K c := ⟨C, a, b⟩
def Yl4 (K : Frag) (d c : Str) : Prop := ∃ C D, nsIn K mainGlobals d = some (some (.ref C)) /\ nsIn K mainGlobals c = some (some (.ref D)) /\ YnG K C = true /\ Yoj K C D = true
theorem Yl4.of {K : Frag} {d c : Str} {C D : Addr} (a : nsIn K mainGlobals d = some (some (.ref C))) (b : nsIn K mainGlobals c = some (some (.ref D))) (e : YnG K C = true) (f : Yoj K C D = true) : Yl4 K d c := ⟨C, D, a, b, e, f⟩
theorem Ygx {M : Model} {A : Around} {E : VSP} {h : Heap} {g : Array GenState} {d : Drawn} {t : Nat} {os : OsState} {e C D : Addr} {oe : Obj} {Q : Bool -> Shared -> Prop}
 {nm q : Str} {N : Addr} {bs bm : List Value} {hdct : Bool} {sn : List Str} {sub : List Value} {ab : Bool} {col : Option Bool} {dd : Option Addr} {k0 k1 k2 k3 k5 : Option Value} {newId : String}
 {nm' q' : Str} {N' : Addr} {bs' bm' : List Value} {hdct' : Bool} {sn' : List Str} {sub' : List Value} {ab' : Bool} {col' : Option Bool} {dd' : Option Addr} {j0 j1 j2 j3 j5 : Option Value} {newId' : String}
 (hC : h.get? C = some (excClassObj nm q C N bs bm hdct sn sub ab col dd k0 k1 k2 k3 k5 newId)) (hD : h.get? D = some (excClassObj nm' q' D N' bs' bm' hdct' sn' sub' ab' col' dd' j0 j1 j2 j3 j5 newId')) (he : h.get? e = some oe) (hcls : oe.cls = .ref C) (hbase : bm'.contains (.type "BaseException") = true)
 (hno : (Value.ref C :: bm).contains (.ref D) = false) (hq : Q false ⟨h, g, d, t, os⟩) : wpAny M A (excMatches (.ref e) (.ref D)) Q E ⟨h, g, d, t, os⟩ := by
 have hcB : (Value.ref D :: bm').contains (.type "BaseException") = true := by rw [ZCH, hbase, ZCn]
 have f := tc_notTuple
 unfold excMatches
 repeat (first | (with_reducible refine ZBF he ?_; rw [hcls]) | with_reducible refine ZBF hD ?_ | (with_reducible refine ZBo hD ?_; rw [hcB]) | (with_reducible refine ZBo hC ?_; rw [hno]) | wp_step)
 exact hq
abbrev HM := Xc -> Rho -> YlA -> RS
def YpD : HM := fun _ _ _ => .bad
def hPl (c : Str) (ms : List Str) (mh : MS) (r : HM) : HM := fun x ρ st => if x.1 = c then Yob (mh ρ st) else if ms.contains x.1 = true then r x ρ st else .bad
def hAs (c : Str) (i : Nat) (ms : List Str) (mh : MS) (r : HM) : HM := fun x ρ st => if x.1 = c then YnE i (mh (ρ.set i (some (.ref st.length))) (st ++ [.exc c x.2])) else if ms.contains x.1 = true then r x ρ st else .bad
def Yn6 (mb : MS) (hm : HM) : MS := fun ρ st => match mb ρ st with
 | .exc x ρ' st' => hm x ρ' st'
 | r => r
section
variable {X : Cx}
def JH (X : Cx) (hs : List ExceptHandler) (hm : HM) : Prop := ∀ (pins : LAO) (σ : St) (H : Hp) (s : Shared) (a C : Addr) (od : Option Addr) (as : List Addr) (ρ : Rho) (st : YlA) (x : Xc) (D : Ends), Inv X pins σ H s -> YlO X.K as H ρ σ -> Rep X.K as st H -> nsIn X.K mainGlobals x.1 = some (some (.ref C)) ->
 YmJ (Nw X pins) H a (.ref C) od s.heap -> Yoh X.K as H od x.2 -> YlP X as H (hm x ρ st) D -> wpAny (model X.prog X.w) X.A (handleBy (.ref a) X.env hs) (SP X pins D) X.xe s
theorem YjS : JH X [] YpD := fun _ _ _ _ _ _ _ _ _ _ _ _ _ _ _ _ _ _ h => h.elim
theorem test1 {c : Str} {np hpos : Pos} {name : Option Str} {b₀ : Stmt} {suite : List Stmt} {rest : List ExceptHandler} {pins : LAO} {σ : St} {H : Hp} {s : Shared} {a C : Addr} {od : Option Addr} {x : Str} {ms : List Str} {Q : Flow -> Shared -> Prop}
 (hg : Gl X c) (D : Ymz X.K c) (Ms : ∀ d ∈ ms, Yl4 X.K d c) (hdb : (c == ("__debug__" : Str)) = false) (I : Inv X pins σ H s) (hn : nsIn X.K mainGlobals x = some (some (.ref C))) (f0 : YmJ (Nw X pins) H a (.ref C) od s.heap)
 (h : (x = c /\ codeAny (model X.prog X.w) (X.A.mark (some (.ref a))) (.handlers (.ref a) [.ExceptHandler none name (b₀ :: suite) hpos] X.env) (fun r s₂ => match r with
       | .ok f => (match name with
        | none => Q f s₂
        | some n => wpAny (model X.prog X.w) X.A (do bindName X.env n .none; unbindBehindTheSuite X.env n hpos) (fun _ s₃ => Q f s₃) X.xe s₂)
       | .error x => cameBackBy (model X.prog X.w) X.A X.env X.xe x s₂) s) \/ (x ∈ ms /\ wpAny (model X.prog X.w) X.A (handleBy (.ref a) X.env rest) Q X.xe s)) :
 wpAny (model X.prog X.w) X.A (handleBy (.ref a) X.env (.ExceptHandler (some (.Name c np)) name (b₀ :: suite) hpos :: rest)) Q X.xe s := by
 obtain ⟨D', hd, hdi⟩ := D
 have hm : X.mg c = some (.ref D') := PySem.W.mg_of I.ok.mod.kin I.ok.mod.glob hd
 refine wpAny_handleBy_cons (codeAny_handlers_test ?_) (by intro q; cases q)
 refine ZS (X := X.caught pins (.ref a)) (I.caught (.ref a)) hg hm ?_ hdb
 obtain ⟨nm', q', N', bs', bm', hdct', sn', sub', ab', col', dd', j0, j1, j2, j3, j5, g1', g4'⟩ := Yc2 I.kIn hdi
 obtain ⟨oe, vs, e1, e2, e3, e4, e5⟩ := id f0.tr
 rcases h with ⟨rfl, key⟩ | ⟨hx, key⟩
 ·rw [hn] at hd; cases hd
  show 215
  exact wpAny_excMatches_sub_self g1' e1 e2 (g4'.hasType (by decide)) key
 ·obtain ⟨C', D'', m1, m2, m3, m4⟩ := Ms x hx
  rw [hn] at m1; cases m1
  rw [hd] at m2; cases m2
  obtain ⟨nm, q, N, bs, bm, hdct, sn, sub, ab, col, dd, k0, k1, k2, k3, k5, g1, g4⟩ := Yc2 I.kIn m3
  have hno : (Value.ref C :: bm).contains (.ref D') = false := by
   unfold Yoj at m4
   cases hl : X.K.lookup C with
   | none => rw [hl] at m4; cases m4
   | some o =>
    rw [hl] at m4
    have ho := I.kIn _ _ hl
    rw [g1] at ho; cases ho
    simpa using m4
  show 215
  exact Ygx g1 g1' e1 e2 (g4'.hasType (by decide)) hno key
theorem Ylw {c : Str} {np hpos : Pos} {b₀ : Stmt} {suite : List Stmt} {rest : List ExceptHandler} {ms : List Str} {mh : MS} {r : HM} (D : Ymz X.K c) (Ms : ∀ d ∈ ms, Yl4 X.K d c) (hst : X.stack = X.env :: X.outer) (hf : X.env.frame = some X.env.locals) (hg : Gl X c)
 (hh : ∀ pins v, JSs (X.caught pins v) (b₀ :: suite) mh) (hr : JH X rest r) (hdb : (c == ("__debug__" : Str)) = false := by decide) :
 JH X (.ExceptHandler (some (.Name c np)) none (b₀ :: suite) hpos :: rest) (hPl c ms mh r) := by
 intro pins σ H s a C od as ρ st x D' I en rp hn f0 fa h
 unfold hPl at h
 refine test1 hg D Ms hdb I hn f0 ?_
 by_cases hc : x.1 = c
 ·rw [ZAE hc] at h
  refine .inl ⟨hc, codeAny_handlers_suite (Ym7 I f0 fun h2 Ts hT n f2 => ?_)⟩
  have f2' : YmJ (Nw X pins) H a (.ref C) od h2 := f2.mono fun b z => z.elim (fun y => y) fun y => JN I y
  have I2 : Inv X pins σ H { s with heap := h2 } := I.noted f0 hT n hst hf (let ⟨oe, _, e, _⟩ := f2'.tr; ⟨oe, e⟩)
  refine ZAi (hh pins (.ref a) [] _ σ H D' (I2.caught (.ref a)) ⟨as, ρ, st, en, rp, ?_⟩) (fun fl s₂ q => ?_) fun e s₂ z => z.elim
  ·cases q2 : mh ρ st with
   | nx ρ2 st2 => show 199
   | rt p st2 => show 199
   | bk ρ2 st2 => show 199
   | ct ρ2 st2 => show 199
   | exc k ρ2 st2 => rw [q2] at h; exact h.elim
   | bad => show 199
  ·cases fl with
   | next => obtain ⟨σ2, H2, J, z⟩ := q; exact ⟨σ2, H2, J.uncaught I.ok, z⟩
   | brk => obtain ⟨σ2, H2, J, z⟩ := q; exact ⟨σ2, H2, J.uncaught I.ok, z⟩
   | cont => obtain ⟨σ2, H2, J, z⟩ := q; exact ⟨σ2, H2, J.uncaught I.ok, z⟩
   | ret u => obtain ⟨v, σ2, H2, J, r, z⟩ := q; exact ⟨v, σ2, H2, J.uncaught I.ok, r, z⟩
 ·rw [ZAF hc] at h
  by_cases hm : ms.contains x.1 = true
  ·rw [ZAE hm] at h
   exact .inr ⟨by simpa using hm, hr pins σ H s a C od as ρ st x D' I en rp hn f0 fa h⟩
  ·rw [ZAF hm] at h; exact h.elim
theorem YfR {c n : Str} {i : Nat} {np hpos : Pos} {b₀ : Stmt} {suite : List Stmt} {rest : List ExceptHandler} {ms : List Str} {mh : MS} {r : HM} (D : Ymz X.K c) (Ms : ∀ d ∈ ms, Yl4 X.K d c) (hst : X.stack = X.env :: X.outer) (hf : X.env.frame = some X.env.locals) (hg : Gl X c)
 (hnd : X.N.Nodup) (hi : X.N[i]? = some n) (hk : X.env.kindOf n = some .local) (hh : ∀ pins v, JSs (X.caught pins v) (b₀ :: suite) mh) (hr : JH X rest r) (hdb : (c == ("__debug__" : Str)) = false := by decide) :
 JH X (.ExceptHandler (some (.Name c np)) (some n) (b₀ :: suite) hpos :: rest) (hAs c i ms mh r) := by
 intro pins σ H s a C od as ρ st x D' I en rp hn f0 fa h
 have fs : ∀ b ∈ X.fs, b ∈ frs X.stack := fun b hb => by
  show 219
  rw [hst]
  exact ZAu.mpr ⟨env, .tail _ he, hf⟩
 unfold hAs at h
 refine test1 hg D Ms hdb I hn f0 ?_
 by_cases hc : x.1 = c
 ·rw [ZAE hc] at h
  refine .inl ⟨hc, codeAny_handlers_suite_as (Ym7 I f0 fun h2 Ts hT n2 f2 => ?_)⟩
  have f2' : YmJ (Nw X pins) H a (.ref C) od h2 := f2.mono fun b z => z.elim (fun y => y) fun y => JN I y
  have I2 : Inv X pins σ H { s with heap := h2 } := I.noted f0 hT n2 hst hf (let ⟨oe, _, e, _⟩ := f2'.tr; ⟨oe, e⟩)
  have I3 := I2.trackX f2' fs
  refine Yaz I3 hnd hi (.inl hk) (v := .ref a) (u := .ref a) rfl (fun s₂ I4 => ?_) (.inr hk)
  have x3 : Ext as H (as ++ [a]) (upd H a (.ext (Yoy a (.ref C) od))) := Ext.new f2'.ha
  have rp3 : Rep X.K (as ++ [a]) (st ++ [.exc c x.2]) (upd H a (.ext (Yoy a (.ref C) od))) := rp.new f2'.ha ⟨C, od, by rw [<- hc]; exact hn, Ym, fa.ext x3⟩
  have en3 : YlO X.K (as ++ [a]) (upd H a (.ext (Yoy a (.ref C) od))) (ρ.set i (some (.ref st.length))) (σ.set i (some (.ref a))) := (en.ext x3).set (.ref (by rw [<- rp.len]; exact Yav))
  refine ZAi (hh pins (.ref a) [] s₂ _ _ { nx := fun σ2 H2 => D'.nx (σ2.set i none) H2, rt := D'.rt } (I4.caught (.ref a)) ⟨_, _, _, en3, rp3, ?_⟩) (fun fl s₃ q => ?_) fun e s₃ z => z.elim
  ·have h2 := YlP.ext x3 h
   cases q2 : mh (ρ.set i (some (.ref st.length))) (st ++ [.exc c x.2]) with
   | nx ρ2 st2 => rw [q2] at h2; exact fun as4 H4 σ4 e4 r4 n4 => h2 as4 H4 _ e4 r4 (YlO.unset n4)
   | rt p st2 => rw [q2] at h2; exact h2
   | bk ρ2 st2 => show 221
   | ct ρ2 st2 => show 221
   | exc k ρ2 st2 => show 221
   | bad => show 221
  ·have hp : (X.env.scope.kind == .class || (X.env.scope.kind == .module && X.env.locals != X.env.globals)) = false := by rw [I.ok.kind]; rfl
   cases fl with
   | next =>
    obtain ⟨σ2, H2, J, z⟩ := q
    have J0 := J.uncaught I.ok
    obtain ⟨m, hn', hl⟩ := id J0.loc
    exact ZCi hk hn' hp fun h' v hn2 hs => ⟨_, H2, J0.gone hnd hi hk hn' hl hn2 hs, z⟩
   | ret u =>
    obtain ⟨v', σ2, H2, J, r, z⟩ := q
    have J0 := J.uncaught I.ok
    obtain ⟨m, hn', hl⟩ := id J0.loc
    exact ZCi hk hn' hp fun h' v hn2 hs => ⟨v', _, H2, J0.gone hnd hi hk hn' hl hn2 hs, r, z⟩
   | brk => obtain ⟨σ2, H2, J, z⟩ := q; exact z.elim
   | cont => obtain ⟨σ2, H2, J, z⟩ := q; exact z.elim
 ·rw [ZAF hc] at h
  by_cases hm : ms.contains x.1 = true
  ·rw [ZAE hm] at h
   exact .inr ⟨by simpa using hm, hr pins σ H s a C od as ρ st x D' I en rp hn f0 fa h⟩
  ·rw [ZAF hm] at h; exact h.elim
theorem YiQ {body : List Stmt} {h₀ : ExceptHandler} {hs : List ExceptHandler} {pos : Pos} {mb : MS} {hm : HM} (hst : X.stack = X.env :: X.outer) (hf : X.env.frame = some X.env.locals) (hb : ∀ pins E, JSs (X.tried pins E) body mb) (hh : JH X (h₀ :: hs) hm) :
 JS X (.Try body (h₀ :: hs) [] [] pos) (Yn6 mb hm) := by
 intro pins s σ H D' I ⟨as, ρ, st, en, rp, h⟩
 refine wpAny_Try_except (ZAi (hb pins _ [] s σ H D' (I.tried _) ⟨as, ρ, st, en, rp, ?_⟩) (fun fl s₁ q => ?_) fun e s₁ q => q)
 ·unfold Yn6 at h
  cases q : mb ρ st with
  | exc x ρ' st' =>
   show 152
   intro pins' σ' s' as' H' a I' en' ext rp' ⟨C', od, hn', f0, fa⟩
   have I0 : Inv X pins σ' H' s' := I'.untried I.ok
   have f0' : YmJ (Nw X pins) H' a (.ref C') od s'.heap := f0.mono fun b z => ⟨z.1, fun p hp => z.2 p (ZA4 _ hp)⟩
   refine Ynx I0 f0' I0.ok.frames hst hf hf fun h' Ts hT n f' => ?_
   have f1 : YmJ (Nw X pins) H' a (.ref C') od h' := f'.mono fun b z => z.elim (fun y => y) fun y => JN I0 y
   have I1 : Inv X pins σ' H' { s' with heap := h' } := I0.noted f0' hT n hst hf (let ⟨oe, _, e, _⟩ := f1.tr; ⟨oe, e⟩)
   exact hh pins σ' H' _ a C' od as' ρ' st' x D' I1 en' rp' hn' f1 fa (YlP.ext ext h)
  | nx ρ2 st2 => show 151
  | rt p st2 => show 151
  | bk ρ2 st2 => show 151
  | ct ρ2 st2 => show 151
  | bad => show 151
 ·cases fl with
  | next => obtain ⟨σ2, H2, J, z⟩ := q; exact ZBY ⟨σ2, H2, J.untried I.ok, z⟩
  | brk => obtain ⟨σ2, H2, J, z⟩ := q; exact ⟨σ2, H2, J.untried I.ok, z⟩
  | cont => obtain ⟨σ2, H2, J, z⟩ := q; exact ⟨σ2, H2, J.untried I.ok, z⟩
  | ret u => obtain ⟨v, σ2, H2, J, r, z⟩ := q; exact ⟨v, σ2, H2, J.untried I.ok, r, z⟩
end
def YmA (st : Stmt) (j : Nat) : Stmt := match st with
 | .ClassDef _ _ _ b _ _ _ _ _ _ _ => b.getD j (.Pass ⟨0, 0, 0, 0⟩)
 | _ => .Pass ⟨0, 0, 0, 0⟩
end Mi
namespace Mi
open PySem PySem.Spec L2
open PyProof.Rows hiding St
section
variable {X : Cx}
end
end Mi
set_option maxHeartbeats 4000000
namespace G
open PySem PySem.Spec L2 Mi
open PyProof.Rows hiding St
def top (i : Nat) : Stmt := PySem.Challenge.pw_gapwords_k07_whole_texts_read.main.body.getD i (.Pass ⟨0, 0, 0, 0⟩)
def VU : MS :=
 (YlZ (Ym6 leP leP (eC (.str "a")) (Ylz 0) (eC (.str "z"))))
def Zh : MF := fnM 1 VU
def Wb : MS :=
 (YlZ (Ym6 leP leP (eC (.str "A")) (Ylz 0) (eC (.str "Z"))))
def Yu : MF := fnM 1 Wb
def WT : MS :=
 (YlZ (YoP (YnD "str" (Ylz 0)) (Yn8 (Ymp (YmQ (Ylz 0)) 1 [] (YlC 0) Ymd (eOr (YlQ 1 Zh (Yly (Ylz 0) YlD)) (YlQ 1 Yu (Yly (Ylz 0) YlD)))))))
def YU : MF := fnM 1 WT
def Y1 : MS :=
 (YlZ (YoP (YnD "tuple" (Ylz 0)) (YoP (YlB eqP (eB Yl5 (Yly (Ylz 0) YlD)) (eC (.int 2))) (Yn8 (Ymp (YmQ (Ylz 0)) 1 [] (YlC 0) Ymd (YlQ 1 YU (Yly (Ylz 0) YlD)))))))
def Ys : MF := fnM 1 Y1
def Wh : MS :=
 (YlN (sIf (Yn0 (Ymu (YmK (YnD "tuple" (Ylz 0)))) (Ymu (Yl3 (Ym6 leP leP (eC (.int 1)) (eB Yl5 (Yly (Ylz 0) YlD)) (eC (.int 6))))))
 (YlZ (eC (.bl false)))
 Ymk)
 (YlZ (Yn8 (Ymp (YmQ (Ylz 0)) 1 [] (YlC 0) Ymd (YlQ 1 Ys (Yly (Ylz 0) YlD))))))
def YA : MF := fnM 1 Wh
def Wd : MS :=
 (YlZ (Ynh (eC (.str "")) (Ymp (YmQ (Ylz 0)) 2 [] (Ymv 2 (YlS (YlC 0) (YlS (YlC 1) YmG))) Ymd (YlB Yl6 (Ylz 0) (Ylz 1)))))
def YH : MF := fnM 1 Wd
def Yao : MS :=
 (YlZ (Ynh (eC (.str "")) (YmS (Ylz 0))))
def ZY : MF := fnM 1 Yao
def Ve : MS :=
 (YlZ (YlQ 1 ZY (Yly (YmX (Ymp (YmQ (YlQ 1 YH (Yly (Ylz 0) YlD))) 1 [] (YlC 0) (YmK (YlQ 1 Yu (Yly (Ylz 0) YlD))) (Ylz 0))) YlD)))
def Zk : MF := fnM 1 Ve
def ZL : MS :=
 (YmW (eM Ynd YmH (Ylz 1) (Yly (Ymt (Yly (Ylz 7) (Yly (Ylz 2) (Yly (Ylz 4) (Yly (Ylz 6) YlD))))) YlD)))
def WC : MS :=
 (YmZ (Yoc (Ylz 5)) (Ymv 2 (YlS (YlC 6) (YlS (YlC 7) YmG)))
 ZL)
def ZQ : MS :=
 (YmZ (Yoc (Ylz 3)) (Ymv 2 (YlS (YlC 4) (YlS (YlC 5) YmG)))
 WC)
def Vb : MS :=
 (YlN (Yma 1 (YmX (lMk YlD)))
 (YlN (YmZ (Yoc (Ylz 0)) (Ymv 2 (YlS (YlC 2) (YlS (YlC 3) YmG)))
 ZQ)
 (YlZ (Ylz 1))))
def Zi : MF := fnM 8 Vb
def Zf : MS :=
 (YlN (YoB (Ylz 1) (Ylz 2) (YlB Yl6 (YoI (Ylz 1) (Ylz 2) (eC (.int 0))) (eC (.int 1))))
 (sIf (Yno (YmK (YlQ 1 Yu (Yly (Ylz 2) YlD))) (Yl3 (YlB gtP (YlB ixP (Ylz 1) (Ylz 2)) (eC (.int 2)))))
 (Ym9 "Thrice" 4 [("place", 3), ("side", 2), ("equation", 1), ("unknown", 0)] (Yly (Ylz 2) (Yly (Ylz 3) (Yly (Ylz 4) (Yly (Ylz 5) YlD)))))
 Ymk))
def Zs : MS :=
 (YlN (Yma 1 Yof)
 (YmZ (YmQ (YlQ 1 Zi (Yly (Ylz 0) YlD))) (Ymv 4 (YlS (YlC 2) (YlS (YlC 3) (YlS (YlC 4) (YlS (YlC 5) YmG)))))
 Zf))
def YF : MF := Yn1 6 Zs
def Za : MS :=
 (sIf (Yl3 (YlB gtP (Ylz 0) (Ylz 1)))
 (Ym9 "TooGreat" 2 [("most", 1), ("many", 0)] (Yly (Ylz 0) (Yly (Ylz 1) YlD)))
 Ymk)
def Yw : MF := Yn1 2 Za
def YbZ : MS :=
 (YlN (sIf (Ymu (YmK (YlQ 1 YA (Yly (Ylz 0) YlD))))
 (YmV "NoSystem" (Yly (eC (.str "no tuple of one to six tuples of two sides")) YlD))
 Ymk)
 (YlN (YmW (YmD 1 YF (Yly (Ylz 0) YlD)))
 (YlN (YmW (YmD 2 Yw (Yly (eB Yl5 (Yly (YlQ 1 YH (Yly (Ylz 0) YlD)) YlD)) (Yly (eC (.int 40)) YlD))))
 (YmW (YmD 2 Yw (Yly (eB Yl5 (Yly (YlQ 1 Zk (Yly (Ylz 0) YlD)) YlD)) (Yly (eC (.int 6)) YlD)))))))
def ZO : MF := Yn1 1 YbZ
def Zp : MS :=
 (YlN (sIf (Ymu (YmK (YnD "str" (Ylz 0))))
 (YmV "NoText" (Yly (eC (.str "a system is read of a text")) YlD))
 Ymk)
 (YlN (Yma 1 (Yot (Ymp (YmQ (eM isStr YmT (Ylz 0) (Yly (eC (.str "; ")) YlD))) 1 [] (YlC 0) Ymd (eB Yne (Yly (eM isStr YmT (Ylz 0) (Yly (eC (.str "=")) YlD)) YlD)))))
 (YlN (sIf (Ymu (YmK (YlQ 1 YA (Yly (Ylz 1) YlD))))
 (YmV "NoText" (Yly (eC (.str "not written as one to six equations, as in aX=Xb; YcY=")) YlD))
 Ymk)
 (YlN (YmW (YmD 1 ZO (Yly (Ylz 1) YlD)))
 (YlZ (Ylz 1))))))
def Yv : MF := Yn1 2 Zp
def ZH : MS :=
 (YlN (sIf (Yl3 (YlB ltP (Ylz 1) (eB Yl5 (Yly (Ylz 0) YlD))))
 (YlZ (YlB ixP (Ylz 0) (Ylz 1)))
 Ymk)
 (YlZ (eC (.int 0))))
def Yq : MF := fnM 2 ZH
def Zq : MS :=
 (YlN (Yma 1 (eC (.str "aXb=; YZ=a; XYq=;  W1\n-A=")))
 (YlZ (Ynh (eC (.str "")) (Ymp (YmQ (eSl (Ylz 0) (Ymx (eC (.int 1))) (Ymx (eC (.int 121))))) 1 [1] (YlC 0) Ymd (YlB ixP (Ylz 1) (YlB YmB (YlB YmB (YlB Ymm (Ylz 0) (eC (.int 48271))) (eC (.int 1000003))) (eB Yl5 (Yly (Ylz 1) YlD))))))))
def YG : MF := fnM 2 Zq
def YM : MS :=
 (YlN (Yma 6 (YlB YmB (YlB YmB (YlB Ymm (Ylz 5) (eC (.int 69621))) (eC (.int 65537))) (YlB Ymm (eC (.int 2)) (Ylz 3))))
 (YoB (Ylz 4) (Ylz 6) (YlB Yl6 (YlB ixP (Ylz 4) (Ylz 6)) (YlB ixP (Ylz 2) (YlB YmB (YlB YmB (YlB Ymm (Ylz 5) (eC (.int 48271))) (eC (.int 1000003))) (eB Yl5 (Yly (Ylz 2) YlD)))))))
def Y4 : MS :=
 (YlN (Yma 1 (YlB Ym1 (YlQ 2 Yq (Yly (Ylz 0) (Yly (eC (.int 0)) YlD))) (eC (.int 4))))
 (YlN (Yma 2 (YlB Yl6 (eSl (eC (.str "aXYbXZYcWVaabU=")) Yna (Ymx (YlB Yl6 (eC (.int 5)) (YlB YmB (Ylz 1) (eC (.int 10)))))) (YlB Ymm (eC (.str "T")) (YlB YmB (YlB Ym1 (Ylz 1) (eC (.int 10))) (eC (.int 2))))))
 (YlN (Yma 3 (YlB Yl6 (eC (.int 1)) (YlB YmB (YlB Ym1 (Ylz 1) (eC (.int 20))) (eC (.int 7)))))
 (YlN (Yma 4 (YmX (Ymp (YmC (Yly (YlB Ymm (eC (.int 2)) (Ylz 3)) YlD)) 1 [] (YlC 0) Ymd (eC (.str "")))))
 (YlN (YmZ (YmQ (eSl (Ylz 0) (Ymx (eC (.int 1))) (Ymx (eC (.int 61))))) (YlC 5)
 YM)
 (YlN (Yma 7 (Ynh (eC (.str "; ")) (Ymp (YmC (Yly (Ylz 3) YlD)) 1 [4] (YlC 0) Ymd (YlB Yl6 (YlB Yl6 (YlB ixP (Ylz 1) (YlB Ymm (eC (.int 2)) (Ylz 0))) (eC (.str "="))) (YlB ixP (Ylz 1) (YlB Yl6 (YlB Ymm (eC (.int 2)) (Ylz 0)) (eC (.int 1))))))))
 (YlN (Yma 8 (YlB YmB (YlB Ym1 (Ylz 1) (eC (.int 140))) (YlB Yl6 (eB Yl5 (Yly (Ylz 7) YlD)) (eC (.int 1)))))
 (YlN (Yma 9 (YlB ixP (eC (.str "; =aX1B \n")) (YlB YmB (YlB Ym1 (Ylz 1) (eC (.int 3))) (eC (.int 9)))))
 (YlN (Yma 10 (YlB YmB (YlB Ym1 (YlQ 2 Yq (Yly (Ylz 0) (Yly (eC (.int 0)) YlD))) (eC (.int 2))) (eC (.int 6))))
 (YlN (sIf (Yl3 (YlB eqP (Ylz 10) (eC (.int 1))))
 (YlZ (YlB Yl6 (YlB Yl6 (eSl (Ylz 7) Yna (Ymx (Ylz 8))) (Ylz 9)) (eSl (Ylz 7) (Ymx (YlB Yl6 (Ylz 8) (eC (.int 1)))) Yna)))
 Ymk)
 (YlN (sIf (Yl3 (YlB eqP (Ylz 10) (eC (.int 3))))
 (YlZ (YlB Yl6 (YlB Yl6 (eSl (Ylz 7) Yna (Ymx (Ylz 8))) (Ylz 9)) (eSl (Ylz 7) (Ymx (Ylz 8)) Yna)))
 Ymk)
 (YlN (sIf (Yl3 (YlB eqP (Ylz 10) (eC (.int 5))))
 (YlZ (YlB Yl6 (eSl (Ylz 7) Yna (Ymx (Ylz 8))) (eSl (Ylz 7) (Ymx (YlB Yl6 (Ylz 8) (eC (.int 1)))) Yna)))
 Ymk)
 (YlZ (Ylz 7))))))))))))))
def Yz : MF := fnM 11 Y4
def Yj : MS :=
 (YlN (sIf (YmK (eM isStr Yny (YlB ixP (Ylz 0) (Ylz 2)) YlD))
 (YoB (Ylz 1) (Yo0 (eC (.int 1))) (YlB Yl6 (YlB ixP (Ylz 1) (Yo0 (eC (.int 1)))) (YlB ixP (Ylz 0) (Ylz 2))))
 (sIf (Yno (Yl3 (YlB eqP (YlB ixP (Ylz 0) (Ylz 2)) (eC (.str "=")))) (Yl3 (YlB eqP (YlB YmB (eB Yl5 (Yly (Ylz 1) YlD)) (eC (.int 2))) (eC (.int 1)))))
 (YmW (eM Ynd YmH (Ylz 1) (Yly (eC (.str "")) YlD)))
 (sIf (Yno (Yl3 (YlB eqP (eSl (Ylz 0) (Ymx (Ylz 2)) (Ymx (YlB Yl6 (Ylz 2) (eC (.int 2))))) (eC (.str "; ")))) (Yl3 (YlB eqP (YlB YmB (eB Yl5 (Yly (Ylz 1) YlD)) (eC (.int 2))) (eC (.int 0)))))
 (YlN (YmW (eM Ynd YmH (Ylz 1) (Yly (eC (.str "")) YlD)))
 (Yma 2 (YlB Yl6 (Ylz 2) (eC (.int 1)))))
 (YlZ (eC .non)))))
 (Yma 2 (YlB Yl6 (Ylz 2) (eC (.int 1)))))
def Zg : MS :=
 (YlN (Yma 1 (YmX (lMk (Yly (eC (.str "")) YlD))))
 (YlN (Yma 2 (eC (.int 0)))
 (YlN (Yom (Yl3 (YlB ltP (Ylz 2) (eB Yl5 (Yly (Ylz 0) YlD))))
 Yj)
 (YlN (sIf (Yn0 (Yl3 (YlB eqP (YlB YmB (eB Yl5 (Yly (Ylz 1) YlD)) (eC (.int 2))) (eC (.int 1)))) (Yl3 (YlB gtP (eB Yl5 (Yly (Ylz 1) YlD)) (eC (.int 12)))))
 (YlZ (eC .non))
 Ymk)
 (YlZ (Yot (Ymp (YmC (Yly (YlB Ym1 (eB Yl5 (Yly (Ylz 1) YlD)) (eC (.int 2))) YlD)) 1 [1] (YlC 0) Ymd (Ymt (Yly (YlB ixP (Ylz 1) (YlB Ymm (eC (.int 2)) (Ylz 0))) (Yly (YlB ixP (Ylz 1) (YlB Yl6 (YlB Ymm (eC (.int 2)) (Ylz 0)) (eC (.int 1)))) YlD))))))))))
def YD : MF := fnM 3 Zg
def WF : MS :=
 (YlN (Yma 6 (YlB ixP (YlB ixP (YlB ixP (Ylz 1) (Ylz 3)) (Ylz 4)) (Ylz 5)))
 (YlN (Yma 2 (YlB Yl6 (Ylz 2) (Ylz 6)))
 (sIf (Yno (YmK (eM isStr Ynz (Ylz 6) YlD)) (Yl3 (YlB eqP (eM isStr YnX (Ylz 2) (Yly (Ylz 6) YlD)) (eC (.int 3)))))
 (YlZ (Ymt (Yly (eC (.str "thrice")) (Yly (Ylz 6) (Yly (Ylz 3) (Yly (Ylz 4) (Yly (Ylz 5) YlD)))))))
 Ymk)))
def ZM : MS :=
 (YmZ (YmC (Yly (eB Yl5 (Yly (YlB ixP (YlB ixP (Ylz 1) (Ylz 3)) (Ylz 4)) YlD)) YlD)) (YlC 5)
 WF)
def YO : MS :=
 (YmZ (YmC (Yly (eC (.int 2)) YlD)) (YlC 4)
 ZM)
def W3 : MS :=
 (YlN (Yma 1 (YlQ 1 YD (Yly (Ylz 0) YlD)))
 (YlN (sIf (Yl3 (YlB isP (Ylz 1) (eC .non)))
 (YlZ (Ymt (Yly (eC (.str "none")) YlD)))
 Ymk)
 (YlN (Yma 2 (eC (.str "")))
 (YlN (YmZ (YmC (Yly (eB Yl5 (Yly (Ylz 1) YlD)) YlD)) (YlC 3)
 YO)
 (YlN (Yor 7 (Ymp (YmQ (eC (.str "ABCDEFGHIJKLMNOPQRSTUVWXYZ"))) 1 [2] (YlC 0) (Yl3 (YlB YoV (Ylz 0) (Ylz 1))) (Ylz 0)))
 (YlN (sIf (Yl3 (YlB gtP (eB Yl5 (Yly (Ylz 2) YlD)) (eC (.int 40))))
 (YlZ (Ymt (Yly (eC (.str "great")) (Yly (eB Yl5 (Yly (Ylz 2) YlD)) (Yly (eC (.int 40)) YlD)))))
 Ymk)
 (YlN (sIf (Yl3 (YlB gtP (eB Yl5 (Yly (Ylz 7) YlD)) (eC (.int 6))))
 (YlZ (Ymt (Yly (eC (.str "great")) (Yly (eB Yl5 (Yly (Ylz 7) YlD)) (Yly (eC (.int 6)) YlD)))))
 Ymk)
 (YlZ (Ymt (Yly (eC (.str "told")) (Yly (Ylz 1) YlD)))))))))))
def Y5 : MF := fnM 8 W3
def ZD : MS :=
 (YlN (Yma 1 (YmX (lMk (Yly (Ym5 "NoText" false (Ylz 0)) (Yly (Ym5 "NoText" true (Ylz 0)) (Yly (Ym5 "NoText" false (Ylz 0)) (Yly (Ym5 "NoText" false (Ylz 0)) YlD)))))))
 (YlN (Yma 1 (YlB Yl6 (Ylz 1) (YmX (lMk (Yly (Ym5 "NoText" false (Ylz 0)) (Yly (Ym5 "NoText" false (Ylz 0)) (Yly (Ym5 "NoText" false (Ylz 0)) (Yly (Ym5 "NoText" false (Ylz 0)) YlD))))))))
 (YlZ (YlB Yl6 (Ylz 1) (YmX (lMk (Yly (Ym5 "NoText" false (Ylz 0)) (Yly (Ym5 "NoText" false (Ylz 0)) (Yly (Ym5 "NoText" true (Ylz 0)) (Yly (Ym5 "NoText" true (Ylz 0)) YlD))))))))))
def YN : MF := fnM 2 ZD
def Zx : MS :=
 (YlN (Yma 1 (eC .non))
 (YlN (Yma 2 (YmX (lMk (Yly (eC (.bl true)) (Yly (eC (.bl true)) (Yly (eC (.bl true)) YlD))))))
 (YlN (Yn6 (Yma 1 (Ymt (Yly (eC (.str "told")) (Yly (YmD 1 Yv (Yly (Ylz 0) YlD)) YlD)))) (hAs "NoText" 3 ["NoSystem", "Thrice", "TooGreat"]
 (YlN (Yma 1 (Ymt (Yly (eC (.str "none")) YlD)))
 (Yma 2 (YlQ 1 YN (Yly (Ylz 3) YlD)))) (hAs "Thrice" 3 ["NoSystem", "NoText", "TooGreat"]
 (Yma 1 (Ymt (Yly (eC (.str "thrice")) (Yly (YnP "Thrice" "unknown" (Ylz 3)) (Yly (YnP "Thrice" "equation" (Ylz 3)) (Yly (YnP "Thrice" "side" (Ylz 3)) (Yly (YnP "Thrice" "place" (Ylz 3)) YlD))))))) (hAs "TooGreat" 3 ["NoSystem", "NoText", "Thrice"]
 (Yma 1 (Ymt (Yly (eC (.str "great")) (Yly (YnP "TooGreat" "many" (Ylz 3)) (Yly (YnP "TooGreat" "most" (Ylz 3)) YlD))))) YpD))))
 (YlN (sIf (Yl3 (YlB neP (eM Ynd YnY (Ylz 2) (Yly (eC (.bl true)) YlD)) (eC (.int 3))))
 (YlZ (eC .non))
 Ymk)
 (YlZ (Ylz 1))))))
def Yt : MF := fnM 4 Zx
def ZW : MS :=
 (sIf (Yn0 (Ymu (YmK (YnD "tuple" (Ylz 1)))) (Yn0 (Yl3 (YlB neP (eB Yl5 (Yly (Ylz 1) YlD)) (eC (.int 2)))) (Yn0 (Ymu (YmK (YnD "str" (YlB ixP (Ylz 1) (eC (.int 0)))))) (Ymu (YmK (YnD "str" (YlB ixP (Ylz 1) (eC (.int 1)))))))))
 (YlZ (eC (.bl false)))
 Ymk)
def Wj : MS :=
 (YlN (sIf (Ymu (YmK (YnD "tuple" (Ylz 0))))
 (YlZ (eC (.bl false)))
 Ymk)
 (YlN (YmZ (YmQ (Ylz 0)) (YlC 1)
 ZW)
 (YlZ (eC (.bl true)))))
def YQ : MF := fnM 2 Wj
def Wy : MS :=
 (sIf (Yl3 (YlB neP (YlQ 1 Yt (Yly (Ylz 3) YlD)) (Ymt (Yly (eC (.str "none")) YlD))))
 (YlZ (eC (.bl false)))
 Ymk)
def YfQ : MS :=
 (YlN (Yma 1 (YlQ 1 YG (Yly (Ylz 0) YlD)))
 (YlN (sIf (Yl3 (YlB eqP (YlB YmB (YlQ 2 Yq (Yly (Ylz 0) (Yly (eC (.int 0)) YlD))) (eC (.int 2))) (eC (.int 1))))
 (Yma 1 (YlQ 1 Yz (Yly (Ylz 0) YlD)))
 Ymk)
 (YlN (Yma 2 (YlQ 1 Yt (Yly (Ylz 1) YlD)))
 (YlN (sIf (Yn0 (Yl3 (YlB isP (Ylz 2) (eC .non))) (Yl3 (YlB neP (Ylz 2) (YlQ 1 Y5 (Yly (Ylz 1) YlD)))))
 (YlZ (eC (.bl false)))
 Ymk)
 (YlN (sIf (Yno (Yl3 (YlB eqP (YlB ixP (Ylz 2) (eC (.int 0))) (eC (.str "told")))) (Ymu (YmK (YlQ 1 YQ (Yly (YlB ixP (Ylz 2) (eC (.int 1))) YlD)))))
 (YlZ (eC (.bl false)))
 Ymk)
 (YlN (YmZ (YmQ (YmX (lMk (Yly (eC .non) (Yly (eC (.int 3)) (Yly (Ymt (Yly (Ylz 1) YlD)) (Yly (YmX (lMk (Yly (Ylz 1) YlD))) (Yly (Ymt (Yly (Ymt (Yly (eC (.str "a")) (Yly (eC (.str "b")) YlD))) YlD)) YlD)))))))) (YlC 3)
 Wy)
 (YlZ (eC (.bl true)))))))))
def Yc4 : MF := fnM 4 YfQ
section
variable {P' : Program} {w : World} {K : Frag} {mg : SOV} {base : Heap}
structure Own (K : Frag) (mg : SOV) : Prop where
 z_ValueError : mg "ValueError" = none
 z_all : mg "all" = none
 z_enumerate : mg "enumerate" = none
 z_isinstance : mg "isinstance" = none
 z_len : mg "len" = none
 z_range : mg "range" = none
 z_set : mg "set" = none
 z_sorted : mg "sorted" = none
 z_str : mg "str" = none
 z_tuple : mg "tuple" = none
 c_MOST_EQUATIONS : ∃ t, mg "MOST_EQUATIONS" = some (.int 6 t)
 c_MOST_LETTERS : ∃ t, mg "MOST_LETTERS" = some (.int 40 t)
 c_MOST_UNKNOWNS : ∃ t, mg "MOST_UNKNOWNS" = some (.int 6 t)
 x_NoSystem : ExcAt K "NoSystem"
 x_NoText : ExcAt K "NoText"
 i_NoText : YmY K "NoText"
 o_NoText_GapError : YlM K "NoText" "GapError" true
 o_NoText_NoAnswer : YlM K "NoText" "NoAnswer" false
 o_NoText_NoFit : YlM K "NoText" "NoFit" false
 o_NoText_NoName : YlM K "NoText" "NoName" false
 o_NoText_NoStep : YlM K "NoText" "NoStep" false
 o_NoText_NoSystem : YlM K "NoText" "NoSystem" false
 o_NoText_NoText : YlM K "NoText" "NoText" true
 o_NoText_NoWay : YlM K "NoText" "NoWay" false
 o_NoText_Thrice : YlM K "NoText" "Thrice" false
 o_NoText_TooGreat : YlM K "NoText" "TooGreat" false
 o_NoText_Twice : YlM K "NoText" "Twice" false
 t_NoText_ValueError : YnJ K "NoText" "ValueError" true
 n_Thrice : Ym8 K "Thrice" "GapError" (YmA (top 9) 0) "Thrice.__init__" ["place", "side", "equation", "unknown"]
 n_TooGreat : Ym8 K "TooGreat" "GapError" (YmA (top 10) 0) "TooGreat.__init__" ["most", "many"]
 y_NoText : Ymz K "NoText"
 y_Thrice : Ymz K "Thrice"
 y_TooGreat : Ymz K "TooGreat"
 q_NoText : ∀ d ∈ (["NoSystem", "Thrice", "TooGreat"] : List Str), Yl4 K d "NoText"
 q_Thrice : ∀ d ∈ (["NoSystem", "NoText", "TooGreat"] : List Str), Yl4 K d "Thrice"
 q_TooGreat : ∀ d ∈ (["NoSystem", "NoText", "Thrice"] : List Str), Yl4 K d "TooGreat"
 a_Thrice_equation : Ymg K "Thrice" "equation"
 a_Thrice_place : Ymg K "Thrice" "place"
 a_Thrice_side : Ymg K "Thrice" "side"
 a_Thrice_unknown : Ymg K "Thrice" "unknown"
 a_TooGreat_many : Ymg K "TooGreat" "many"
 a_TooGreat_most : Ymg K "TooGreat" "most"
theorem YdE (kV doc pm : Value) (an : Option Addr) (cdv ct : Value) (us : List Value) (hl : us.length = (["self", "unknown", "equation", "side", "place"] : List Str).length) : bindArgs (fnOf "__init__" "Thrice.__init__" (YlH (YmA (top 9) 0)) (YlE (YmA (top 9) 0)) (Ylx (YmA (top 9) 0)) .none kV doc pm an cdv ct) ⟨us, []⟩ = pure ((["self", "unknown", "equation", "side", "place"] : List Str).zip us) := by
 match us, hl with
 | [_, _, _, _, _], _ => show 146
theorem Ydk (T : Top K mg) (O : Own K mg) : Yow P' w K mg base "Thrice" 1 4 [("place", 3), ("side", 2), ("equation", 1), ("unknown", 0)] := by
 refine Yhn (N := ["self", "unknown", "equation", "side", "place"]) (k := 0) T O.n_Thrice ⟨rfl, rfl, rfl, by decide +kernel, rfl, by decide +kernel, by decide +kernel⟩ rfl YdE ?_
 intro C G f cdv A outer s sE H e vs F hm hl hs hr
 match vs, hl, hs with
 | [v0, v1, v2, v3], _, hs =>
  have hv0 := hs v0 (by simp)
  have hv1 := hs v1 (by simp)
  have hv2 := hs v2 (by simp)
  have hv3 := hs v3 (by simp)
  refine Yem ZN F rfl hm rfl (Or.inl rfl) rfl ?_ (by decide) ?_
  ·exact (ZAS.mpr ⟨V4 (i := 1) rfl (Or.inl rfl) rfl hv0, (ZAS.mpr ⟨VR (by decide), (ZAS.mpr ⟨V4 (i := 2) rfl (Or.inl rfl) rfl hv1, (ZAS.mpr ⟨VR (by decide), (ZAS.mpr ⟨V4 (i := 3) rfl (Or.inl rfl) rfl hv2, (ZAS.mpr ⟨VR (by decide), (ZAS.mpr ⟨V4 (i := 4) rfl (Or.inl rfl) rfl hv3, (fun _ h => nomatch h)⟩)⟩)⟩)⟩)⟩)⟩)⟩)
  refine VI (i := 1) ZN F (by simp) (by simp) rfl (Or.inl rfl) rfl rfl (Or.inl rfl) rfl ?_
  refine VI (i := 2) ZN F (by simp) (by simp) rfl (Or.inl rfl) rfl rfl (Or.inl rfl) rfl ?_
  refine VI (i := 3) ZN F (by simp) (by simp) rfl (Or.inl rfl) rfl rfl (Or.inl rfl) rfl ?_
  refine VI (i := 4) ZN F (by simp) (by simp) rfl (Or.inl rfl) rfl rfl (Or.inl rfl) rfl ?_
  exact Ygq
theorem YbJ (kV doc pm : Value) (an : Option Addr) (cdv ct : Value) (us : List Value) (hl : us.length = (["self", "many", "most"] : List Str).length) : bindArgs (fnOf "__init__" "TooGreat.__init__" (YlH (YmA (top 10) 0)) (YlE (YmA (top 10) 0)) (Ylx (YmA (top 10) 0)) .none kV doc pm an cdv ct) ⟨us, []⟩ = pure ((["self", "many", "most"] : List Str).zip us) := by
 match us, hl with
 | [_, _, _], _ => show 146
theorem Yby (T : Top K mg) (O : Own K mg) : Yow P' w K mg base "TooGreat" 1 2 [("most", 1), ("many", 0)] := by
 refine Yhn (N := ["self", "many", "most"]) (k := 0) T O.n_TooGreat ⟨rfl, rfl, rfl, by decide +kernel, rfl, by decide +kernel, by decide +kernel⟩ rfl YbJ ?_
 intro C G f cdv A outer s sE H e vs F hm hl hs hr
 match vs, hl, hs with
 | [v0, v1], _, hs =>
  have hv0 := hs v0 (by simp)
  have hv1 := hs v1 (by simp)
  refine Yem ZN F rfl hm rfl (Or.inl rfl) rfl ?_ (by decide) ?_
  ·exact (ZAS.mpr ⟨VR (by decide), (ZAS.mpr ⟨V4 (i := 1) rfl (Or.inl rfl) rfl hv0, (ZAS.mpr ⟨VR (by decide), (ZAS.mpr ⟨V4 (i := 2) rfl (Or.inl rfl) rfl hv1, (ZAS.mpr ⟨VR (by decide), (fun _ h => nomatch h)⟩)⟩)⟩)⟩)⟩)
  refine VI (i := 1) ZN F (by simp) (by simp) rfl (Or.inl rfl) rfl rfl (Or.inl rfl) rfl ?_
  refine VI (i := 2) ZN F (by simp) (by simp) rfl (Or.inl rfl) rfl rfl (Or.inl rfl) rfl ?_
  exact Ygq
theorem Yah : YlI ["letter"] ["letter"] (Ylx (top 16)) := by show 150
abbrev HB (n : Str) (t : Stmt) (ps : List Str) := ∀ (kV doc pm : Value) (an : Option Addr) (cdv ct : Value) (us : List Value), us.length = ps.length -> bindArgs (fnOf n n (YlH t) (YlE t) (Ylx t) .none kV doc pm an cdv ct) ⟨us, []⟩ = pure (ps.zip us)
theorem YdS : HB "is_sign" (top 16) ["letter"]
 | _, _, _, _, _, _, [_], _ => rfl
theorem Ydc (T : Top K mg) (O : Own K mg) (D : YlF K "is_sign" (top 16))  : Fn P' w K mg base "is_sign" 1 ["letter"] Zh := by
 refine @Zt P' w K mg base "is_sign" (top 16) ["letter"] ["letter"] 0 VU T D Yah YdS ?_
 show 1
 have sc := Yah
 show 2
 refine YcD ?_ ?_ ?_ ?_ ?_
 show 96
 exact Yk
 show 157
 exact Yk
theorem W2 : YlI ["letter"] ["letter"] (Ylx (top 17)) := by show 150
theorem YaE : HB "is_unknown" (top 17) ["letter"]
 | _, _, _, _, _, _, [_], _ => rfl
theorem YaD (T : Top K mg) (O : Own K mg) (D : YlF K "is_unknown" (top 17))  : Fn P' w K mg base "is_unknown" 1 ["letter"] Yu := by
 refine @Zt P' w K mg base "is_unknown" (top 17) ["letter"] ["letter"] 0 Wb T D W2 YaE ?_
 show 1
 have sc := W2
 show 2
 refine YcD ?_ ?_ ?_ ?_ ?_
 show 96
 exact Yk
 show 157
 exact Yk
theorem YaC : YlI ["thing"] ["thing"] (Ylx (top 18)) := by show 150
theorem Ydu : HB "is_side" (top 18) ["thing"]
 | _, _, _, _, _, _, [_], _ => rfl
theorem Ydj (T : Top K mg) (O : Own K mg) (D : YlF K "is_side" (top 18)) (F_is_sign : Fn P' w K mg base "is_sign" 1 ["letter"] Zh) (F_is_unknown : Fn P' w K mg base "is_unknown" 1 ["letter"] Yu) : Fn P' w K mg base "is_side" 2 ["thing"] YU := by
 have z_all := O.z_all
 show 222
 have z_str := O.z_str
 refine @Zt P' w K mg base "is_side" (top 18) ["thing"] ["thing"] 1 WT T D YaC Ydu ?_
 show 1
 have sc := YaC
 show 2
 refine YdK ?_ ?_
 show 252
 exact Jz
 show 15
 exact z_str
 exact Yb0
 show 157
 refine YdM ?_
 refine YbQ ?_ ?_ ?_ ?_ ?_
 show 16
 exact z_all
 exact Yc6
 refine Zn (TN := ["letter"]) (FN := []) (fr := []) ?_ ?_ ?_ ?_ ?_
 show 146
 exact (Y9 ["letter"] [] [] (by rfl))
 show 108
 show (["letter"] : List Str).Nodup; decide +kernel
 show 13
 refine Ylh ?_ ?_
 show 232
 exact F_is_sign
 show 4
 refine YdM ?_
 show 232
 exact F_is_unknown
 show 4
theorem Wv : YlI ["thing"] ["thing"] (Ylx (top 19)) := by show 150
theorem Yad : HB "is_equation" (top 19) ["thing"]
 | _, _, _, _, _, _, [_], _ => rfl
theorem JP (T : Top K mg) (O : Own K mg) (D : YlF K "is_equation" (top 19)) (F_is_side : Fn P' w K mg base "is_side" 2 ["thing"] YU) : Fn P' w K mg base "is_equation" 3 ["thing"] Ys := by
 have z_all := O.z_all
 show 91
 show 200
 refine @Zt P' w K mg base "is_equation" (top 19) ["thing"] ["thing"] 2 Y1 T D Wv Yad ?_
 show 1
 have sc := Wv
 show 2
 refine YdK ?_ ?_
 show 252
 exact WP
 show 120
 refine YdK ?_ ?_
 refine Yjf ?_ ?_ ?_ ?_
 show 263
 show 69
 show 32
 refine YdM ?_
 refine YbQ ?_ ?_ ?_ ?_ ?_
 show 16
 exact z_all
 exact Yc6
 refine Zn (TN := ["side"]) (FN := []) (fr := []) ?_ ?_ ?_ ?_ ?_
 show 146
 exact (Y9 ["side"] [] [] (by rfl))
 show 108
 show (["side"] : List Str).Nodup; decide +kernel
 show 13
 refine YW (ps := ["thing"]) (k := 2) ?_ ?_ ?_ ?_
 exact F_is_side
 show 4
theorem Jm : YlI ["thing"] ["thing"] (Ylx (top 20)) := by show 150
theorem YcV : HB "has_form" (top 20) ["thing"]
 | _, _, _, _, _, _, [_], _ => rfl
theorem YcI (T : Top K mg) (O : Own K mg) (D : YlF K "has_form" (top 20)) (F_is_equation : Fn P' w K mg base "is_equation" 3 ["thing"] Ys) : Fn P' w K mg base "has_form" 4 ["thing"] YA := by
 have z_all := O.z_all
 show 91
 show 200
 obtain ⟨_, c_MOST_EQUATIONS⟩ := O.c_MOST_EQUATIONS
 refine @Zt P' w K mg base "has_form" (top 20) ["thing"] ["thing"] 3 Wh T D Jm YcV ?_
 show 1
 have sc := Jm
 show 68
 show 88
 exact WP
 show 120
 show 177
 refine YbF ?_
 show 271
 refine Yf2 ?_ ?_ ?_ ?_ ?_
 show 96
 exact Ye
 show 69
 exact (Ybx (by exact rfl) c_MOST_EQUATIONS)
 show 48
 show 10
 refine YbQ ?_ ?_ ?_ ?_ ?_
 show 16
 exact z_all
 exact Yc6
 refine Zn (TN := ["equation"]) (FN := []) (fr := []) ?_ ?_ ?_ ?_ ?_
 show 146
 exact (Y9 ["equation"] [] [] (by rfl))
 show 108
 show (["equation"] : List Str).Nodup; decide +kernel
 show 13
 refine YW (ps := ["thing"]) (k := 3) ?_ ?_ ?_ ?_
 exact F_is_equation
 show 4
theorem W0 : YlI ["system"] ["system"] (Ylx (top 21)) := by show 150
theorem YaP : HB "letters_of" (top 21) ["system"]
 | _, _, _, _, _, _, [_], _ => rfl
theorem YaG (T : Top K mg) (O : Own K mg) (D : YlF K "letters_of" (top 21))  : Fn P' w K mg base "letters_of" 1 ["system"] YH := by
 refine @Zt P' w K mg base "letters_of" (top 21) ["system"] ["system"] 0 Wd T D W0 YaP ?_
 show 1
 have sc := W0
 show 2
 refine Vo ?_ ?_
 exact Yk
 refine Zn (TN := ["left", "right"]) (FN := []) (fr := []) ?_ ?_ ?_ ?_ ?_
 show 146
 exact (Y9 ["left", "right"] [] [] (by rfl))
 show 81
 exact (Ykh (YcX (Y3 (by decide)) (YcX (Y3 (by decide)) Yie)))
 show 126
 refine YaA ?_ ?_
 show 146
 show 242
 show 213
 show (["left", "right"] : List Str).Nodup; decide +kernel
 show 17
 show 242
 show 213
 show (["left", "right"] : List Str).Nodup; decide +kernel
 show 17
 exact Vl
 exact Zv
 show 3
 show 59
theorem Ya4 : YlI ["letters"] ["letters"] (Ylx (top 22)) := by show 150
theorem YeS : HB "rising" (top 22) ["letters"]
 | _, _, _, _, _, _, [_], _ => rfl
theorem Yfk (T : Top K mg) (O : Own K mg) (D : YlF K "rising" (top 22))  : Fn P' w K mg base "rising" 1 ["letters"] ZY := by
 have z_set := O.z_set
 have z_sorted := O.z_sorted
 refine @Zt P' w K mg base "rising" (top 22) ["letters"] ["letters"] 0 Yao T D Ya4 YeS ?_
 show 1
 have sc := Ya4
 show 2
 refine Vo ?_ ?_
 exact Yk
 refine Yde ?_ ?_ ?_ ?_ ?_ ?_ ?_ ?_
 show 16
 exact z_sorted
 exact YeO
 show 146
 exact z_set
 exact Ykr
 show 157
theorem V9 : YlI ["system"] ["system"] (Ylx (top 23)) := by show 150
theorem Ycz : HB "names_of" (top 23) ["system"]
 | _, _, _, _, _, _, [_], _ => rfl
theorem Yck (T : Top K mg) (O : Own K mg) (D : YlF K "names_of" (top 23)) (F_is_unknown : Fn P' w K mg base "is_unknown" 1 ["letter"] Yu) (F_letters_of : Fn P' w K mg base "letters_of" 1 ["system"] YH) (F_rising : Fn P' w K mg base "rising" 1 ["letters"] ZY) : Fn P' w K mg base "names_of" 2 ["system"] Zk := by
 refine @Zt P' w K mg base "names_of" (top 23) ["system"] ["system"] 1 Ve T D V9 Ycz ?_
 show 1
 have sc := V9
 show 2
 refine YW (ps := ["letters"]) (k := 1) ?_ ?_ ?_ ?_
 exact F_rising
 show 6
 show 244
 refine Zn (TN := ["letter"]) (FN := []) (fr := []) ?_ ?_ ?_ ?_ ?_
 show 146
 exact (Y9 ["letter"] [] [] (by rfl))
 show 175
 refine YW (ps := ["system"]) (k := 1) ?_ ?_ ?_ ?_
 exact F_letters_of
 show 4
 show 21
 show (["letter"] : List Str).Nodup; decide +kernel
 show 17
 refine Yek ?_
 show 211
 show 232
 exact F_is_unknown
 show 4
 show 177
 show 18
theorem Jb : YlI ["system", "spots", "equation", "sides", "side", "letters", "place", "letter"] ["system"] (Ylx (top 24)) := by show 150
theorem Ycx : HB "spots_of" (top 24) ["system"]
 | _, _, _, _, _, _, [_], _ => rfl
theorem YcS (T : Top K mg) (O : Own K mg) (D : YlF K "spots_of" (top 24))  : Fn P' w K mg base "spots_of" 1 ["system"] Zi := by
 have z_enumerate := O.z_enumerate
 refine @Zt P' w K mg base "spots_of" (top 24) ["system", "spots", "equation", "sides", "side", "letters", "place", "letter"] ["system"] 0 Vb T D Jb Ycx ?_
 show 1
 have sc := Jb
 show 0
 show 75
 exact Yb
 show 39
 refine YbT ?_ ?_ ?_ ?_
 show 146
 exact z_enumerate
 exact Wf
 show 157
 refine YaA ?_ ?_
 show 55
 exact Vl
 show 50
 refine YbT ?_ ?_ ?_ ?_
 show 146
 exact z_enumerate
 exact Wf
 show 193
 refine YaA ?_ ?_
 show 55
 exact Vl
 show 50
 refine YbT ?_ ?_ ?_ ?_
 show 146
 exact z_enumerate
 exact Wf
 exact (jv 5)
 refine YaA ?_ ?_
 show 55
 exact Vl
 show 87
 refine je_M (T := "list") (id := "list.append") ?_ ?_ ?_ ?_ ?_ ?_ ?_
 exact YbX
 show 226
 exact PySem.F.slot_list_append
 exact PySem.F.type_list_append
 exact VO
 show 158
 show 89
 show 218
 show 153
 show 57
 show 97
 exact (jv 6)
 show 95
 show 2
 show 158
theorem ZZ : YlI ["system", "times", "letter", "equation", "side", "place"] ["system"] (Ylx (top 25)) := by show 150
theorem V1 : HB "refuse_thrice" (top 25) ["system"]
 | _, _, _, _, _, _, [_], _ => rfl
theorem VL (T : Top K mg) (O : Own K mg) (D : YlF K "refuse_thrice" (top 25)) (F_is_unknown : Fn P' w K mg base "is_unknown" 1 ["letter"] Yu) (F_spots_of : Fn P' w K mg base "spots_of" 1 ["system"] Zi) : Fn1 P' w K mg base "refuse_thrice" 3 ["system"] YF := by
 have F_Thrice_ini := Ydk (P' := P') (w := w) (base := base) T O
 refine @YbU P' w K mg base "refuse_thrice" (top 25) ["system", "times", "letter", "equation", "side", "place"] ["system"] 2 Zs T D ZZ V1 ?_
 show 1
 have sc := ZZ
 show 0
 exact YfT
 show 170
 show 268
 exact PassesOwn.leaving
 show 146
 show 175
 refine YW (ps := ["system"]) (k := 1) ?_ ?_ ?_ ?_
 exact F_spots_of
 show 4
 refine YaA ?_ ?_
 show 55
 show 131
 exact Vl
 show 178
 refine YdB ?_ ?_ ?_ ?_
 show 93
 show 164
 show 3
 refine Yki ?_ ?_ ?_ ?_ ?_
 show 93
 show 58
 exact ⟨rfl, rfl, rfl, rfl⟩
 exact Ye
 show 41
 refine J2 ?_ ?_
 show 211
 show 232
 exact F_is_unknown
 show 6
 show 164
 exact Yb
 show 177
 refine Vk ?_
 show 165
 exact YcL
 show 5
 show 137
 show 32
 show 170
 refine Ybc (k := 1) ?_ ?_ ?_ ?_ ?_
 exact F_Thrice_ini
 show 245
 show 82
 show 57
 show 79
 show 97
 exact (jv 5)
 show 45
theorem Wq : YlI ["many", "most"] ["many", "most"] (Ylx (top 26)) := by show 150
theorem Ju : HB "refuse_above" (top 26) ["many", "most"]
 | _, _, _, _, _, _, [_, _], _ => rfl
theorem Jt (T : Top K mg) (O : Own K mg) (D : YlF K "refuse_above" (top 26))  : Fn1 P' w K mg base "refuse_above" 3 ["many", "most"] Yw := by
 have F_TooGreat_ini := Yby (P' := P') (w := w) (base := base) T O
 refine @YbU P' w K mg base "refuse_above" (top 26) ["many", "most"] ["many", "most"] 2 Za T D Wq Ju ?_
 show 1
 have sc := Wq
 show 77
 show 165
 exact YcL
 show 59
 show 174
 show 170
 refine Ybc (k := 1) ?_ ?_ ?_ ?_ ?_
 exact F_TooGreat_ini
 show 245
 show 82
 show 72
 show 19
 exact Yy
theorem YcH : YlI ["thing"] ["thing"] (Ylx (top 27)) := by show 150
theorem YhJ : HB "check" (top 27) ["thing"]
 | _, _, _, _, _, _, [_], _ => rfl
theorem YgJ (T : Top K mg) (O : Own K mg) (D : YlF K "check" (top 27)) (F_has_form : Fn P' w K mg base "has_form" 4 ["thing"] YA) (F_letters_of : Fn P' w K mg base "letters_of" 1 ["system"] YH) (F_names_of : Fn P' w K mg base "names_of" 2 ["system"] Zk) (F_refuse_above : Fn1 P' w K mg base "refuse_above" 3 ["many", "most"] Yw) (F_refuse_thrice : Fn1 P' w K mg base "refuse_thrice" 3 ["system"] YF) : Fn1 P' w K mg base "check" 5 ["thing"] ZO := by
 show 181
 obtain ⟨_, c_MOST_LETTERS⟩ := O.c_MOST_LETTERS
 obtain ⟨_, c_MOST_UNKNOWNS⟩ := O.c_MOST_UNKNOWNS
 have x_NoSystem := O.x_NoSystem
 refine @YbU P' w K mg base "check" (top 27) ["thing"] ["thing"] 4 YbZ T D YcH YhJ ?_
 show 1
 have sc := YcH
 show 8
 show 43
 refine YW (ps := ["thing"]) (k := 4) ?_ ?_ ?_ ?_
 exact F_has_form
 show 4
 show 60
 refine Yaq ?_ ?_ ?_ ?_
 exact x_NoSystem
 show 107
 show 51
 refine Yam (ps := ["system"]) (k := 3) ?_ ?_ ?_ ?_
 exact F_refuse_thrice
 show 4
 show 51
 refine Yam (ps := ["many", "most"]) (k := 3) ?_ ?_ ?_ ?_
 exact F_refuse_above
 show 6
 show 14
 refine YW (ps := ["system"]) (k := 1) ?_ ?_ ?_ ?_
 exact F_letters_of
 show 4
 show 56
 exact (Ybx (by exact rfl) c_MOST_LETTERS)
 exact Yb
 show 87
 refine Yam (ps := ["many", "most"]) (k := 3) ?_ ?_ ?_ ?_
 exact F_refuse_above
 show 6
 show 14
 refine YW (ps := ["system"]) (k := 2) ?_ ?_ ?_ ?_
 exact F_names_of
 show 4
 show 56
 exact (Ybx (by exact rfl) c_MOST_UNKNOWNS)
 exact Yb
theorem WI : YlI ["text", "system"] ["text"] (Ylx (top 29)) := by show 150
theorem Yaw : HB "read_system" (top 29) ["text"]
 | _, _, _, _, _, _, [_], _ => rfl
theorem Yaf (T : Top K mg) (O : Own K mg) (D : YlF K "read_system" (top 29)) (F_check : Fn1 P' w K mg base "check" 5 ["thing"] ZO) (F_has_form : Fn P' w K mg base "has_form" 4 ["thing"] YA) : Fn1 P' w K mg base "read_system" 6 ["text"] Yv := by
 show 222
 have z_str := O.z_str
 show 200
 have x_NoText := O.x_NoText
 refine @YbU P' w K mg base "read_system" (top 29) ["text", "system"] ["text"] 5 Zp T D WI Yaw ?_
 show 1
 have sc := WI
 show 8
 show 47
 exact Jz
 show 15
 exact z_str
 exact Yb0
 show 157
 show 60
 refine Yaq ?_ ?_ ?_ ?_
 exact x_NoText
 show 107
 show 0
 refine YaV ?_ ?_ ?_ ?_
 show 92
 refine Zn (TN := ["piece"]) (FN := []) (fr := []) ?_ ?_ ?_ ?_ ?_
 show 146
 exact (Y9 ["piece"] [] [] (by rfl))
 show 175
 refine je_M (T := "str") (id := "str.split") ?_ ?_ ?_ ?_ ?_ ?_ ?_
 exact W7
 show 209
 exact PySem.F.slot_str_split
 exact PySem.F.type_str_split
 exact Ycc
 show 157
 show 29
 show 21
 show (["piece"] : List Str).Nodup; decide +kernel
 show 13
 refine YkW (T := "tuple") ?_ ?_ ?_ ?_ ?_
 exact (Yfm rfl)
 show 92
 show 153
 refine je_M (T := "str") (id := "str.split") ?_ ?_ ?_ ?_ ?_ ?_ ?_
 exact W7
 show 209
 exact PySem.F.slot_str_split
 exact PySem.F.type_str_split
 exact Ycc
 show 157
 show 29
 exact Yb
 show 8
 show 43
 refine YW (ps := ["thing"]) (k := 4) ?_ ?_ ?_ ?_
 exact F_has_form
 show 66
 show 60
 refine Yaq ?_ ?_ ?_ ?_
 exact x_NoText
 show 107
 show 51
 refine Yam (ps := ["thing"]) (k := 5) ?_ ?_ ?_ ?_
 exact F_check
 show 66
 show 2
 show 158
theorem Wp : YlI ["_law_script", "_law_k"] ["_law_script", "_law_k"] (Ylx (top 31)) := by show 150
theorem Jw : HB "_law_cell_at" (top 31) ["_law_script", "_law_k"]
 | _, _, _, _, _, _, [_, _], _ => rfl
theorem Jp (T : Top K mg) (O : Own K mg) (D : YlF K "_law_cell_at" (top 31))  : Fn P' w K mg base "_law_cell_at" 1 ["_law_script", "_law_k"] Yq := by
 show 181
 refine @Zt P' w K mg base "_law_cell_at" (top 31) ["_law_script", "_law_k"] ["_law_script", "_law_k"] 0 ZH T D Wp Jw ?_
 show 1
 have sc := Wp
 show 42
 exact Yi0
 show 158
 show 69
 show 174
 show 2
 show 7
 show 59
 show 160
 show 10
 exact Ye
theorem ZX : YlI ["_law_script", "_law_signs"] ["_law_script"] (Ylx (top 32)) := by show 150
theorem VF : HB "_law_any_text" (top 32) ["_law_script"]
 | _, _, _, _, _, _, [_], _ => rfl
theorem V8 (T : Top K mg) (O : Own K mg) (D : YlF K "_law_any_text" (top 32))  : Fn P' w K mg base "_law_any_text" 1 ["_law_script"] YG := by
 show 181
 refine @Zt P' w K mg base "_law_any_text" (top 32) ["_law_script", "_law_signs"] ["_law_script"] 0 Zq T D ZX VF ?_
 show 1
 have sc := ZX
 show 0
 exact Yk
 show 2
 refine Vo ?_ ?_
 exact Yk
 refine Zn (TN := ["_law_cell"]) (FN := ["_law_signs"]) (fr := [1]) ?_ ?_ ?_ ?_ ?_
 show 146
 exact (Y9 ["_law_cell"] ["_law_signs"] [1] (by rfl))
 show 175
 show 90
 show 52
 show 52
 show 21
 show (["_law_cell", "_law_signs"] : List Str).Nodup; decide +kernel
 show 13
 show 5
 show 115
 show 157
 show 26
 show 23
 show 160
theorem Zu : YlI ["_law_script", "_law_first", "_law_pool", "_law_many", "_law_sides", "_law_cell", "_law_at", "_law_text", "_law_place", "_law_sign", "_law_way"] ["_law_script"] (Ylx (top 33)) := by show 150
theorem WU : HB "_law_system_text" (top 33) ["_law_script"]
 | _, _, _, _, _, _, [_], _ => rfl
theorem WW (T : Top K mg) (O : Own K mg) (D : YlF K "_law_system_text" (top 33)) (F__law_cell_at : Fn P' w K mg base "_law_cell_at" 1 ["_law_script", "_law_k"] Yq) : Fn P' w K mg base "_law_system_text" 2 ["_law_script"] Yz := by
 show 181
 have z_range := O.z_range
 refine @Zt P' w K mg base "_law_system_text" (top 33) ["_law_script", "_law_first", "_law_pool", "_law_many", "_law_sides", "_law_cell", "_law_at", "_law_text", "_law_place", "_law_sign", "_law_way"] ["_law_script"] 1 Y4 T D Zu WU ?_
 show 1
 have sc := Zu
 show 0
 show 76
 refine YW (ps := ["_law_script", "_law_k"]) (k := 1) ?_ ?_ ?_ ?_
 exact F__law_cell_at
 show 119
 exact Ye
 show 65
 show 246
 exact Yk
 exact Wn
 show 53
 exact Ye
 show 31
 show 158
 exact Ye
 show 74
 exact Yk
 show 62
 show 26
 show 65
 exact Ye
 show 62
 show 26
 show 0
 show 244
 refine Zn (TN := ["_law_k"]) (FN := []) (fr := []) ?_ ?_ ?_ ?_ ?_
 show 146
 exact (Y9 ["_law_k"] [] [] (by rfl))
 show 28
 show 80
 show 27
 show 99
 show (["_law_k"] : List Str).Nodup; decide +kernel
 show 13
 exact Yk
 show 39
 show 175
 show 90
 show 52
 show 52
 show 30
 show 0
 show 115
 exact (jv 5)
 show 26
 show 80
 show 193
 show 170
 refine YdB ?_ ?_ ?_ ?_
 exact hu
 show 198
 exact (jv 6)
 show 3
 show 7
 show 198
 exact (jv 6)
 show 160
 show 105
 show 115
 exact (jv 5)
 show 26
 show 118
 exact Yb
 show 160
 show 0
 refine Vo ?_ ?_
 exact Yk
 refine Zn (TN := ["_law_k"]) (FN := ["_law_sides"]) (fr := [4]) ?_ ?_ ?_ ?_ ?_
 show 146
 exact (Y9 ["_law_k"] ["_law_sides"] [4] (by rfl))
 show 28
 show 27
 show 99
 show (["_law_k", "_law_sides"] : List Str).Nodup; decide +kernel
 show 13
 show 109
 show 5
 show 63
 show 160
 exact Yk
 show 5
 show 3
 show 63
 show 11
 show 0
 show 62
 exact Ye
 show 3
 show 117
 exact Yb
 exact Ye
 show 0
 show 7
 exact Yk
 show 62
 exact Ye
 show 11
 show 0
 show 132
 refine YW (ps := ["_law_script", "_law_k"]) (k := 1) ?_ ?_ ?_ ?_
 exact F__law_cell_at
 show 119
 show 26
 show 116
 exact (jv 10)
 show 35
 show 109
 show 111
 exact (jv 9)
 show 44
 show 53
 show 247
 exact Ye
 exact Wn
 exact Yy
 show 116
 exact (jv 10)
 show 35
 show 109
 show 111
 exact (jv 9)
 show 44
 show 133
 exact Wn
 exact Yy
 show 116
 exact (jv 10)
 show 35
 show 3
 show 111
 show 44
 show 53
 show 247
 exact Ye
 exact Wn
 show 10
 show 218
theorem ZP : YlI ["_law_text", "_law_sides", "_law_at"] ["_law_text"] (Ylx (top 34)) := by show 150
theorem VB : HB "_law_equations" (top 34) ["_law_text"]
 | _, _, _, _, _, _, [_], _ => rfl
theorem Vh (T : Top K mg) (O : Own K mg) (D : YlF K "_law_equations" (top 34))  : Fn P' w K mg base "_law_equations" 1 ["_law_text"] YD := by
 show 181
 have z_range := O.z_range
 show 200
 refine @Zt P' w K mg base "_law_equations" (top 34) ["_law_text", "_law_sides", "_law_at"] ["_law_text"] 0 Zg T D ZP VB ?_
 show 1
 have sc := ZP
 show 0
 show 75
 show 29
 show 0
 exact Ye
 show 178
 refine Yhd ?_ ?_ ?_
 show 262
 show 165
 exact Yi0
 show 164
 show 69
 show 174
 show 8
 show 211
 refine Yi3 (T := "str") (id := "str.isalpha") ?_ ?_ ?_ ?_ ?_ ?_
 exact W7
 show 209
 exact PySem.F.slot_str_isalpha
 exact PySem.F.type_str_isalpha
 exact Ydb
 show 106
 show 60
 refine YdB ?_ ?_ ?_ ?_
 show 93
 refine Ygg ?_
 exact Ye
 show 3
 show 5
 refine Ygg ?_
 show 11
 show 106
 show 41
 refine J2 ?_ ?_
 show 20
 show 106
 show 94
 refine Vk ?_
 show 121
 show 87
 refine je_M (T := "list") (id := "list.append") ?_ ?_ ?_ ?_ ?_ ?_ ?_
 exact YbX
 show 226
 exact PySem.F.slot_list_append
 exact PySem.F.type_list_append
 exact VO
 show 158
 show 29
 show 41
 refine J2 ?_ ?_
 show 20
 show 90
 show 214
 show 164
 show 53
 show 58
 show 94
 refine Vk ?_
 show 121
 show 51
 refine je_M (T := "list") (id := "list.append") ?_ ?_ ?_ ?_ ?_ ?_ ?_
 exact YbX
 show 226
 exact PySem.F.slot_list_append
 exact PySem.F.type_list_append
 exact VO
 show 158
 show 29
 show 36
 show 3
 show 58
 show 2
 exact W4
 show 36
 show 3
 show 58
 show 68
 show 225
 show 121
 refine YbF ?_
 show 165
 exact YcL
 show 23
 show 35
 exact W4
 show 10
 refine YaV ?_ ?_ ?_ ?_
 show 92
 refine Zn (TN := ["_law_k"]) (FN := ["_law_sides"]) (fr := [1]) ?_ ?_ ?_ ?_ ?_
 show 146
 exact (Y9 ["_law_k"] ["_law_sides"] [1] (by rfl))
 show 28
 show 76
 show 23
 show 37
 show 99
 show (["_law_k", "_law_sides"] : List Str).Nodup; decide +kernel
 show 13
 show 134
 show 5
 show 63
 show 160
 show 153
 show 5
 show 3
 show 63
 show 11
 exact Yb
theorem Jl : YlI ["_law_text", "_law_system", "_law_read", "_law_number", "_law_side", "_law_place", "_law_letter", "_law_names"] ["_law_text"] (Ylx (top 35)) := by show 150
theorem YcF : HB "_law_due" (top 35) ["_law_text"]
 | _, _, _, _, _, _, [_], _ => rfl
theorem Ycd (T : Top K mg) (O : Own K mg) (D : YlF K "_law_due" (top 35)) (F__law_equations : Fn P' w K mg base "_law_equations" 1 ["_law_text"] YD) : Fn P' w K mg base "_law_due" 2 ["_law_text"] Y5 := by
 show 181
 have z_range := O.z_range
 refine @Zt P' w K mg base "_law_due" (top 35) ["_law_text", "_law_system", "_law_read", "_law_number", "_law_side", "_law_place", "_law_letter", "_law_names"] ["_law_text"] 1 W3 T D Jl YcF ?_
 show 1
 have sc := Jl
 show 0
 refine YW (ps := ["_law_text"]) (k := 1) ?_ ?_ ?_ ?_
 exact F__law_equations
 show 4
 show 42
 exact YiW
 show 158
 exact W4
 show 174
 show 2
 show 33
 show 45
 show 0
 exact Yk
 show 39
 show 28
 show 23
 exact Yb
 show 100
 show 50
 show 28
 show 37
 show 100
 show 50
 show 28
 show 14
 show 7
 show 5
 show 193
 show 160
 show 198
 show 160
 show 95
 show 100
 show 0
 show 7
 show 7
 show 5
 show 193
 show 160
 show 198
 show 160
 exact (jv 5)
 show 160
 show 65
 show 164
 exact (jv 6)
 show 41
 refine J2 ?_ ?_
 show 211
 refine Yi3 (T := "str") (id := "str.isupper") ?_ ?_ ?_ ?_ ?_ ?_
 exact W7
 show 209
 exact PySem.F.slot_str_isupper
 exact PySem.F.type_str_isupper
 exact Ydi
 exact (jv 6)
 show 177
 refine Vk ?_
 show 20
 refine je_M (T := "str") (id := "str.count") ?_ ?_ ?_ ?_ ?_ ?_ ?_
 exact W7
 show 209
 exact PySem.F.slot_str_count
 exact PySem.F.type_str_count
 exact Yep
 show 57
 exact (jv 6)
 show 104
 exact (jv 6)
 show 153
 show 79
 show 97
 exact (jv 5)
 show 45
 show 178
 refine YdL (TN := ["_law_name"]) (FN := ["_law_read"]) (fr := [2]) ?_ ?_ ?_ ?_ ?_ ?_ ?_ ?_
 show 70
 show 146
 exact (Y9 ["_law_name"] ["_law_read"] [2] (by rfl))
 show 175
 exact Yk
 show 21
 show (["_law_name", "_law_read"] : List Str).Nodup; decide +kernel
 show 17
 refine Yek ?_
 show 165
 exact (Yj8 hu)
 show 59
 with_unfolding_all rfl
 show 157
 show 42
 exact YcL
 show 118
 show 104
 show 118
 show 56
 show 37
 exact Yy
 show 42
 exact YcL
 show 117
 show 104
 show 117
 show 56
 show 37
 show 10
 show 78
 show 19
theorem Wr : YlI ["_law_e", "_law_some"] ["_law_e"] (Ylx (top 36)) := by show 150
theorem Jq : HB "_law_classes" (top 36) ["_law_e"]
 | _, _, _, _, _, _, [_], _ => rfl
theorem Jo (T : Top K mg) (O : Own K mg) (D : YlF K "_law_classes" (top 36))  : FnH P' w K mg base "_law_classes" 1 ["_law_e"] YN := by
 have z_ValueError := O.z_ValueError
 show 222
 have i_NoText := O.i_NoText
 have o_NoText_GapError := O.o_NoText_GapError
 have o_NoText_NoAnswer := O.o_NoText_NoAnswer
 have o_NoText_NoFit := O.o_NoText_NoFit
 have o_NoText_NoName := O.o_NoText_NoName
 have o_NoText_NoStep := O.o_NoText_NoStep
 have o_NoText_NoSystem := O.o_NoText_NoSystem
 have o_NoText_NoText := O.o_NoText_NoText
 have o_NoText_NoWay := O.o_NoText_NoWay
 have o_NoText_Thrice := O.o_NoText_Thrice
 have o_NoText_TooGreat := O.o_NoText_TooGreat
 have o_NoText_Twice := O.o_NoText_Twice
 have t_NoText_ValueError := O.t_NoText_ValueError
 refine @YjG P' w K mg base "_law_classes" (top 36) ["_law_e", "_law_some"] ["_law_e"] 0 ZD T D Wr Jq ?_
 intro f cdv A outer s H hr
 have hu := Yje hr
 have hu8 := YhR hr
 have sc := Wr
 show 0
 show 110
 exact o_NoText_NoSystem
 show 12
 exact o_NoText_NoText
 show 12
 exact o_NoText_NoName
 show 12
 exact o_NoText_Twice
 show 73
 show 18
 show 65
 show 158
 show 110
 exact o_NoText_NoStep
 show 12
 exact o_NoText_NoAnswer
 show 12
 exact o_NoText_NoFit
 show 12
 exact o_NoText_Thrice
 show 73
 show 18
 show 2
 show 3
 show 158
 show 110
 exact o_NoText_TooGreat
 show 12
 exact o_NoText_NoWay
 show 12
 exact o_NoText_GapError
 show 129
 refine Yh1 (T := "ValueError") ?_ ?_ ?_ ?_ ?_ ?_ ?_ ?_ ?_
 show 269
 exact t_NoText_ValueError
 show 15
 exact z_ValueError
 exact YaR
 show 18
theorem W1 : YlI ["_law_text", "_law_found_here", "_law_kinds_here", "_law_e"] ["_law_text"] (Ylx (top 37)) := by show 150
theorem YaQ : HB "_law_found" (top 37) ["_law_text"]
 | _, _, _, _, _, _, [_], _ => rfl
theorem YaF (T : Top K mg) (O : Own K mg) (D : YlF K "_law_found" (top 37)) (F__law_classes : FnH P' w K mg base "_law_classes" 1 ["_law_e"] YN) (F_read_system : Fn1 P' w K mg base "read_system" 6 ["text"] Yv) : Fn P' w K mg base "_law_found" 7 ["_law_text"] Yt := by
 have y_NoText := O.y_NoText
 have y_Thrice := O.y_Thrice
 have y_TooGreat := O.y_TooGreat
 have q_NoText := O.q_NoText
 have q_Thrice := O.q_Thrice
 have q_TooGreat := O.q_TooGreat
 have a_Thrice_equation := O.a_Thrice_equation
 have a_Thrice_place := O.a_Thrice_place
 have a_Thrice_side := O.a_Thrice_side
 have a_Thrice_unknown := O.a_Thrice_unknown
 have a_TooGreat_many := O.a_TooGreat_many
 have a_TooGreat_most := O.a_TooGreat_most
 refine @Zt P' w K mg base "_law_found" (top 37) ["_law_text", "_law_found_here", "_law_kinds_here", "_law_e"] ["_law_text"] 6 Zx T D W1 YaQ ?_
 show 1
 have sc := W1
 show 0
 exact W4
 show 0
 show 46
 exact Wo
 show 153
 exact Wo
 show 153
 exact Wo
 exact Yb
 show 178
 refine YiQ ?_ ?_ ?_ ?_
 show 16
 intro pins E
 show 112
 refine Yam (ps := ["text"]) (k := 6) ?_ ?_ ?_ ?_
 exact F_read_system
 show 4
 exact Yb
 refine YfR ?_ ?_ ?_ ?_ ?_ ?_ ?_ ?_ ?_ ?_
 exact y_NoText
 exact q_NoText
 show 114
 intro pins E
 show 0
 show 33
 exact Yb
 show 36
 refine Yjy (ps := ["_law_e"]) (k := 1) ?_ ?_ ?_ ?_
 exact F__law_classes
 exact (YmL.of hr (by decide))
 show 71
 show 27
 refine YfR ?_ ?_ ?_ ?_ ?_ ?_ ?_ ?_ ?_ ?_
 exact y_Thrice
 exact q_Thrice
 show 114
 intro pins E
 show 112
 show 248
 exact a_Thrice_unknown
 show 64
 exact a_Thrice_equation
 show 64
 exact a_Thrice_side
 show 64
 exact a_Thrice_place
 show 27
 refine YfR ?_ ?_ ?_ ?_ ?_ ?_ ?_ ?_ ?_ ?_
 exact y_TooGreat
 exact q_TooGreat
 show 114
 intro pins E
 show 112
 show 248
 exact a_TooGreat_many
 show 64
 exact a_TooGreat_most
 show 27
 exact YjS
 show 42
 exact (Yeb hu8)
 refine je_M (T := "list") (id := "list.count") ?_ ?_ ?_ ?_ ?_ ?_ ?_
 exact YbX
 show 226
 exact PySem.F.slot_list_count
 exact PySem.F.type_list_count
 exact Yfe
 show 57
 exact Wo
 show 136
 exact W4
 show 10
 show 158
theorem WY : YlI ["_law_system", "_law_one"] ["_law_system"] (Ylx (top 38)) := by show 150
theorem YaK : HB "_law_kinds" (top 38) ["_law_system"]
 | _, _, _, _, _, _, [_], _ => rfl
theorem YaO (T : Top K mg) (O : Own K mg) (D : YlF K "_law_kinds" (top 38))  : Fn P' w K mg base "_law_kinds" 1 ["_law_system"] YQ := by
 show 91
 have z_str := O.z_str
 show 200
 refine @Zt P' w K mg base "_law_kinds" (top 38) ["_law_system", "_law_one"] ["_law_system"] 0 Wj T D WY YaK ?_
 show 1
 have sc := WY
 show 8
 show 47
 exact WP
 show 120
 show 98
 exact Yy
 show 39
 show 81
 show 30
 show 41
 show 88
 exact WP
 show 139
 show 158
 show 177
 show 225
 show 165
 exact (Yeb hu8)
 show 23
 show 32
 show 88
 exact Jz
 show 15
 exact z_str
 exact Yb0
 show 5
 show 11
 show 177
 refine YbF ?_
 show 47
 exact Jz
 show 15
 exact z_str
 exact Yb0
 show 5
 show 11
 show 98
 show 10
 exact Wo
theorem Yhh : YlI ["_law_script", "_law_text", "_law_found_here", "_law_thing"] ["_law_script"] (Ylx (top 39)) := by show 150
theorem Ylu : HB "law" (top 39) ["_law_script"]
 | _, _, _, _, _, _, [_], _ => rfl
theorem YjW (T : Top K mg) (O : Own K mg) (F__law_any_text : Fn P' w K mg base "_law_any_text" 1 ["_law_script"] YG) (F__law_cell_at : Fn P' w K mg base "_law_cell_at" 1 ["_law_script", "_law_k"] Yq) (F__law_due : Fn P' w K mg base "_law_due" 2 ["_law_text"] Y5) (F__law_found : Fn P' w K mg base "_law_found" 7 ["_law_text"] Yt) (F__law_kinds : Fn P' w K mg base "_law_kinds" 1 ["_law_system"] YQ) (F__law_system_text : Fn P' w K mg base "_law_system_text" 2 ["_law_script"] Yz) (f : Addr) (fd : FuncData) (F : Fun K "law" "law" (top 39) f fd) : FM P' w K mg base 8 f fd ["_law_script"] Yc4 := by
 refine @Mi.Fun.mirror P' w K mg base "law" "law" (top 39) f fd ["_law_script", "_law_text", "_law_found_here", "_law_thing"] ["_law_script"] 7 YfQ F Yhh ?_
 intro cdv A outer s H E hr
 show 123
 have sc := Yhh
 show 0
 refine YW (ps := ["_law_script"]) (k := 1) ?_ ?_ ?_ ?_
 exact F__law_any_text
 show 4
 show 8
 show 138
 refine YW (ps := ["_law_script", "_law_k"]) (k := 1) ?_ ?_ ?_ ?_
 exact F__law_cell_at
 show 119
 show 135
 show 36
 refine YW (ps := ["_law_script"]) (k := 2) ?_ ?_ ?_ ?_
 exact F__law_system_text
 show 4
 exact Yy
 show 0
 refine YW (ps := ["_law_text"]) (k := 7) ?_ ?_ ?_ ?_
 exact F__law_found
 show 66
 show 68
 show 225
 show 165
 exact YiW
 show 164
 exact W4
 show 174
 refine YbF ?_
 show 165
 exact (Yeb hu8)
 show 164
 refine YW (ps := ["_law_text"]) (k := 2) ?_ ?_ ?_ ?_
 exact F__law_due
 show 66
 show 174
 show 48
 exact Yy
 show 68
 refine J2 ?_ ?_
 show 20
 show 105
 show 11
 show 94
 refine Vk ?_
 show 43
 refine YW (ps := ["_law_system"]) (k := 1) ?_ ?_ ?_ ?_
 exact F__law_kinds
 show 6
 show 105
 show 11
 exact Yb
 show 98
 exact Yy
 show 39
 show 175
 show 46
 exact W4
 show 153
 exact Ye
 show 89
 show 19
 show 153
 show 46
 show 19
 show 89
 show 33
 show 29
 show 95
 show 30
 show 77
 show 165
 exact (Yeb hu8)
 refine YW (ps := ["_law_text"]) (k := 7) ?_ ?_ ?_ ?_
 exact F__law_found
 show 6
 show 27
 show 33
 exact Yb
 show 174
 show 48
 show 10
 exact Wo
end
structure Seen (K : Frag) : Prop where
 d_is_sign : YlF K "is_sign" (top 16)
 d_is_unknown : YlF K "is_unknown" (top 17)
 d_is_side : YlF K "is_side" (top 18)
 d_is_equation : YlF K "is_equation" (top 19)
 d_has_form : YlF K "has_form" (top 20)
 d_letters_of : YlF K "letters_of" (top 21)
 d_rising : YlF K "rising" (top 22)
 d_names_of : YlF K "names_of" (top 23)
 d_spots_of : YlF K "spots_of" (top 24)
 d_refuse_thrice : YlF K "refuse_thrice" (top 25)
 d_refuse_above : YlF K "refuse_above" (top 26)
 d_check : YlF K "check" (top 27)
 d_read_system : YlF K "read_system" (top 29)
 d__law_cell_at : YlF K "_law_cell_at" (top 31)
 d__law_any_text : YlF K "_law_any_text" (top 32)
 d__law_system_text : YlF K "_law_system_text" (top 33)
 d__law_equations : YlF K "_law_equations" (top 34)
 d__law_due : YlF K "_law_due" (top 35)
 d__law_classes : YlF K "_law_classes" (top 36)
 d__law_found : YlF K "_law_found" (top 37)
 d__law_kinds : YlF K "_law_kinds" (top 38)
 d_law : YlF K "law" (top 39)
 z_ValueError : nsIn K mainGlobals "ValueError" = some none
 z_all : nsIn K mainGlobals "all" = some none
 z_enumerate : nsIn K mainGlobals "enumerate" = some none
 z_isinstance : nsIn K mainGlobals "isinstance" = some none
 z_len : nsIn K mainGlobals "len" = some none
 z_range : nsIn K mainGlobals "range" = some none
 z_set : nsIn K mainGlobals "set" = some none
 z_sorted : nsIn K mainGlobals "sorted" = some none
 z_str : nsIn K mainGlobals "str" = some none
 z_tuple : nsIn K mainGlobals "tuple" = some none
 c_MOST_EQUATIONS : Mi.Ynn K "MOST_EQUATIONS" fun t => (.int 6 t)
 c_MOST_LETTERS : Mi.Ynn K "MOST_LETTERS" fun t => (.int 40 t)
 c_MOST_UNKNOWNS : Mi.Ynn K "MOST_UNKNOWNS" fun t => (.int 6 t)
 x_NoSystem : ExcAt K "NoSystem"
 x_NoText : ExcAt K "NoText"
 i_NoText : YmY K "NoText"
 o_NoText_GapError : YlM K "NoText" "GapError" true
 o_NoText_NoAnswer : YlM K "NoText" "NoAnswer" false
 o_NoText_NoFit : YlM K "NoText" "NoFit" false
 o_NoText_NoName : YlM K "NoText" "NoName" false
 o_NoText_NoStep : YlM K "NoText" "NoStep" false
 o_NoText_NoSystem : YlM K "NoText" "NoSystem" false
 o_NoText_NoText : YlM K "NoText" "NoText" true
 o_NoText_NoWay : YlM K "NoText" "NoWay" false
 o_NoText_Thrice : YlM K "NoText" "Thrice" false
 o_NoText_TooGreat : YlM K "NoText" "TooGreat" false
 o_NoText_Twice : YlM K "NoText" "Twice" false
 t_NoText_ValueError : YnJ K "NoText" "ValueError" true
 n_Thrice : Ym8 K "Thrice" "GapError" (YmA (top 9) 0) "Thrice.__init__" ["place", "side", "equation", "unknown"]
 n_TooGreat : Ym8 K "TooGreat" "GapError" (YmA (top 10) 0) "TooGreat.__init__" ["most", "many"]
 y_NoText : Ymz K "NoText"
 y_Thrice : Ymz K "Thrice"
 y_TooGreat : Ymz K "TooGreat"
 q_NoText : ∀ d ∈ (["NoSystem", "Thrice", "TooGreat"] : List Str), Yl4 K d "NoText"
 q_Thrice : ∀ d ∈ (["NoSystem", "NoText", "TooGreat"] : List Str), Yl4 K d "Thrice"
 q_TooGreat : ∀ d ∈ (["NoSystem", "NoText", "Thrice"] : List Str), Yl4 K d "TooGreat"
 a_Thrice_equation : Ymg K "Thrice" "equation"
 a_Thrice_place : Ymg K "Thrice" "place"
 a_Thrice_side : Ymg K "Thrice" "side"
 a_Thrice_unknown : Ymg K "Thrice" "unknown"
 a_TooGreat_many : Ymg K "TooGreat" "many"
 a_TooGreat_most : Ymg K "TooGreat" "most"
theorem YfO {K : Frag} {mg : SOV} (T : Top K mg) (S : Seen K) : Own K mg where
 z_ValueError := T.none S.z_ValueError
 z_all := T.none S.z_all
 z_enumerate := T.none S.z_enumerate
 z_isinstance := T.none S.z_isinstance
 z_len := T.none S.z_len
 z_range := T.none S.z_range
 z_set := T.none S.z_set
 z_sorted := T.none S.z_sorted
 z_str := T.none S.z_str
 z_tuple := T.none S.z_tuple
 c_MOST_EQUATIONS := let ⟨t, h⟩ := S.c_MOST_EQUATIONS; ⟨t, T.at h⟩
 c_MOST_LETTERS := let ⟨t, h⟩ := S.c_MOST_LETTERS; ⟨t, T.at h⟩
 c_MOST_UNKNOWNS := let ⟨t, h⟩ := S.c_MOST_UNKNOWNS; ⟨t, T.at h⟩
 x_NoSystem := S.x_NoSystem
 x_NoText := S.x_NoText
 i_NoText := S.i_NoText
 o_NoText_GapError := S.o_NoText_GapError
 o_NoText_NoAnswer := S.o_NoText_NoAnswer
 o_NoText_NoFit := S.o_NoText_NoFit
 o_NoText_NoName := S.o_NoText_NoName
 o_NoText_NoStep := S.o_NoText_NoStep
 o_NoText_NoSystem := S.o_NoText_NoSystem
 o_NoText_NoText := S.o_NoText_NoText
 o_NoText_NoWay := S.o_NoText_NoWay
 o_NoText_Thrice := S.o_NoText_Thrice
 o_NoText_TooGreat := S.o_NoText_TooGreat
 o_NoText_Twice := S.o_NoText_Twice
 t_NoText_ValueError := S.t_NoText_ValueError
 n_Thrice := S.n_Thrice
 n_TooGreat := S.n_TooGreat
 y_NoText := S.y_NoText
 y_Thrice := S.y_Thrice
 y_TooGreat := S.y_TooGreat
 q_NoText := S.q_NoText
 q_Thrice := S.q_Thrice
 q_TooGreat := S.q_TooGreat
 a_Thrice_equation := S.a_Thrice_equation
 a_Thrice_place := S.a_Thrice_place
 a_Thrice_side := S.a_Thrice_side
 a_Thrice_unknown := S.a_Thrice_unknown
 a_TooGreat_many := S.a_TooGreat_many
 a_TooGreat_most := S.a_TooGreat_most
theorem YjD {P' : Program} {w : World} {K : Frag} {mg : SOV} (T : Top K mg) (S : Seen K) (f : Addr) (fd : FuncData) (F : Fun K "law" "law" (top 39) f fd) (base : Heap) : FM P' w K mg base 8 f fd ["_law_script"] Yc4 := by
 have O := YfO T S
 have F_is_sign : Fn P' w K mg base "is_sign" 1 ["letter"] Zh := Ydc T O S.d_is_sign
 have F_is_unknown : Fn P' w K mg base "is_unknown" 1 ["letter"] Yu := YaD T O S.d_is_unknown
 have F_letters_of : Fn P' w K mg base "letters_of" 1 ["system"] YH := YaG T O S.d_letters_of
 have F_rising : Fn P' w K mg base "rising" 1 ["letters"] ZY := Yfk T O S.d_rising
 have F_spots_of : Fn P' w K mg base "spots_of" 1 ["system"] Zi := YcS T O S.d_spots_of
 have F__law_cell_at : Fn P' w K mg base "_law_cell_at" 1 ["_law_script", "_law_k"] Yq := Jp T O S.d__law_cell_at
 have F__law_any_text : Fn P' w K mg base "_law_any_text" 1 ["_law_script"] YG := V8 T O S.d__law_any_text
 have F__law_equations : Fn P' w K mg base "_law_equations" 1 ["_law_text"] YD := Vh T O S.d__law_equations
 have F__law_classes : FnH P' w K mg base "_law_classes" 1 ["_law_e"] YN := Jo T O S.d__law_classes
 have F__law_kinds : Fn P' w K mg base "_law_kinds" 1 ["_law_system"] YQ := YaO T O S.d__law_kinds
 have F_is_side : Fn P' w K mg base "is_side" 2 ["thing"] YU := Ydj T O S.d_is_side F_is_sign F_is_unknown
 have F_names_of : Fn P' w K mg base "names_of" 2 ["system"] Zk := Yck T O S.d_names_of F_is_unknown F_letters_of F_rising
 have F__law_system_text : Fn P' w K mg base "_law_system_text" 2 ["_law_script"] Yz := WW T O S.d__law_system_text F__law_cell_at
 have F__law_due : Fn P' w K mg base "_law_due" 2 ["_law_text"] Y5 := Ycd T O S.d__law_due F__law_equations
 have F_is_equation : Fn P' w K mg base "is_equation" 3 ["thing"] Ys := JP T O S.d_is_equation F_is_side
 have F_refuse_thrice : Fn1 P' w K mg base "refuse_thrice" 3 ["system"] YF := VL T O S.d_refuse_thrice F_is_unknown F_spots_of
 have F_refuse_above : Fn1 P' w K mg base "refuse_above" 3 ["many", "most"] Yw := Jt T O S.d_refuse_above
 have F_has_form : Fn P' w K mg base "has_form" 4 ["thing"] YA := YcI T O S.d_has_form F_is_equation
 have F_check : Fn1 P' w K mg base "check" 5 ["thing"] ZO := YgJ T O S.d_check F_has_form F_letters_of F_names_of F_refuse_above F_refuse_thrice
 have F_read_system : Fn1 P' w K mg base "read_system" 6 ["text"] Yv := Yaf T O S.d_read_system F_check F_has_form
 have F__law_found : Fn P' w K mg base "_law_found" 7 ["_law_text"] Yt := YaF T O S.d__law_found F__law_classes F_read_system
 exact YjW T O F__law_any_text F__law_cell_at F__law_due F__law_found F__law_kinds F__law_system_text f fd F
theorem walk {q : Program} {loose : List Str} {XP : (Str -> Option Value) -> Heap -> Prop} {YP : World -> Heap -> Prop} {d : DefRec} {K : Params -> Frag} (hdf : d.params.defaults = []) (hy : d.name = "law") (hY : ∀ (w : World) (h : Heap), YP w h -> (K w.params).In h) (S : ∀ w : World, Seen (K w.params)) (L : Law 63 Yc4) :
 PySem.W.WalkO q loose XP YP PySem.Challenge.rw_gapwords_k07_whole_texts_read.row.toRowW d [] (fun f vs => PySem.call f vs) :=
 Yhu (l := PySem.Challenge.rw_gapwords_k07_whole_texts_read) (k := 8) (x := "_law_script") (y := "law") (st := top 39) rfl (by decide) hdf hy ⟨rfl, by decide, by decide⟩ hY (fun _ _ _ _ _ _ s u => .of_eq rfl) (fun w => (S w).d_law) (fun w mg T f fd F base => YjD T (S w) f fd F base) L
end G
namespace Mi
open PySem PySem.Spec L2
open PyProof.Rows hiding St
def joinR (x : Str) (ps : List P) (st : YlA) : R P := match YmM ps with
 | some ys => if Yms x ys <= cap then .ok (.str (Txt.join x ys)) st else .bad
 | none => .bad
def Yoz (r : RS) : R P := match r with
 | .nx _ st' => .ok .non st'
 | .rt p st' => .ok p st'
 | _ => .bad
def YoG (r : R P) : R P := match r with
 | .ok p st2 => .ok p st2
 | _ => .bad
section
variable {ρ : Rho} {st : YlA}
@[simp] theorem Yh0 : Yoz (.nx ρ st) = .ok .non st := rfl
@[simp] theorem YiP {p : P} : Yoz (.rt p st) = .ok p st := rfl
@[simp] theorem YgF {p : P} : YoG (.ok p st) = .ok p st := rfl
@[simp] theorem x_eC {p : P} : eC p ρ st = .ok p st := rfl
@[simp] theorem Ybv {i : Nat} : Ylz i ρ st = match ρ[i]? with | some (some p) => .ok p st | _ => .bad := rfl
@[simp] theorem YhM {g : G2} {a b : ME} : YlB g a b ρ st = (a ρ st).bind fun p st1 => (b ρ st1).bind fun q st2 => ofO (g p q st2) := rfl
@[simp] theorem YhL {m : ME} : Yl3 m ρ st = (m ρ st).bind fun p st1 => match p with | .bl c => .ok c st1 | _ => .bad := rfl
@[simp] theorem Ygb {g g' : G2} {a b c : ME} : Ym6 g g' a b c ρ st = (a ρ st).bind fun p st1 => (b ρ st1).bind fun q st2 => (ofO (g p q st2)).bind fun z st3 => match z with
 | .bl k => if k = true then (c ρ st3).bind fun r st4 => ofO (g' q r st4) else .ok (.bl false) st3
 | _ => .bad := rfl
@[simp] theorem Yic {a b : MT} : Yno a b ρ st = (a ρ st).bind fun c st1 => if c = true then b ρ st1 else .ok false st1 := rfl
@[simp] theorem YjE {a b : MT} : Yn0 a b ρ st = (a ρ st).bind fun c st1 => if c = true then .ok true st1 else b ρ st1 := rfl
@[simp] theorem YiO {a : MT} : Ymu a ρ st = (a ρ st).bind fun c st1 => .ok (!c) st1 := rfl
@[simp] theorem Yjz {a b : ME} : YoP a b ρ st = (a ρ st).bind fun p st1 => match p with | .bl c => if c = true then b ρ st1 else .ok (.bl false) st1 | _ => .bad := rfl
@[simp] theorem YkR {a b : ME} : eOr a b ρ st = (a ρ st).bind fun p st1 => match p with | .bl c => if c = true then .ok (.bl true) st1 else b ρ st1 | _ => .bad := rfl
@[simp] theorem Yls {a : ME} : Yp6 a ρ st = (a ρ st).bind fun p st1 => match p with | .bl c => .ok (.bl (!c)) st1 | _ => .bad := rfl
@[simp] theorem Ylv {c : MT} {a b : ME} : eIf c a b ρ st = (c ρ st).bind fun k st1 => if k = true then a ρ st1 else b ρ st1 := rfl
@[simp] theorem Yjj {m : ME} : YmK m ρ st = (m ρ st).bind fun p st1 => match YnV p st1 with | some c => .ok c st1 | none => .bad := rfl
@[simp] theorem Yft {b : Bool} : YnV (.bl b) st = some b := rfl
@[simp] theorem YjI {i : Int} : YnV (.int i) st = some (i != 0) := rfl
@[simp] theorem Ykx : YnV .non st = some false := rfl
@[simp] theorem Yjv : YlD ρ st = .ok [] st := rfl
@[simp] theorem YhU {a : ME} {r : MA} : Yly a r ρ st = (a ρ st).bind fun p st1 => (r ρ st1).bind fun ps st2 => .ok (p :: ps) st2 := rfl
@[simp] theorem YkA {r : MA} : Ymt r ρ st = (r ρ st).bind fun ps st1 => if ps.length <= cap then .ok (.tup ps) st1 else .bad := rfl
@[simp] theorem YkN {r : MA} : lMk r ρ st = (r ρ st).bind fun ps st1 => if ps.length <= cap then .ok ps st1 else .bad := rfl
@[simp] theorem YjK {r : MA} : YmX r ρ st = (r ρ st).bind fun ps st1 => .ok (.ref st1.length) (st1 ++ [.lst ps]) := rfl
@[simp] theorem YhS {r : MA} : Yot r ρ st = (r ρ st).bind fun ps st1 => .ok (.tup ps) st1 := rfl
@[simp] theorem YfG : Yof ρ st = .ok (.ref st.length) (st ++ [.dct []]) := rfl
@[simp] theorem x_eB {g : GC} {r : MA} : eB g r ρ st = (r ρ st).bind fun ps st1 => ofO (g ps st1) := rfl
@[simp] theorem YjC {a : ME} : Yo0 a ρ st = (a ρ st).bind fun p st1 => match p with | .int i => .ok (.int (-i)) st1 | _ => .bad := rfl
@[simp] theorem Yik {n : Nat} {mf : MF} {r : MA} : YlQ n mf r ρ st = (r ρ st).bind fun ps st1 => if ps.length = n then YoG (mf ps st1) else .bad := by unfold YlQ YoG; rfl
@[simp] theorem YjB {T : String} {a : ME} : YnD T a ρ st = (a ρ st).bind fun p st1 => match tyP p st1 with | some t => .ok (.bl (Ynk t T)) st1 | none => .bad := rfl
@[simp] theorem x_eM {ty : P -> YlA -> Bool} {g : GM} {a : ME} {r : MA} : eM ty g a r ρ st = (a ρ st).bind fun p st1 => if ty p st1 = true then (r ρ st1).bind fun ps st2 => ofO (g p ps st2) else .bad := rfl
@[simp] theorem Yk0 {a : ME} {l h : MO} : eSl a l h ρ st = (a ρ st).bind fun p st1 => (l ρ st1).bind fun l st2 => (h ρ st2).bind fun u st3 => ofO (slP p l u st3) := rfl
@[simp] theorem Yit : Yna ρ st = .ok none st := rfl
@[simp] theorem Yih {a : ME} : Ymx a ρ st = (a ρ st).bind fun p st1 => match p with | .int i => .ok (some i) st1 | _ => .bad := rfl
@[simp] theorem Yll {a : ME} : Ypv a ρ st = (a ρ st).bind fun p st1 => match p with | .tup xs => .ok (.tup xs.reverse) st1 | _ => .bad := rfl
@[simp] theorem Yjo : Ymk ρ st = .nx ρ st := rfl
@[simp] theorem YfL {a b : MS} : YlN a b ρ st = (a ρ st).seq b := rfl
@[simp] theorem YjZ {a : ME} : YlZ a ρ st = RS.ofE ρ (a ρ st) fun p st1 => .rt p st1 := rfl
@[simp] theorem Ylp : Ypu ρ st = .rt .non st := rfl
@[simp] theorem Yil {a : ME} : YmW a ρ st = RS.ofE ρ (a ρ st) fun _ st1 => .nx ρ st1 := rfl
@[simp] theorem Yj4 {i : Nat} {a : ME} : Yma i a ρ st = RS.ofE ρ (a ρ st) fun p st1 => .nx (ρ.set i (some p)) st1 := rfl
@[simp] theorem YiS {i : Nat} {a : MA} : Yor i a ρ st = RS.ofE ρ (a ρ st) fun ps st1 => .nx (ρ.set i (some (.ref st1.length))) (st1 ++ [.lst ps]) := rfl
@[simp] theorem Yi4 {c : MT} {a b : MS} : sIf c a b ρ st = RS.ofE ρ (c ρ st) fun k st1 => if k = true then a ρ st1 else b ρ st1 := rfl
@[simp] theorem Ylb : Ypi ρ st = .bk ρ st := rfl
@[simp] theorem Ylo : Ypl ρ st = .ct ρ st := rfl
@[simp] theorem Yjk {i : MI} {g : MG} {m : MS} : YmZ i g m ρ st = RS.ofE ρ (i ρ st) fun src st1 => Ymi src g m src.n 0 ρ st1 := rfl
@[simp] theorem Ylr {a : ME} {g : MG} : Yp0 a g ρ st = RS.ofE ρ (a ρ st) fun p st1 => match g p ρ st1 with | some ρ' => .nx ρ' st1 | none => .bad := rfl
@[simp] theorem Yjg {o i e : ME} : YoB o i e ρ st = RS.ofE ρ (e ρ st) fun v st1 => RS.ofE ρ (o ρ st1) fun o st2 => RS.ofE ρ (i ρ st2) fun i st3 => match YnB o i v st3 with | some st4 => .nx ρ st4 | none => .bad := rfl
@[simp] theorem Ylc {i : Nat} {p : P} : YlC i p ρ st = some (ρ.set i (some p)) := rfl
@[simp] theorem Ylm : YmG [] ρ st = some ρ := rfl
@[simp] theorem Yld {g : MG} {r : MGs} {p : P} {ps : List P} : YlS g r (p :: ps) ρ st = (g p ρ st).bind fun ρ1 => r ps ρ1 st := rfl
@[simp] theorem Yln {n : Nat} {r : MGs} {p : P} : Ymv n r p ρ st = match Ymo p st with | some xs => if xs.length = n then r xs ρ st else none | none => none := rfl
@[simp] theorem YiV {xs : List P} : Ymo (.tup xs) st = some xs := rfl
@[simp] theorem YjN {a : ME} : YmQ a ρ st = (a ρ st).bind fun p st1 => match srcOf p st1 with | some s => .ok s st1 | none => .bad := rfl
@[simp] theorem Yct {xs : List P} : srcOf (.tup xs) st = some (Ynr xs) := rfl
@[simp] theorem YiX {z : Str} : srcOf (.str z) st = some (Ynj z) := rfl
def YnT (ps : List P) (st : YlA) : R Src := match ps with
 | [.int j] => if small62 j = true then .ok (YmF 0 j.toNat) st else .bad
 | [.int i, .int j] => if small62 i = true /\ small62 j = true then .ok (YmF i (j - i).toNat) st else .bad
 | _ => .bad
theorem Yfg {r : MA} : YmC r ρ st = (r ρ st).bind fun ps st1 => YnT ps st1 := rfl
@[simp] theorem YgO {r : MA} : YmC r ρ st = (r ρ st).bind fun ps st1 => YnT ps st1 := by rw [Yfg]
theorem YhE {i : Int} (h0 : -1000000000 <= i) (h1 : i <= 1000000000) : small62 i = true := by
 unfold small62
 rw [ZAR (by omega), ZAR (by omega)]
 rfl
theorem YhA {j : Int} (h0 : -1000000000 <= j) (h1 : j <= 1000000000) : YnT [.int j] st = .ok (YmF 0 j.toNat) st := by
 unfold YnT
 show 143
 rw [ZAE (YhE h0 h1)]
@[simp] theorem Yip {i : MI} {n : Nat} {fr : List Nat} {g : MG} {nt : MT} {me : ME} : Ymp i n fr g nt me ρ st = (i ρ st).bind fun src st1 => YlV src g nt me (rho0 n fr ρ) src.n 0 st1 [] := rfl
@[simp] theorem Ylk : Ymd ρ st = .ok true st := rfl
@[simp] theorem YgQ {o : ME} {r : MA} : Ynh o r ρ st = (o ρ st).bind fun p st1 => match p with
 | .str x => (r ρ st1).bind fun ps st2 => joinR x ps st2
 | _ => .bad := rfl
@[simp] theorem YiY {n : Nat} {m : MS} {ps : List P} : fnM n m ps st = Yoz (m (ps.map some ++ List.replicate (n - ps.length) none) st) := by unfold fnM Yoz; rfl
@[simp] theorem Ykk {n : Nat} {fr : List Nat} : rho0 n fr ρ = List.replicate n none ++ fr.map fun k => (ρ[k]?).join := rfl
@[simp] theorem YeQ {i j : Int} : Yl6 (.int i) (.int j) st = some (.int (i + j), st) := rfl
@[simp] theorem YkC {i j : Int} : YpP (.int i) (.int j) st = some (.int (i - j), st) := rfl
@[simp] theorem YgU {i j : Int} : ltP (.int i) (.int j) st = some (.bl (decide (i < j)), st) := rfl
@[simp] theorem Yhz {i j : Int} : leP (.int i) (.int j) st = some (.bl (decide (i <= j)), st) := rfl
@[simp] theorem YfY {i j : Int} : gtP (.int i) (.int j) st = some (.bl (decide (j < i)), st) := rfl
@[simp] theorem YkX {i j : Int} : geP (.int i) (.int j) st = some (.bl (decide (j <= i)), st) := rfl
@[simp] theorem YkF {x y : Str} : ltP (.str x) (.str y) st = some (.bl (Ynp x y), st) := rfl
@[simp] theorem Yge {x y : Str} : leP (.str x) (.str y) st = some (.bl (!Ynp y x), st) := rfl
theorem Yk6 {i j : Int} (h : 0 < j) : YmB (.int i) (.int j) st = some (.int (i % j), st) := by simp [YmB, h, okP]
theorem YjO {i j : Int} (h : 0 < j) (h2 : j < 1073741824) : Ym1 (.int i) (.int j) st = some (.int (i / j), st) := by simp [Ym1, h, h2, okP]
theorem YkT {i j : Int} (h : -(2 ^ 64) < j) (h2 : j < 2 ^ 64) : Ypg (.int i) (.int j) st = some (.int (i * j), st) := by
 have : small64 j = true := by unfold small64; rw [decide_eq_true h, decide_eq_true h2]; rfl
 simp [Ypg, this, okP]
theorem Ye6 {x y : Str} (h : x.length + y.length <= 1000000) : Yl6 (.str x) (.str y) st = some (.str (x ++ y), st) := by
 have : x.length + y.length <= cap := h
 simp [Yl6, this, okP]
theorem Yfj {x : Str} (h : x.length <= 1000000) : Yl5 [.str x] st = some (.int x.length, st) := by
 have : x.length <= cap := h
 simp [Yl5, this, okP]
@[simp] theorem YeI {xs : List P} : Yl5 [.tup xs] st = some (.int xs.length, st) := rfl
theorem ZB {k : Nat} {xs : List P} (h : st[k]? = some (.lst xs)) : Yl5 [.ref k] st = some (.int xs.length, st) := by simp [Yl5, h, okP]
theorem YfK {k : Nat} {xs : List P} (h : st[k]? = some (.ro xs)) : Yl5 [.ref k] st = some (.int xs.length, st) := by simp [Yl5, h, okP]
end
theorem JJ {src : Src} {g : MG} {m : MS} (N : Nat) (I : Nat -> Rho -> YlA -> Prop) (O : RS -> Prop)
 (step : ∀ i ρ st, i < N -> I i ρ st -> ∃ p ρ1, src.nx i st = some (some p) /\ g p ρ st = some ρ1 /\ match m ρ1 st with
  | .nx ρ' st' => I (i + 1) ρ' st'
  | .ct ρ' st' => I (i + 1) ρ' st'
  | .bk ρ' st' => O (.nx ρ' st')
  | r => O r)
 (stop : ∀ ρ st, I N ρ st -> src.nx N st = some none /\ O (.nx ρ st)) :
 ∀ (n i : Nat) ρ st, n + i = N -> I i ρ st -> O (Ymi src g m n i ρ st) := by
 intro n
 induction n with
 | zero =>
  intro i ρ st e h
  have e' : i = N := by omega
  subst e'
  obtain ⟨h1, h2⟩ := stop ρ st h
  simp only [Ymi, h1]
  exact h2
 | succ n ih =>
  intro i ρ st e h
  obtain ⟨p, ρ1, h1, h2, h3⟩ := step i ρ st (by omega) h
  simp only [Ymi, h1, h2]
  revert h3
  cases q : m ρ1 st with
  | nx ρ' st' => intro h3; exact ih (i + 1) ρ' st' (by omega) h3
  | ct ρ' st' => intro h3; exact ih (i + 1) ρ' st' (by omega) h3
  | bk ρ' st' => intro h3; exact h3
  | rt p st' => intro h3; exact h3
  | exc k ρ' st' => intro h3; exact h3
  | bad => intro h3; exact h3
theorem Yhq {src : Src} {g : MG} {m : MS} {N : Nat} (I : Nat -> Rho -> YlA -> Prop) {ρ : Rho} {st : YlA} (h0 : I 0 ρ st)
 (step : ∀ i ρ st, i < N -> I i ρ st -> ∃ p ρ1, src.nx i st = some (some p) /\ g p ρ st = some ρ1 /\ ∃ ρ' st', m ρ1 st = .nx ρ' st' /\ I (i + 1) ρ' st')
 (stop : ∀ ρ st, I N ρ st -> src.nx N st = some none) : ∃ ρ' st', Ymi src g m N 0 ρ st = .nx ρ' st' /\ I N ρ' st' := by
 have := JJ (src := src) (g := g) (m := m) N I (fun r => ∃ ρ' st', r = .nx ρ' st' /\ I N ρ' st') (fun i ρ st hi h => by
  obtain ⟨p, ρ1, h1, h2, ρ', st', h3, h4⟩ := step i ρ st hi h
  refine ⟨p, ρ1, h1, h2, ?_⟩
  rw [h3]
  exact h4) (fun ρ st h => ⟨stop ρ st h, ρ, st, rfl, h⟩) N 0 ρ st (by omega) h0
 exact this
theorem VJ {src : Src} {g : MG} {nt : MT} {me : ME} {ρ0 : Rho} {N : Nat} (I : Nat -> YlA -> List P -> Prop) {st : YlA} (h0 : I 0 st [])
 (step : ∀ i st acc, i < N -> I i st acc -> ∃ p ρ1, src.nx i st = some (some p) /\ g p ρ0 st = some ρ1 /\
  ((∃ st1, nt ρ1 st = .ok false st1 /\ I (i + 1) st1 acc) \/ ∃ st1 q st2, nt ρ1 st = .ok true st1 /\ me ρ1 st1 = .ok q st2 /\ acc.length < cap /\ I (i + 1) st2 (acc ++ [q])))
 (stop : ∀ st acc, I N st acc -> src.nx N st = some none) : ∃ acc st', YlV src g nt me ρ0 N 0 st [] = .ok acc st' /\ I N st' acc := by
 have key : ∀ (n i : Nat) st acc, n + i = N -> I i st acc -> ∃ acc' st', YlV src g nt me ρ0 n i st acc = .ok acc' st' /\ I N st' acc' := by
  intro n
  induction n with
  | zero =>
   intro i st acc e h
   have e' : i = N := by omega
   subst e'
   exact ⟨acc, st, by simp only [YlV, stop st acc h], h⟩
  | succ n ih =>
   intro i st acc e h
   obtain ⟨p, ρ1, h1, h2, h3⟩ := step i st acc (by omega) h
   rcases h3 with ⟨st1, h3, h4⟩ | ⟨st1, q, st2, h3, h4, h5, h6⟩
   ·obtain ⟨acc', st', e1, e2⟩ := ih (i + 1) st1 acc (by omega) h4
    exact ⟨acc', st', by simp only [YlV, h1, h2, h3, e1], e2⟩
   ·obtain ⟨acc', st', e1, e2⟩ := ih (i + 1) st2 (acc ++ [q]) (by omega) h6
    exact ⟨acc', st', by simp only [YlV, h1, h2, h3, h4, if_pos h5, e1], e2⟩
 exact key N 0 st [] (by omega) h0
@[simp] theorem JM {xs : List P} {i : Nat} {st : YlA} : (Ynr xs).nx i st = some xs[i]? := rfl
@[simp] theorem YbN {xs : List P} : (Ynr xs).n = xs.length := rfl
@[simp] theorem Ygw {z : Str} : (Ynj z).n = z.cps.size := rfl
theorem Yd9 {z : Str} {i : Nat} {st : YlA} (h : i <= z.cps.size) : (Ynj z).nx i st = some ((z.cps[i]?).map Yn4) := by
 unfold Ynj
 show 143
 by_cases hi : i < z.cps.size
 ·rw [ZAE hi]
 ·have : i = z.cps.size := by omega
  subst this
  simp
@[simp] theorem Yjp {lo : Int} {n : Nat} : (YmF lo n).n = n := rfl
@[simp] theorem Zw {lo : Int} {n i : Nat} {st : YlA} : (YmF lo n).nx i st = some (if i < n then some (.int (lo + i)) else none) := rfl
@[simp] theorem Yjw {k n : Nat} : (YmN k n).n = n := rfl
theorem Yb5 {k n i : Nat} {st : YlA} {ys : List P} (h : listAt st k = some ys) : (YmN k n).nx i st = some ys[i]? := by
 unfold YmN
 unfold listAt at h
 show 143
 split at h <;> first | (cases h; rename_i e; simp only [e]) | cases h
theorem Z2 {src : Src} {g : MG} {nt : MT} {me : ME} {ρ0 : Rho} {st : YlA} {xs : List P} (t : P -> Bool) (f : P -> P) (hn : src.n = xs.length) (hx : ∀ i, i <= xs.length -> src.nx i st = some xs[i]?) (hc : xs.length <= 1000000)
 (h : ∀ p ∈ xs, ∃ ρ1, g p ρ0 st = some ρ1 /\ nt ρ1 st = .ok (t p) st /\ (t p = true -> me ρ1 st = .ok (f p) st)) : YlV src g nt me ρ0 src.n 0 st [] = .ok ((xs.filter t).map f) st := by
 obtain ⟨acc, st', e, h1, h2, _⟩ := VJ (src := src) (g := g) (nt := nt) (me := me) (ρ0 := ρ0) (N := xs.length) (fun i s acc => s = st /\ acc = ((xs.take i).filter t).map f /\ acc.length <= i) (st := st) ⟨rfl, by simp, by simp⟩ (fun i s acc hi ⟨e1, e2, e3⟩ => by
  subst e1
  obtain ⟨ρ1, g1, g2, g3⟩ := h xs[i] (ZAs hi)
  refine ⟨xs[i], ρ1, by rw [hx i (by omega), ZAJ hi], g1, ?_⟩
  have et : xs.take (i + 1) = xs.take i ++ [xs[i]] := by rw [ZA9, ZAJ hi]; rfl
  cases q : t xs[i] with
  | false => exact .inl ⟨s, by rw [g2, q], rfl, by rw [et, ZBv, e2, ZCR (by rw [q]; exact ZAU), ZB9, ZAZ], by omega⟩
  | true => exact .inr ⟨s, f xs[i], s, by rw [g2, q], g3 q, by show _ < 1000000; omega, rfl, by rw [et, ZBv, e2, ZCS q, ZB9, ZAf, ZAV, ZB6], by rw [ZAD, ZAg]; omega⟩) (fun s acc ⟨e1, _⟩ => by subst e1; rw [hx _ (ZAI _), ZBB (ZAI _)])
 rw [hn, e, h1, h2, ZBi]
def sT (l : List Nat) : Str := ⟨l.toArray⟩
def tx (l : List Nat) : P := .str (sT l)
@[simp] theorem Yl {l : List Nat} : (sT l).length = l.length := by simp [sT, Str.length]
@[simp] theorem W8 {l : List Nat} : (sT l).cps.toList = l := rfl
@[simp] theorem Yd3 {l : List Nat} : (sT l).cps.size = l.length := by simp [sT]
@[simp] theorem Ygz {l : List Nat} {i : Nat} : (sT l).cps[i]? = l[i]? := by simp [sT]
theorem W9 {a b : List Nat} : sT a ++ sT b = sT (a ++ b) := by
 show (⟨a.toArray ++ b.toArray⟩ : Str) = _
 simp [sT]
theorem sT_inj {a b : List Nat} : sT a = sT b ↔ a = b := by
 constructor
 ·intro h
  have := ZAk (fun s : Str => s.cps.toList) h
  exact this
 ·rintro rfl; rfl
@[simp] theorem Z1 {a b : List Nat} {st : YlA} (h : a.length + b.length <= 1000000) : Yl6 (tx a) (tx b) st = some (tx (a ++ b), st) := by
 unfold tx
 rw [Ye6 (by simpa using h), W9]
theorem Ycu {a : List Nat} {st : YlA} (h : a.length <= 1000000) : Yl5 [tx a] st = some (.int a.length, st) := by
 unfold tx
 rw [Yfj (by simpa using h)]
 simp
theorem YfN {n : Nat} {i : Int} (h0 : 0 <= i) (h1 : i < n) : ixN n i = some i.toNat := by unfold ixN; rw [if_pos h0, if_pos h1]
theorem Yb9 {α : Type} {xs : List α} {i : Int} (h0 : 0 <= i) (h1 : i < xs.length) : atI xs i = xs[i.toNat]? := by unfold atI; rw [YfN h0 h1]; rfl
theorem JB {l : List Nat} {i : Int} {st : YlA} (h0 : 0 <= i) (h1 : i < l.length) (hc : l.length <= 1000000) : ∃ c, l[i.toNat]? = some c /\ ixP (tx l) (.int i) st = some (tx [c], st) := by
 have hi : i.toNat < l.length := by omega
 refine ⟨l[i.toNat], by simp [hi], ?_⟩
 have e : (sT l).length <= cap := by rw [Yl]; exact hc
 show (if (sT l).length <= cap then (atI (sT l).cps.toList i).map fun c => (P.str ⟨#[c]⟩, st) else none) = _
 rw [ZAE e, W8, Yb9 h0 h1, ZAJ hi]
 rfl
theorem Vm {xs : List P} {i : Int} {st : YlA} {p : P} (h0 : 0 <= i) (h : xs[i.toNat]? = some p) : ixP (.tup xs) (.int i) st = some (p, st) := by
 have hi : i.toNat < xs.length := (ZAL.mp h).1
 show (atI xs i).map (fun p => (p, st)) = _
 rw [Yb9 h0 (by omega), h]
 rfl
theorem WH {k : Nat} {xs : List P} {i : Int} {st : YlA} {p : P} (hk : st[k]? = some (.lst xs)) (h0 : 0 <= i) (h : xs[i.toNat]? = some p) : ixP (.ref k) (.int i) st = some (p, st) := by
 have hi : i.toNat < xs.length := (ZAL.mp h).1
 unfold ixP
 simp only [hk]
 show (atI xs i).map (fun p => (p, st)) = _
 rw [Yb9 h0 (by omega), h]
 rfl
theorem Yid {k : Nat} {xs : List P} {i : Int} {st : YlA} {p : P} (hk : st[k]? = some (.ro xs)) (h0 : 0 <= i) (h : xs[i.toNat]? = some p) : ixP (.ref k) (.int i) st = some (p, st) := by
 have hi : i.toNat < xs.length := (ZAL.mp h).1
 unfold ixP
 simp only [hk]
 show (atI xs i).map (fun p => (p, st)) = _
 rw [Yb9 h0 (by omega), h]
 rfl
@[simp] theorem Yhc {i j : Int} {st : YlA} : eqP (.int i) (.int j) st = some (.bl (i == j), st) := rfl
@[simp] theorem YcM {x y : Str} {st : YlA} : eqP (.str x) (.str y) st = some (.bl (x == y), st) := rfl
@[simp] theorem YkS {st : YlA} : eqP .non .non st = some (.bl true, st) := rfl
@[simp] theorem Ygs {i j : Int} {st : YlA} : neP (.int i) (.int j) st = some (.bl (!(i == j)), st) := rfl
@[simp] theorem Yli {x y : Str} {st : YlA} : neP (.str x) (.str y) st = some (.bl (!(x == y)), st) := rfl
theorem YjU {a b : List Nat} : (sT a == sT b) = decide (a = b) := by
 rw [Bool.eq_iff_iff]
 simp [sT_inj]
def Ynf (c : Nat) : Bool := decide (97 <= c) && decide (c <= 122)
def isUp (c : Nat) : Bool := decide (65 <= c) && decide (c <= 90)
def YlJ (c : Nat) : Bool := Ynf c || isUp c
theorem Ybr {c : Nat} : Ynf c = true ↔ 97 <= c /\ c <= 122 := by unfold Ynf; simp
theorem JY {c : Nat} : isUp c = true ↔ 65 <= c /\ c <= 90 := by unfold isUp; simp
theorem isLet_iff {c : Nat} : YlJ c = true ↔ (97 <= c /\ c <= 122) \/ (65 <= c /\ c <= 90) := by unfold YlJ; rw [Bool.or_eq_true, Ybr, JY]
theorem Yg7 {c : Nat} (h : YlJ c = true) : c < 128 := by rw [isLet_iff] at h; omega
theorem Yew : ∀ c, c < 128 -> Unicode.isUpper c = isUp c := by decide +kernel
theorem Yfb : ∀ c, c < 128 -> Unicode.isLower c = Ynf c := by decide +kernel
theorem Yfc : ∀ c, c < 128 -> Unicode.isTitle c = false := by decide +kernel
theorem YcE {c : Nat} (h : c < 128) : Txt.isupper (sT [c]) = isUp c := by
 unfold Txt.isupper
 have : (sT [c]).cps = #[c] := rfl
 rw [this]
 simp only [List.any_toArray, List.any_cons, List.any_nil, Bool.or_false, Yew c h, Yfb c h, Yfc c h]
 cases q : isUp c with
 | false => rfl
 | true =>
  have : Ynf c = false := by
   rw [JY] at q
   rw [ZCK, Ne, Ybr]
   omega
  rw [this]; rfl
theorem Yeo {c : Nat} {st : YlA} (h : c < 128) : Ynz (tx [c]) [] st = some (.bl (isUp c), st) := by
 show okP (.bl (Txt.isupper (sT [c]))) st = _
 rw [YcE h]
 rfl
@[simp] theorem Yiz {l : List Nat} {st : YlA} : isStr (tx l) st = true := rfl
theorem VG {a b : Nat} : Ynp (sT [a]) (sT [b]) = decide (a < b) := by
 unfold Ynp
 show decide ([a] < [b]) = decide (a < b)
 rw [Bool.eq_iff_iff, decide_eq_true_iff, decide_eq_true_iff, List.cons_lt_cons_iff]
 constructor
 ·rintro (h | ⟨_, h⟩)
  ·exact h
  ·exact absurd h (List.not_lt_nil _)
 ·exact .inl
theorem Jj (ls : List (List Nat)) : Txt.join (sT []) (ls.map sT) = sT ls.flatten := by
 unfold Txt.join
 rw [ZCe]
 induction ls with
 | nil => rfl
 | cons a r ih =>
  cases r with
  | nil => simp [Str.join]
  | cons b r =>
   show sT a ++ sT [] ++ Str.join (sT []) ((b :: r).map sT) = _
   rw [ih, W9, W9]
   simp
theorem WQ : ∀ (ls : List (List Nat)), YmM (ls.map tx) = some (ls.map sT)
 | [] => rfl
 | a :: r => by
  show (YmM (r.map tx)).map (sT a :: ·) = _
  rw [WQ r]
  rfl
theorem Je (ls : List (List Nat)) : Yms (sT []) (ls.map sT) = ls.flatten.length := by
 unfold Yms
 simp only [Yl, List.length_nil, Nat.mul_zero, Nat.add_zero, List.map_map, List.length_flatten]
 rfl
def YlK (st st' : YlA) : Prop := ∃ e, st' = st ++ e
theorem YlK.refl {st : YlA} : YlK st st := ⟨[], by simp⟩
theorem YlK.trans {a b c : YlA} (h : YlK a b) (h2 : YlK b c) : YlK a c := by
 obtain ⟨e, rfl⟩ := h
 obtain ⟨f, rfl⟩ := h2
 exact ⟨e ++ f, by simp⟩
theorem YlK.one {st : YlA} {o : O} : YlK st (st ++ [o]) := ⟨_, rfl⟩
theorem YlK.get {a b : YlA} (h : YlK a b) {k : Nat} {o : O} (e : a[k]? = some o) : b[k]? = some o := by
 obtain ⟨f, rfl⟩ := h
 rw [ZAl (ZAL.mp e).1]
 exact e
theorem YlK.listAt {a b : YlA} (h : YlK a b) {k : Nat} {xs : List P} (e : listAt a k = some xs) : listAt b k = some xs := by
 unfold Mi.listAt at *
 cases q : a[k]? with
 | none => show 191
 | some o => rw [q] at e; rw [h.get q]; exact e
theorem Yn {st : YlA} {o : O} : (st ++ [o])[st.length]? = some o := by simp
def tkey (l : List Nat) : Key := .inr (sT l)
theorem Yca {l : List Nat} : Yns (tx l) = some (tkey l) := rfl
theorem YaB {α β : Type} {f : α -> β} {R : α -> Prop} : ∀ {l : List β}, (∀ q ∈ l, ∃ c, q = f c /\ R c) -> ∃ ls : List α, l = ls.map f /\ ∀ c ∈ ls, R c
 | [], _ => ⟨[], rfl, by intro c hc; cases hc⟩
 | q :: r, h => by
  obtain ⟨c, e, hc⟩ := h q (ZAc ..)
  obtain ⟨ls, e2, h2⟩ := YaB (l := r) fun x hx => h x (ZAW _ hx)
  refine ⟨c :: ls, by rw [e, e2]; rfl, fun d hd => ?_⟩
  rcases ZAT.mp hd with rfl | hd
  ·exact hc
  ·exact h2 d hd
theorem VD (ls : List Nat) : (ls.map fun c => [c]).flatten = ls := by induction ls <;> simp_all
theorem JU (ls : List Nat) : YmM (ls.map fun c => tx [c]) = some ((ls.map fun c => [c]).map sT) := by
 have := WQ (ls.map fun c => [c])
 rw [ZAy] at this
 exact this
theorem ZJ : ("" : Str) = sT [] := by decide +kernel
theorem Jd {ls : List (List Nat)} {st : YlA} (h : ls.flatten.length <= 1000000) : joinR (sT []) (ls.map tx) st = .ok (tx ls.flatten) st := by
 unfold joinR
 rw [WQ]
 show 143
 rw [Je, ZAE (show _ <= cap from h), Jj]
 rfl
theorem Yds {ls : List Nat} {st : YlA} (h : ls.length <= 1000000) : joinR (sT []) (ls.map fun c => tx [c]) st = .ok (tx ls) st := by
 unfold joinR
 rw [JU]
 show 143
 rw [Je, VD, ZAE (show _ <= cap from h), Jj, VD]
 rfl
theorem YjV {n : Nat} : (n <= cap) = (n <= 1000000) := rfl
theorem tkey_inj {a b : List Nat} : tkey a = tkey b ↔ a = b := by
 unfold tkey
 constructor
 ·intro h; exact sT_inj.mp (Sum.inr.inj h)
 ·rintro rfl; rfl
theorem Yb3 {kvs : List (Key × P)} {k k' : Key} {v : P} : ((kvs.map fun kv => if kv.1 = k then (kv.1, v) else kv).find? fun kv => decide (kv.1 = k')).map (·.2) = if k = k' then (if (kvs.any fun kv => decide (kv.1 = k)) = true then some v else none) else (kvs.find? fun kv => decide (kv.1 = k')).map (·.2) := by
 induction kvs with
 | nil => simp
 | cons a r ih =>
  rw [ZAV, List.find?_cons, List.find?_cons, ZBT]
  by_cases h1 : a.1 = k
  ·by_cases h2 : k = k'
   ·subst h2; simp [h1]
   ·have h3 : ¬ a.1 = k' := by rw [h1]; exact h2
    simp only [h1, if_true, h2, decide_false, if_false] at ih ⊢
    rw [ih]
  ·by_cases h2 : a.1 = k'
   ·have h3 : ¬ k = k' := fun e => h1 (h2.trans e.symm)
    rw [ZAF h1, ZAR h2, ZAF h3]
   ·simp only [h1, if_false, h2, decide_false, Bool.false_or]
    exact ih
theorem YgP {kvs : List (Key × P)} {k k' : Key} {v : P} : Ymq (YnC kvs k v) k' = if k = k' then some v else Ymq kvs k' := by
 unfold YnC Ymq
 by_cases h : (kvs.any fun kv => decide (kv.1 = k)) = true
 ·rw [ZAE h, Yb3, ZAE h]
 ·rw [ZAF h, List.find?_append]
  by_cases h2 : k = k'
  ·subst h2
   have : kvs.find? (fun kv => decide (kv.1 = k)) = none := by
    rw [List.find?_eq_none]
    intro x hx hd
    exact h (List.any_eq_true.mpr ⟨x, hx, hd⟩)
   rw [this, ZAE rfl]
   simp
  ·rw [ZAF h2]
   simp [h2]
theorem valP_none {kvs : List (Key × P)} {k : Key} : Ymq kvs k = none ↔ (kvs.any fun kv => decide (kv.1 = k)) = false := by
 unfold Ymq
 rw [Option.map_eq_none_iff, List.find?_eq_none, List.any_eq_false]
theorem YiL {kvs : List (Key × P)} {k : Key} {v : P} : (YnC kvs k v).length = if Ymq kvs k = none then kvs.length + 1 else kvs.length := by
 unfold YnC
 by_cases h : (kvs.any fun kv => decide (kv.1 = k)) = true
 ·rw [ZAE h, ZAF (fun e => by rw [valP_none.mp e] at h; cases h), ZAH]
 ·rw [ZAF h, ZAE (valP_none.mpr (ZCK.mpr h)), ZAD]; rfl
theorem YkV {st : YlA} {ρ : Rho} {d k x : ME} {n : Nat} {kvs : List (Key × P)} {l : List Nat} {z : P} (h1 : d ρ st = .ok (.ref n) st) (h2 : k ρ st = .ok (tx l) st) (h3 : x ρ st = .ok z st) (h : st[n]? = some (.dct kvs)) : YoI d k x ρ st = .ok ((Ymq kvs (tkey l)).getD z) st := by
 unfold YoI
 simp only [h1, h2, h3, R.bind_ok, h, Yca]
theorem Yeu {st : YlA} {n : Nat} {kvs : List (Key × P)} {l : List Nat} {v : P} (h : st[n]? = some (.dct kvs)) (hl : kvs.length < 1000000) : YnB (.ref n) (tx l) v st = some (st.set n (.dct (YnC kvs (tkey l) v))) := by
 unfold YnB
 have : kvs.length < cap := hl
 simp only [h, Yca, if_pos this]
theorem YfE {st : YlA} {n : Nat} {xs : List P} {i : Int} {v : P} (h : st[n]? = some (.lst xs)) (h0 : 0 <= i) (h1 : i < xs.length) : YnB (.ref n) (.int i) v st = some (st.set n (.lst (xs.set i.toNat v))) := by
 unfold YnB
 simp only [h, YfN h0 h1]
 rfl
theorem YcQ {st : YlA} {n : Nat} {xs : List P} {v : P} (h : st[n]? = some (.lst xs)) (hl : xs.length < 1000000) : YmH (.ref n) [v] st = some (.non, st.set n (.lst (xs ++ [v]))) := by
 unfold YmH Yl7
 have : xs.length < cap := hl
 simp only [h, if_pos this]
theorem Vz {st : YlA} {n : Nat} {xs : List P} (h : st[n]? = some (.lst xs)) : Ynd (.ref n) st = true := by
 unfold Ynd
 simp only [h]
theorem ZE {st : YlA} {n : Nat} {xs : List P} (h : listAt st n = some xs) : srcOf (.ref n) st = some (YmN n xs.length) := by
 unfold listAt at h
 unfold srcOf
 show 143
 split at h <;> first | (cases h; rename_i e; simp only [e]) | cases h
theorem YE {st : YlA} {k : Nat} {xs : List P} (h : st[k]? = some (.lst xs)) : listAt st k = some xs := by unfold listAt; rw [h]
theorem Ye2 {st : YlA} {k : Nat} {xs : List P} (h : listAt st k = some xs) : Ymo (.ref k) st = some xs := by
 unfold listAt at h
 unfold Ymo
 show 143
 split at h <;> first | (cases h; rename_i e; simp only [e]) | cases h
theorem YhQ {α : Type} {f : α -> P} {xs : List α} {a b : Nat} (hab : a <= b) : Ynv (xs.map f) (some (a : Int)) (some (b : Int)) = ((xs.drop a).take (b - a)).map f := by
 unfold Ynv
 rw [HT.sIx_nat, HT.sIx_nat, ZAH, <- List.map_drop, <- List.map_take]
 congr 1
 by_cases h : a <= xs.length
 ·rw [ZBa h]
  by_cases h2 : b <= xs.length
  ·rw [ZBa h2]
  ·rw [ZBK (by omega), ZAo (by rw [ZAr]; omega), ZAo (by rw [ZAr]; omega)]
 ·rw [ZBK (by omega : xs.length <= a), ZBK (by omega : xs.length <= b), ZAv (ZAI _), ZAv (by omega : xs.length <= a)]
  simp
theorem Yi1 {k : Nat} {ns : List Int} {a b : Nat} {st : YlA} (h : st[k]? = some (.ro (ns.map P.int))) (hab : a <= b) (hl : ns.length <= 1000000) : slP (.ref k) (some (a : Int)) (some (b : Int)) st = some (.ref st.length, st ++ [.lst (((ns.drop a).take (b - a)).map P.int)]) := by
 unfold slP
 simp only [h]
 rw [YhQ hab]
 unfold YmO
 rw [ZAE]
 show _ <= 1000000
 rw [ZAH, ZAm, ZAr]
 omega
section
variable {ρ : Rho} {st : YlA}
theorem YjA {i j : Int} (h : -(2 ^ 64) < j) (h2 : j < 2 ^ 64) : Ymm (.int i) (.int j) st = some (.int (i * j), st) := YkT h h2
theorem WR (a : Array Nat) : ∀ (n : Nat) (acc : Array Nat), ((List.replicate n a).foldl (· ++ ·) acc).toList = acc.toList ++ (List.replicate n a.toList).flatten
 | 0, acc => by simp
 | n + 1, acc => by rw [List.replicate_succ, List.foldl_cons, WR a n, List.replicate_succ, List.flatten_cons]; simp
theorem YjQ {l : List Nat} {k : Int} : Txt.mul (sT l) k = sT (List.replicate k.toNat l).flatten := by
 unfold Txt.mul
 by_cases h : k < 1
 ·rw [ZAE h, show k.toNat = 0 by omega]; rfl
 ·rw [ZAF h]
  by_cases h2 : (k == 1 || (sT l).length == 0) = true
  ·rw [ZAE h2]
   rw [ZB8, ZBx, ZBx] at h2
   rcases h2 with h2 | h2
   ·rw [h2]; simp
   ·rw [Yl] at h2
    have : l = [] := ZBz.mp h2
    subst this
    congr 1
    simp
  ·rw [ZAF h2]
   refine YbO ?_
   show ((List.replicate k.toNat (sT l).cps).foldl (· ++ ·) #[]).toList = _
   rw [WR]
   simp
theorem Yhv {l : List Nat} {k : Int} (h1 : -1000000 <= k) (h2 : k <= 1000000) (h3 : l.length <= 1000000) (h4 : l.length * k.toNat <= 1000000) : Ymm (tx l) (.int k) st = some (tx (List.replicate k.toNat l).flatten, st) := by
 have z : -1000000 <= k /\ k <= 1000000 /\ (sT l).length <= 1000000 /\ (sT l).length * k.toNat <= cap := ⟨h1, h2, by rw [Yl]; exact h3, by rw [Yl]; exact h4⟩
 show (if -1000000 <= k /\ k <= 1000000 /\ (sT l).length <= 1000000 /\ (sT l).length * k.toNat <= cap then okP (.str (Txt.mul (sT l) k)) st else none) = _
 rw [ZAE z, YjQ]
 rfl
def YoC (p : P) (st : YlA) : R Src := match YoL p st with
 | some s => .ok s st
 | none => .bad
theorem Yh5 {a : ME} : Yoc a ρ st = (a ρ st).bind fun p st1 => YoC p st1 := rfl
theorem YdQ {xs : List P} : YoC (.tup xs) st = .ok (Ynt xs) st := rfl
theorem Ye3 {l : List Nat} : YoC (tx l) st = .ok (Ynt (l.map fun c => tx [c])) st := rfl
theorem Yjm {xs : List P} : (Ynt xs).n = xs.length := rfl
theorem YcP {α : Type} {f : α -> Bool} : ∀ (l : List α), YnW (l.map fun x => P.bl (f x)) = some (l.map f)
 | [] => rfl
 | a :: r => by
  show (YnW (r.map fun x => P.bl (f x))).map (f a :: ·) = _
  rw [YcP r]
  rfl
def allR (ps : List P) (st : YlA) : R P := match YnW ps with
 | some bs => .ok (.bl (bs.all id)) st
 | none => .bad
theorem YhW {m : MA} : Yn8 m ρ st = (m ρ st).bind fun ps st1 => allR ps st1 := rfl
theorem YbW {α : Type} {f : α -> Bool} {l : List α} : allR (l.map fun x => P.bl (f x)) st = .ok (.bl (l.all f)) st := by
 unfold allR
 rw [YcP]
 show 143
 rw [List.all_map]
 rfl
theorem Ybo {xs : List P} {p : P} (h : xs.getLast? = some p) : ixP (.tup xs) (.int (-1)) st = some (p, st) := by
 show (atI xs (-1)).map (fun p => (p, st)) = _
 have hne : xs ≠ [] := by rintro rfl; cases h
 have hl : 0 < xs.length := ZBP.mpr hne
 have : atI xs (-1) = xs.getLast? := by
  unfold atI ixN
  rw [ZAF (by decide), ZAE (by omega)]
  show xs[(-1 + (xs.length : Int)).toNat]? = _
  rw [show (-1 + (xs.length : Int)).toNat = xs.length - 1 by omega, List.getLast?_eq_getElem?]
 rw [this, h]
 rfl
end
open Builtin.Str (occurrences partsBetween strSub strKind subAt)
def YlR (y : List Nat) : List (List Nat) -> List Nat
 | [] => []
 | [p] => p
 | p :: q :: r => p ++ (y ++ YlR y (q :: r))
theorem at_sT {X Y : List Nat} {k : Nat} : StrLaws.At (sT X) (sT Y) (sT X).length k ↔ k + Y.length <= X.length /\ (X.drop k).take Y.length = Y := by
 unfold StrLaws.At
 rw [StrLaws.subAt_eq, Yl, Yl, ZBx]
 rfl
theorem YbP {X : List Nat} {a b : Nat} : strSub (sT X) a b = sT ((X.drop a).take (b - a)) := by
 apply YbO
 rw [StrLaws.strSub_toList]
 rfl
theorem YiZ {X y p t : List Nat} {c a k : Nat} (hx : X.drop a = p ++ t) (hc : c ∉ p) (h1 : a <= k) (h2 : k < a + p.length) : ¬ StrLaws.At (sT X) (sT (c :: y)) (sT X).length k := fun h => by
 obtain ⟨h3, h4⟩ := at_sT.mp h
 have e : X.drop k = (p ++ t).drop (k - a) := by rw [<- hx, ZBQ]; congr 1; omega
 rw [e, List.drop_append_of_le_length (by omega)] at h4
 have hp : p.drop (k - a) ≠ [] := by intro z; have := congrArg List.length z; simp at this; omega
 obtain ⟨d, r, hr⟩ := List.exists_cons_of_ne_nil hp
 rw [hr, List.cons_append, ZAQ, List.take_succ_cons] at h4
 have : d = c := (List.cons.inj h4).1
 subst this
 exact hc (ZCj (by rw [hr]; exact ZAc ..))
theorem JX {X y : List Nat} {c f : Nat} : ∀ (ps : List (List Nat)) (a : Nat) (cuts : List Nat), ps ≠ [] -> (∀ p ∈ ps, c ∉ p) -> X.drop a = YlR (c :: y) ps -> a <= X.length -> StrLaws.ChainG (sT X) (sT (c :: y)) (sT X).length a cuts f -> (∀ k, f <= k -> ¬ StrLaws.At (sT X) (sT (c :: y)) (sT X).length k) ->
 StrLaws.partsFrom (sT X) (sT (c :: y)).length a cuts = ps.map sT
 | [], _, _, h, _, _, _, _, _ => absurd rfl h
 | [p], a, [], _, hc, hx, ha, hG, hn => by
  show [strSub (sT X) a (sT X).length] = [sT p]
  rw [YbP, hx, Yl]
  congr 2
  have := ZAk List.length hx
  simp only [List.length_drop] at this
  exact List.take_of_length_le (by show p.length <= _; unfold YlR at this; omega)
 | [p], a, d :: r, _, hc, hx, ha, hG, hn => by
  exfalso
  have hx' : X.drop a = p ++ [] := by rw [hx, ZAZ]; rfl
  obtain ⟨g1, g2⟩ := at_sT.mp hG.2.1
  have hl := ZAk List.length hx'
  simp only [List.length_drop, List.length_append, List.length_nil] at hl
  rw [ZAQ] at g1
  exact YiZ hx' (hc p (ZA1.mpr rfl)) hG.1 (by omega) hG.2.1
 | p :: q :: r, a, cuts, _, hc, hx, ha, hG, hn => by
  have hx1 : X.drop a = p ++ ((c :: y) ++ YlR (c :: y) (q :: r)) := hx
  have hcp := hc p (ZAc ..)
  have hl := ZAk List.length hx1
  simp only [List.length_drop, List.length_append, List.length_cons] at hl
  have hat : StrLaws.At (sT X) (sT (c :: y)) (sT X).length (a + p.length) := by
   rw [at_sT]
   refine ⟨by rw [ZAQ]; omega, ?_⟩
   rw [<- ZBQ, hx1, ZBg, ZCF]
  match cuts, hG with
  | [], hG =>
   have e : f = a := hG
   exact absurd hat (hn _ (by omega))
  | d :: rest, hG =>
   obtain ⟨g1, g2, g3, g4⟩ := hG
   have hd : d = a + p.length := by
    rcases Nat.lt_trichotomy d (a + p.length) with h | h | h
    ·exact absurd g2 (YiZ hx1 hcp g1 h)
    ·exact h
    ·exact absurd hat (g3 _ (by omega) h)
   subst hd
   have hx2 : X.drop (a + p.length + (sT (c :: y)).length) = YlR (c :: y) (q :: r) := by
    rw [Yl, <- ZBQ, <- ZBQ, hx1, ZBg, ZBg]
   have ih := JX (q :: r) (a + p.length + (sT (c :: y)).length) rest (by simp) (fun z hz => hc z (List.mem_cons_of_mem _ hz)) hx2 (by rw [Yl, List.length_cons]; omega) g4 hn
   show strSub (sT X) a (a + p.length) :: StrLaws.partsFrom (sT X) (sT (c :: y)).length (a + p.length + (sT (c :: y)).length) rest = _
   rw [ih, YbP, hx1, ZCT, ZCF]
   rfl
theorem Yd1 {l : List Nat} (h : ∀ c ∈ l, c < 256) : Builtin.Str.strKind (sT l) = 1 := by
 unfold Builtin.Str.strKind
 rw [ZAE]
 rw [<- Array.all_toList]
 exact ZA7.mpr fun c hc => ZAR (h c hc)
theorem Ydq {c : Nat} {y : List Nat} {ps : List (List Nat)} (hp : ps ≠ []) (hc : ∀ p ∈ ps, c ∉ p) (hk : ∀ d ∈ c :: y, d < 256) : Txt.split (sT (YlR (c :: y) ps)) (sT (c :: y)) = ps.map sT := by
 generalize hX : YlR (c :: y) ps = X
 obtain ⟨f, hG, hn⟩ := StrLaws.occ_tight (sT X) (sT (c :: y)) (by rw [Yl, ZAQ]; omega)
 have key := JX ps 0 _ hp hc (by rw [ZCD, hX]) (ZBb _) hG hn
 unfold Txt.split
 split
 ·rename_i h
  rw [ZB8, decide_eq_true_eq, decide_eq_true_eq] at h
  rcases h with h | h
  ·match ps, hp, hX with
   | [p], _, hX => rw [<- hX]; rfl
   | p :: q :: r, _, hX =>
    rw [Yl, Yl, <- hX] at h
    unfold YlR at h
    simp only [List.length_append] at h
    omega
  ·rw [Yd1 hk] at h
   unfold Builtin.Str.strKind at h
   split at h
   ·omega
   ·split at h <;> omega
 ·split
  ·rename_i he
   rw [List.isEmpty_iff.mp he] at key
   rw [<- key]
   show [_] = [strSub (sT X) 0 (sT X).length]
   rw [StrLaws.sub_whole]
  ·rw [ZCU]
   exact key
theorem YhZ (y : List Nat) (ls : List (List Nat)) : Txt.join (sT y) (ls.map sT) = sT (YlR y ls) := by
 unfold Txt.join
 rw [ZCe]
 induction ls with
 | nil => rfl
 | cons a r ih =>
  cases r with
  | nil => rfl
  | cons b r =>
   show sT a ++ sT y ++ Str.join (sT y) ((b :: r).map sT) = _
   rw [ih, W9, W9]
   show sT (a ++ y ++ YlR y (b :: r)) = sT (a ++ (y ++ YlR y (b :: r)))
   rw [ZAe]
theorem Ydo {y : List Nat} {ls : List (List Nat)} {st : YlA} (h : ls.flatten.length + ls.length * y.length <= 1000000) : joinR (sT y) (ls.map tx) st = .ok (tx (YlR y ls)) st := by
 unfold joinR
 rw [WQ]
 show 143
 have e : Yms (sT y) (ls.map sT) = ls.flatten.length + ls.length * y.length := by
  unfold Yms
  simp only [Yl, List.map_map, List.length_flatten, List.length_map]
  rfl
 rw [e, ZAE (show _ <= cap from h), YhZ]
 rfl
section
variable {ρ : Rho} {st : YlA}
theorem YcW {k : Nat} {xs : List P} (h : listAt st k = some xs) : Ynm [.ref k] st = some (.tup xs, st) := by
 unfold Ynm
 show 143
 rw [Ye2 h]
 rfl
end
section
variable {ρ : Rho} {st : YlA}
end
section
variable {st : YlA}
theorem Yk9 {l : List Nat} : tyP (tx l) st = some "str" := rfl
theorem Ykc {xs : List P} : tyP (.tup xs) st = some "tuple" := rfl
theorem Yjn : Ynk "str" "str" = true := rfl
theorem Yj6 : Ynk "tuple" "tuple" = true := rfl
theorem YiN {a b : List Nat} : eqP (tx a) (tx b) st = some (.bl (decide (a = b)), st) := by
 unfold tx; rw [YcM, YjU]
def Yl9 : Nat -> P -> Bool
 | _, .non => true
 | _, .int _ => true
 | _, .str _ => true
 | n + 1, .tup xs => xs.all (Yl9 n)
 | _, _ => false
def dat : Nat -> P -> PyData
 | _, .non => .none
 | _, .bl b => .bool b
 | _, .int i => .int i
 | _, .str x => .str x
 | n + 1, .tup xs => .tuple (xs.map (dat n))
 | _, _ => .none
theorem Yc0 {n : Nat} (ih : ∀ p, Yl9 n p = true -> snap n st p = some (dat n p)) : ∀ xs : List P, xs.all (Yl9 n) = true -> xs.mapM (snap n st) = some (xs.map (dat n))
 | [], _ => rfl
 | x :: xs, h => by
  rw [ZBC, ZAb] at h
  rw [List.mapM_cons, ih x h.1, Yc0 ih xs h.2]
  rfl
theorem Yai : ∀ {n : Nat} {p : P}, Yl9 n p = true -> snap n st p = some (dat n p)
 | 0, .non, _ => rfl
 | 0, .int _, _ => rfl
 | 0, .str _, _ => rfl
 | _ + 1, .non, _ => rfl
 | _ + 1, .int _, _ => rfl
 | _ + 1, .str _, _ => rfl
 | n + 1, .tup xs, h => by
  have h' : xs.all (Yl9 n) = true := h
  show (xs.mapM (snap n st)).map PyData.tuple = some (.tuple (xs.map (dat n)))
  rw [Yc0 (fun p hp => Yai (n := n) hp) xs h']
  rfl
theorem Yac {n : Nat} (ih : ∀ p q, Yl9 n p = true -> Yl9 n q = true -> (PyData.eqv (dat n p) (dat n q) = true ↔ p = q)) :
 ∀ xs ys : List P, xs.all (Yl9 n) = true -> ys.all (Yl9 n) = true -> (PyData.eqvAll (xs.map (dat n)) (ys.map (dat n)) = true ↔ xs = ys)
 | [], [], _, _ => by simp [PyData.eqvAll]
 | [], _ :: _, _, _ => by simp [PyData.eqvAll]
 | _ :: _, [], _, _ => by simp [PyData.eqvAll]
 | x :: xs, y :: ys, h1, h2 => by
  rw [ZBC, ZAb] at h1 h2
  rw [ZAV, ZAV, PyData.eqvAll, ZAb, ih x y h1.1 h2.1, Yac ih xs ys h1.2 h2.2, List.cons.injEq]
theorem Yij : ∀ {n : Nat} {p q : P}, Yl9 n p = true -> Yl9 n q = true -> (PyData.eqv (dat n p) (dat n q) = true ↔ p = q) := by
 intro n
 induction n with
 | zero =>
  intro p q h1 h2
  cases p <;> first | (cases h1; done) | skip
  all_goals (cases q <;> first | (cases h2; done) | simp [dat, PyData.eqv])
 | succ n ih =>
  intro p q h1 h2
  cases p <;> first | (cases h1; done) | skip
  all_goals (cases q <;> first | (cases h2; done) | skip)
  all_goals first
   | (rename_i xs ys
      have h1' : xs.all (Yl9 n) = true := h1
      have h2' : ys.all (Yl9 n) = true := h2
      show PyData.eqv (.tuple (xs.map (dat n))) (.tuple (ys.map (dat n))) = true ↔ _
      rw [PyData.eqv, Yac (fun p q => ih) xs ys h1' h2', P.tup.injEq])
   | simp [dat, PyData.eqv]
theorem Yex {p q : P} (hp : Yl9 8 p = true) (hq : Yl9 8 q = true) : ∃ b, neP p q st = some (.bl (!b), st) /\ (b = true ↔ p = q) := by
 refine ⟨PyData.eqv (dat 8 p) (dat 8 q), ?_, Yij hp hq⟩
 unfold neP eqB deep
 rw [Yai hp, Yai hq]
 rfl
theorem V5 {p : P} (hp : Yl9 8 p = true) : neP p p st = some (.bl false, st) := by
 obtain ⟨b, e, h⟩ := Yex (st := st) hp hp
 rw [e, h.mpr rfl]
 rfl
end
theorem Vj (l : List Nat) (c limit : Nat) : ∀ (n lo : Nat) (acc : Array Nat) (free : Nat), free <= lo ->
 (forIn (List.range' lo n) (acc, free) (StrLaws.occBody (sT l) (sT [c]) l.length limit)).run.fst.toList = acc.toList ++ ((List.range' lo n).filter fun i => decide (l[i]? = some c)).take (limit - acc.size)
 | 0, lo, acc, free, _ => by simp
 | n + 1, lo, acc, free, hf => by
  rw [List.range'_succ, List.forIn_cons]
  unfold StrLaws.occBody
  have key := StrLaws.subAt_one (sT l) c lo
  have e1 : (sT l).cps.toList = l := rfl
  have e2 : (⟨#[c]⟩ : Str) = sT [c] := rfl
  rw [e1, e2, Yl] at key
  by_cases hc : l[lo]? = some c
  ·have hk := key.mpr hc
   by_cases hl : acc.size < limit
   ·rw [ZAE ⟨⟨⟨hl, hf⟩, hk.1⟩, hk.2⟩]
    have ih := Vj l c limit n (lo + 1) (acc.push lo) (lo + (sT [c]).length) (by simp)
    refine ih.trans ?_
    rw [List.filter_cons_of_pos (by simpa using hc)]
    rw [show limit - acc.size = (limit - (acc.push lo).size) + 1 by simp; omega, List.take_succ_cons]
    simp
   ·rw [ZAF (fun h => hl h.1.1.1)]
    have ih := Vj l c limit n (lo + 1) acc free (by omega)
    refine ih.trans ?_
    rw [show limit - acc.size = 0 by omega]
    simp
  ·rw [ZAF (fun h => hc (key.mp ⟨h.1.2, h.2⟩))]
   have ih := Vj l c limit n (lo + 1) acc free (by omega)
   refine ih.trans ?_
   rw [List.filter_cons_of_neg (by simpa using hc)]
theorem Yiv (l : List Nat) (c limit : Nat) : Builtin.Str.occurrences (sT l) (sT [c]) 0 (sT l).length limit = ((List.range (l.length + 1)).filter fun i => decide (l[i]? = some c)).take limit := by
 rw [StrLaws.occ_eq, Yl]
 refine (Vj l c limit (l.length + 1 - 0) 0 #[] 0 (ZAI _)).trans ?_
 rw [List.range_eq_range']
 simp
theorem VA (c : Nat) : ∀ (l : List Nat) (n : Nat), l.length <= n -> ((List.range n).filter fun i => decide (l[i]? = some c)).length = l.count c
 | [], n, _ => by simp
 | a :: l, 0, h => by simp at h
 | a :: l, n + 1, h => by
  have ih := VA c l n (by simpa using h)
  rw [List.range_succ_eq_map, ZCN, List.filter_map]
  have e : ((fun i => decide ((a :: l)[i]? = some c)) ∘ Nat.succ) = fun i => decide (l[i]? = some c) := by
   funext i; simp
  rw [e, List.count_cons]
  by_cases hc : a = c
  ·subst hc; simp [ih]
  ·simp [hc, ih]
theorem YeF (l : List Nat) (c : Nat) : ((Builtin.Str.occurrences (sT l) (sT [c]) 0 (sT l).length ((sT l).length + 1)).length) = l.count c := by
 rw [Yiv, Yl, ZAo, VA c l _ (by omega)]
 refine ZAO (ZCf ..) ?_
 simp
section
variable {st : YlA}
theorem YiM {l : List Nat} {c : Nat} : YnX (tx l) [tx [c]] st = some (.int (l.count c : Nat), st) := by
 have h : Txt.count (sT l) (sT [c]) = ((l.count c : Nat) : Int) := by
  unfold Txt.count
  rw [YeF]
 show okP (.int (Txt.count (sT l) (sT [c]))) st = _
 rw [h]
 rfl
end
section
variable {α : Type} {src : Src} {g : MG} {nt : MT} {me : ME} {m : MS} {ρ0 ρ : Rho} {st : YlA} {N : Nat}
theorem Ycs (xs : List α) (enc : α -> P) (t : α -> Bool) (f : α -> P) (hn : N = xs.length) (hx : ∀ i, i <= xs.length -> src.nx i st = some (xs[i]?.map enc)) (hc : xs.length <= 1000000)
 (h : ∀ a ∈ xs, ∃ ρ1, g (enc a) ρ0 st = some ρ1 /\ nt ρ1 st = .ok (t a) st /\ (t a = true -> me ρ1 st = .ok (f a) st)) : YlV src g nt me ρ0 N 0 st [] = .ok ((xs.filter t).map f) st := by
 obtain ⟨acc, st', e, h1, h2, _⟩ := VJ (src := src) (g := g) (nt := nt) (me := me) (ρ0 := ρ0) (N := xs.length) (fun i s acc => s = st /\ acc = ((xs.take i).filter t).map f /\ acc.length <= i) (st := st) ⟨rfl, by simp, by simp⟩ (fun i s acc hi ⟨e1, e2, e3⟩ => by
  subst e1
  obtain ⟨ρ1, g1, g2, g3⟩ := h xs[i] (ZAs hi)
  refine ⟨enc xs[i], ρ1, by rw [hx i (by omega), ZAJ hi]; rfl, g1, ?_⟩
  have et : xs.take (i + 1) = xs.take i ++ [xs[i]] := by rw [ZA9, ZAJ hi]; rfl
  cases q : t xs[i] with
  | false => exact .inl ⟨s, by rw [g2, q], rfl, by rw [et, ZBv, e2, ZCR (by rw [q]; exact ZAU), ZB9, ZAZ], by omega⟩
  | true => exact .inr ⟨s, f xs[i], s, by rw [g2, q], g3 q, by show _ < 1000000; omega, rfl, by rw [et, ZBv, e2, ZCS q, ZB9, ZAf, ZAV, ZB6], by rw [ZAD, ZAg]; omega⟩)
  (fun s acc ⟨e1, _⟩ => by subst e1; rw [hx _ (ZAI _), ZBB (ZAI _)]; rfl)
 rw [hn, e, h1, h2, ZBi]
theorem Z5 (xs : List α) (enc : α -> P) (f : α -> P) (hn : N = xs.length) (hx : ∀ i, i <= xs.length -> src.nx i st = some (xs[i]?.map enc)) (hc : xs.length <= 1000000)
 (h : ∀ a ∈ xs, ∃ ρ1, g (enc a) ρ0 st = some ρ1 /\ me ρ1 st = .ok (f a) st) : YlV src g Ymd me ρ0 N 0 st [] = .ok (xs.map f) st := by
 rw [Ycs (nt := Ymd) xs enc (fun _ => true) f hn hx hc fun a ha => let ⟨ρ1, h1, h2⟩ := h a ha; ⟨ρ1, h1, rfl, fun _ => h2⟩]
 rw [ZBp.mpr fun _ _ => rfl]
theorem Yfa (xs : List α) (enc : α -> P) (f : α -> P) (I : YlA -> Prop) (hn : N = xs.length) (hx : ∀ i s, i <= xs.length -> I s -> YlK st s -> src.nx i s = some (xs[i]?.map enc)) (hc : xs.length <= 1000000) (h0 : I st)
 (h : ∀ a ∈ xs, ∀ s, I s -> YlK st s -> ∃ ρ1 s', g (enc a) ρ0 s = some ρ1 /\ me ρ1 s = .ok (f a) s' /\ I s' /\ YlK s s') : ∃ s', YlV src g Ymd me ρ0 N 0 st [] = .ok (xs.map f) s' /\ I s' /\ YlK st s' := by
 obtain ⟨acc, st', e, h1, h2, h3, _⟩ := VJ (src := src) (g := g) (nt := Ymd) (me := me) (ρ0 := ρ0) (N := xs.length) (fun i s acc => I s /\ YlK st s /\ acc = (xs.take i).map f /\ acc.length <= i) (st := st) ⟨h0, YlK.refl, by simp, by simp⟩ (fun i s acc hi ⟨e0, e1, e2, e3⟩ => by
  obtain ⟨ρ1, s', g1, g2, g3, g4⟩ := h xs[i] (ZAs hi) s e0 e1
  refine ⟨enc xs[i], ρ1, by rw [hx i s (by omega) e0 e1, ZAJ hi]; rfl, g1, ?_⟩
  have et : xs.take (i + 1) = xs.take i ++ [xs[i]] := by rw [ZA9, ZAJ hi]; rfl
  exact .inr ⟨s, f xs[i], s', rfl, g2, by show _ < 1000000; omega, g3, e1.trans g4, by rw [et, e2, ZAf, ZAV, ZB6], by rw [ZAD, ZAg]; omega⟩)
  (fun s acc ⟨e0, e1, _⟩ => by rw [hx _ s (ZAI _) e0 e1, ZBB (ZAI _)]; rfl)
 rw [ZBi] at h3
 exact ⟨st', by rw [hn, e, h3], h1, h2⟩
theorem VE (xs : List α) (enc : α -> P) (I : Nat -> Rho -> YlA -> Prop) (hn : N = xs.length) (hx : ∀ i ρ s, i <= xs.length -> I i ρ s -> src.nx i s = some (xs[i]?.map enc)) (h0 : I 0 ρ st)
 (step : ∀ i (hi : i < xs.length) ρ s, I i ρ s -> ∃ ρ1, g (enc xs[i]) ρ s = some ρ1 /\ ∃ ρ' s', m ρ1 s = .nx ρ' s' /\ I (i + 1) ρ' s') : ∃ ρ' s', Ymi src g m N 0 ρ st = .nx ρ' s' /\ I xs.length ρ' s' := by
 rw [hn]
 refine Yhq I h0 (fun i ρ s hi h => ?_) (fun ρ s h => by rw [hx _ ρ s (ZAI _) h, ZBB (ZAI _)]; rfl)
 obtain ⟨ρ1, g1, r⟩ := step i hi ρ s h
 exact ⟨enc xs[i], ρ1, by rw [hx i ρ s (by omega) h, ZAJ hi]; rfl, g1, r⟩
end
section
variable {α : Type} {st : YlA} {i : Nat}
theorem nxS {l : List Nat} (hi : i <= l.length) : (Ynj (sT l)).nx i st = some (l[i]?.map fun c => tx [c]) := by
 rw [Yd9 (by simpa using hi), Ygz]
 rfl
theorem nxL {xs : List α} {enc : α -> P} : (Ynr (xs.map enc)).nx i st = some (xs[i]?.map enc) := by
 rw [JM, ZAa]
theorem nxR {lo : Int} {n : Nat} : (YmF lo n).nx i st = some ((List.range n)[i]?.map fun (k : Nat) => P.int (lo + k)) := by
 rw [Zw]
 by_cases h : i < n
 ·rw [ZAE h, List.getElem?_range h]; rfl
 ·rw [if_neg h, List.getElem?_eq_none (by simpa using h)]; rfl
theorem nxK {k n : Nat} {xs : List α} {enc : α -> P} (h : listAt st k = some (xs.map enc)) : (YmN k n).nx i st = some (xs[i]?.map enc) := by
 rw [Yb5 h, ZAa]
theorem YdC {l : List Nat} : srcOf (tx l) st = some (Ynj (sT l)) := rfl
theorem YdT {l : List Nat} : (Ynj (sT l)).n = l.length := by rw [Ygw, Yd3]
theorem Yk8 {a : P} {r : List P} : ixP (.tup (a :: r)) (.int 0) st = some (a, st) := Vm (by omega) rfl
theorem YkG {a b : P} {r : List P} : ixP (.tup (a :: b :: r)) (.int 1) st = some (b, st) := Vm (by omega) rfl
end
section
variable {α : Type} {src : Src} {g : MG} {m : MS} {ρ : Rho} {st : YlA} {N : Nat}
theorem nxN {i : Nat} {xs : List α} {f : α -> P} (hi : i <= xs.length) : (Ynt (xs.map f)).nx i st = some (xs.zipIdx[i]?.map fun p => .tup [.int p.2, f p.1]) := by
 unfold Ynt numAt
 show 143
 rw [ZAH, ZAa, List.getElem?_zipIdx]
 by_cases h : i < xs.length
 ·rw [ZAE h, ZAJ h]
  simp
 ·rw [ZAF h, ZAE (by omega), ZBB (by omega)]
  rfl
end
section
variable {α : Type} {st : YlA}
theorem YhN : isP .non .non st = some (.bl true, st) := rfl
theorem YfV {xs : List P} : isP (.tup xs) .non st = some (.bl false, st) := rfl
theorem Ybd {k l : Nat} {xs ys : List P} (h1 : st[k]? = some (.lst xs)) (h2 : st[l]? = some (.lst ys)) (hl : xs.length + ys.length <= 1000000) : Yl6 (.ref k) (.ref l) st = some (.ref st.length, st ++ [.lst (xs ++ ys)]) := by
 have e1 : Yl7 st k = some xs := by unfold Yl7; rw [h1]
 have e2 : Yl7 st l = some ys := by unfold Yl7; rw [h2]
 show (match Yl7 st k, Yl7 st l with | some xs, some ys => YmO (xs ++ ys) st | _, _ => none) = _
 rw [e1, e2]
 show YmO (xs ++ ys) st = _
 unfold YmO
 rw [ZAE]
 show _ <= 1000000
 rw [ZAD]
 exact hl
end
theorem Yjh (a : Nat) (u : Option Int) (n : Nat) : Builtin.Str.strSliceIndices (some (a : Int)) u 1 n = Builtin.Str.strSliceIndices (some ((min a n : Nat) : Int)) u 1 n := by
 have e : max (0 : Int) (min (if (a : Int) < 0 then (a : Int) + n else a) n) = max 0 (min (if ((min a n : Nat) : Int) < 0 then ((min a n : Nat) : Int) + n else ((min a n : Nat) : Int)) n) := by
  rw [ZAF (by omega), ZAF (by omega)]; omega
 unfold Builtin.Str.strSliceIndices
 simp only [show (1 : Int) > 0 by decide, if_true]
 rw [e]
theorem YjR (l : Option Int) (b : Nat) (n : Nat) : Builtin.Str.strSliceIndices l (some (b : Int)) 1 n = Builtin.Str.strSliceIndices l (some ((min b n : Nat) : Int)) 1 n := by
 have e : max (0 : Int) (min (if (b : Int) < 0 then (b : Int) + n else b) n) = max 0 (min (if ((min b n : Nat) : Int) < 0 then ((min b n : Nat) : Int) + n else ((min b n : Nat) : Int)) n) := by
  rw [ZAF (by omega), ZAF (by omega)]; omega
 unfold Builtin.Str.strSliceIndices
 simp only [show (1 : Int) > 0 by decide, if_true]
 rw [e]
theorem ZF (x : Str) (l u : Option Int) : Txt.slice x l u = StrLaws.sliceText x l u := by
 first | rfl | (unfold Txt.slice StrLaws.sliceText; rfl)
theorem Yc3 (x : Str) (a : Nat) (u : Option Int) : Txt.slice x (some (a : Int)) u = Txt.slice x (some ((min a x.length : Nat) : Int)) u := by
 rw [ZF, ZF]
 unfold StrLaws.sliceText
 rw [Yjh]
theorem Yc1 (x : Str) (l : Option Int) (b : Nat) : Txt.slice x l (some (b : Int)) = Txt.slice x l (some ((min b x.length : Nat) : Int)) := by
 rw [ZF, ZF]
 unfold StrLaws.sliceText
 rw [YjR]
theorem Ydy (l : List Nat) (a : Nat) : Txt.slice (sT l) (some (a : Int)) none = sT (l.drop a) := by
 rw [Yc3, ZF, StrLaws.sliceText_from (by rw [W8, Yl]; omega), W8, Yl]
 have e : (l.drop ((min a l.length : Nat) : Int).toNat).take ((l.length : Int) - ((min a l.length : Nat) : Int)).toNat = l.drop a := by
  rw [ZBE]
  by_cases h : a <= l.length
  ·rw [ZBa h, ZAo (by rw [ZAr]; omega)]
  ·rw [ZBK (by omega), ZAv (ZAI _), ZAv (by omega), ZCm]
 show 25
theorem Yha (l : List Nat) (b : Nat) : Txt.slice (sT l) none (some (b : Int)) = sT (l.take b) := by
 rw [Yc1, ZF, StrLaws.sliceText_to (by rw [W8, Yl]; omega), W8, Yl]
 have e : (l.drop 0).take (((min b l.length : Nat) : Int) - 0).toNat = l.take b := by
  rw [ZCD, Int.sub_zero, ZBE]
  by_cases h : b <= l.length
  ·rw [ZBa h]
  ·rw [ZBK (by omega), ZAo (ZAI _), ZAo (by omega)]
 show 25
theorem Yfl (l : List Nat) (a b : Nat) (hab : a <= b) : Txt.slice (sT l) (some (a : Int)) (some (b : Int)) = sT ((l.drop a).take (b - a)) := by
 rw [Yc3, Yc1, ZF, StrLaws.sliceText_plain (by rw [W8, Yl]; omega), W8, Yl]
 have e : (l.drop ((min a l.length : Nat) : Int).toNat).take (((min b l.length : Nat) : Int) - ((min a l.length : Nat) : Int)).toNat = (l.drop a).take (b - a) := by
  rw [ZBE]
  by_cases h : a <= l.length
  ·rw [ZBa h]
   by_cases h2 : b <= l.length
   ·rw [ZBa h2]; congr 1; omega
   ·rw [ZBK (by omega), ZAo (by rw [ZAr]; omega), ZAo (by rw [ZAr]; omega)]
  ·rw [ZBK (show l.length <= b by omega), ZBK (show l.length <= a by omega), ZAv (ZAI _), ZAv (show l.length <= a by omega), ZCm, ZCm]
 show 25
section
variable {st : YlA}
theorem Ybs {l : List Nat} {a : Nat} (h : l.length <= 1000000) : slP (tx l) (some (a : Int)) none st = some (tx (l.drop a), st) := by
 show (if (sT l).length <= cap then okP (.str (Txt.slice (sT l) (some (a : Int)) none)) st else none) = _
 rw [ZAE (by rw [Yl]; exact h), Ydy]
 rfl
theorem YbR {l : List Nat} {b : Nat} (h : l.length <= 1000000) : slP (tx l) none (some (b : Int)) st = some (tx (l.take b), st) := by
 show (if (sT l).length <= cap then okP (.str (Txt.slice (sT l) none (some (b : Int)))) st else none) = _
 rw [ZAE (by rw [Yl]; exact h), Yha]
 rfl
theorem Ygi {l : List Nat} {a b : Nat} (hab : a <= b) (h : l.length <= 1000000) : slP (tx l) (some (a : Int)) (some (b : Int)) st = some (tx ((l.drop a).take (b - a)), st) := by
 show (if (sT l).length <= cap then okP (.str (Txt.slice (sT l) (some (a : Int)) (some (b : Int)))) st else none) = _
 rw [ZAE (by rw [Yl]; exact h), Yfl _ _ _ hab]
 rfl
end
theorem Ydf {c : Nat} {l : List Nat} {st : YlA} : inP (tx [c]) (tx l) st = some (.bl (decide (c ∈ l)), st) := by
 have := StrLaws.found_one (sT l) c
 show okP (.bl (!(Builtin.Str.occurrences (sT l) (sT [c]) 0 (sT l).length 1).isEmpty)) st = _
 have e : (!(Builtin.Str.occurrences (sT l) (sT [c]) 0 (sT l).length 1).isEmpty) = decide (c ∈ l) := this
 show 25
end Mi
namespace Mi
open PySem PySem.Spec L2
open PyProof.Rows hiding St
def YnI : RS -> R P
 | .nx _ st => .ok .non st
 | .rt p st => .ok p st
 | .exc x _ st => .exc x st
 | _ => .bad
def YoW (c : Str) (mh : MS) : RS -> RS
 | .exc x ρ st => if x.1 = c then Yob (mh ρ st) else .bad
 | r => r
def YnR (c : Str) (i : Nat) (mh : MS) : RS -> RS
 | .exc x ρ st => if x.1 = c then YnE i (mh (ρ.set i (some (.ref st.length))) (st ++ [.exc c x.2])) else .bad
 | r => r
section
variable {n i : Nat} {m mb mh : MS} {mf : MF} {mr ma : MA} {me : ME} {ps : List P} {ρ : Rho} {st : YlA} {c : Str} {p : P} {fs : List (Str × P)} {x : Xc} {b : Bool}
theorem YjM : Yn1 n m ps st = YnI (m (ps.map some ++ List.replicate (n - ps.length) none) st) := by unfold Yn1 YnI; rfl
theorem Ygu : YnI (.nx ρ st) = .ok .non st := rfl
theorem Yhk : YnI (.rt p st) = .ok p st := rfl
theorem YeY : YnI (.exc x ρ st) = .exc x st := rfl
theorem YhG : YmD n mf mr ρ st = (mr ρ st).bind fun ps st1 => if ps.length = n then mf ps st1 else .bad := rfl
theorem Ygf : YmV c ma ρ st = RS.ofE ρ (ma ρ st) fun ps st1 => if ps.length <= 1000 then .exc (c, []) ρ st1 else .bad := rfl
theorem YhX : YoW c mh (.nx ρ st) = .nx ρ st := rfl
theorem Yig : YoW c mh (.rt p st) = .rt p st := rfl
theorem YgX : YoW c mh (.exc (c, fs) ρ st) = Yob (mh ρ st) := by unfold YoW; simp
theorem YeU : YnR c i mh (.nx ρ st) = .nx ρ st := rfl
theorem Yfd : YnR c i mh (.rt p st) = .rt p st := rfl
theorem Yc7 : YnR c i mh (.exc (c, fs) ρ st) = YnE i (mh (ρ.set i (some (.ref st.length))) (st ++ [.exc c fs])) := by unfold YnR; simp
theorem YgR : Yob (.nx ρ st) = .nx ρ st := rfl
theorem Yg8 : Yob (.rt p st) = .rt p st := rfl
theorem Ygl : YnE i (.nx ρ st) = .nx (ρ.set i none) st := rfl
theorem YfH : YnE i (.rt p st) = .rt p st := rfl
theorem YbS {k : Nat} (h : st[k]? = some (.exc c fs)) : Yn9 c (.ref k) st = true := by unfold Yn9; simp [h]
end
theorem YfP {a l : List Nat} {st : YlA} : YoV (tx a) (tx l) st = inP (tx a) (tx l) st := rfl
end Mi
namespace Mi
open PySem PySem.Spec L2
open PyProof.Rows hiding St
end Mi
namespace G
open PySem PySem.Spec L2 Mi
open PyProof.Rows hiding St
def Yn3 (hm : HM) : RS -> RS
 | .exc x ρ st => hm x ρ st
 | r => r
section
variable {ρ : Rho} {st : YlA} {mb mh : MS} {hm r : HM} {c d : Str} {i n : Nat} {ms : List Str} {fs : List (Str × P)} {p : P}
theorem Yif : Yn6 mb hm ρ st = Yn3 hm (mb ρ st) := by unfold Yn6 Yn3; rfl
theorem Yet {x : Xc} : Yn3 hm (.exc x ρ st) = hm x ρ st := rfl
theorem Yhf : Yn3 hm (.nx ρ st) = .nx ρ st := rfl
theorem YhB : Yn3 hm (.rt p st) = .rt p st := rfl
theorem Yle : hAs c i ms mh r (c, fs) ρ st = YnE i (mh (ρ.set i (some (.ref st.length))) (st ++ [.exc c fs])) := by unfold hAs; rw [if_pos rfl]
theorem Ydg (h : d ≠ c) (hm : ms.contains d = true) : hAs c i ms mh r (d, fs) ρ st = r (d, fs) ρ st := by unfold hAs; rw [if_neg h, if_pos hm]
theorem Yfu {ats : List (Str × Nat)} {ma : MA} : Ym9 c n ats ma ρ st = RS.ofE ρ (ma ρ st) fun ps st1 => if ps.length = n /\ ps.all YmE = true then .exc (c, ats.map fun p => (p.1, ps.getD p.2 .non)) ρ st1 else .bad := rfl
theorem VQ {a : Str} {me : ME} {st1 : YlA} {k : Nat} {q : P} (h : me ρ st = .ok (.ref k) st1) (h2 : st1[k]? = some (.exc c fs)) (h3 : fs.lookup a = some q) : YnP c a me ρ st = .ok q st1 := by
 unfold YnP
 rw [h]
 show (match YoO c a (.ref k) st1 with | some q => R.ok q st1 | none => .bad) = _
 have e : YoO c a (.ref k) st1 = some q := by
  show (match st1[k]? with | some (.exc c' fs) => if c' = c then fs.lookup a else none | _ => none) = some q
  rw [h2]
  show (if c = c then fs.lookup a else none) = some q
  rw [ZAE rfl, h3]
 rw [e]
end
end G
namespace G
open PySem PySem.Spec L2 Mi
open PyProof.Rows hiding St
theorem YcG {src : Src} {g : MG} {m : MS} {ρ ρ1 ρ2 ρ3 ρ4 : Rho} {s s1 s2 : YlA} {p q : P} (h1 : src.nx 0 s = some (some p)) (h2 : src.nx 1 s1 = some (some q)) (h3 : src.nx 2 s2 = some none) (g1 : g p ρ s = some ρ1) (m1 : m ρ1 s = .nx ρ2 s1) (g2 : g q ρ2 s1 = some ρ3) (m2 : m ρ3 s1 = .nx ρ4 s2) :
 Ymi src g m 2 0 ρ s = .nx ρ4 s2 := by
 simp only [Ymi, h1, g1, m1, h2, g2, m2, h3]
open Builtin.Str (occurrences partsBetween strSub strKind subAt)
def YlW : List Nat -> List (List Nat)
 | [] => [[]]
 | [c] => [[c]]
 | c :: d :: r => if c = 59 /\ d = 32 then [] :: YlW r else match YlW (d :: r) with
  | p :: ps => (c :: p) :: ps
  | [] => [[c]]
def cutE : List Nat -> List (List Nat)
 | [] => [[]]
 | c :: r => if c = 61 then [] :: cutE r else match cutE r with
  | p :: ps => (c :: p) :: ps
  | [] => [[c]]
theorem Zo : ∀ t, YlW t ≠ []
 | [] => by simp [YlW]
 | [c] => by simp [YlW]
 | c :: d :: r => by
  unfold YlW
  split
  ·simp
  ·split <;> simp
theorem ZR : ∀ t, cutE t ≠ []
 | [] => by simp [cutE]
 | c :: r => by
  unfold cutE
  split
  ·simp
  ·split <;> simp
theorem Ya2 {y : List Nat} {p : List Nat} {ps : List (List Nat)} {c : Nat} : YlR y ((c :: p) :: ps) = c :: YlR y (p :: ps) := by
 cases ps <;> rfl
theorem YcR {y : List Nat} {ps : List (List Nat)} (h : ps ≠ []) : YlR y ([] :: ps) = y ++ YlR y ps := by
 cases ps with
 | nil => exact absurd rfl h
 | cons a r => rfl
theorem Z6 : ∀ t, YlR [59, 32] (YlW t) = t
 | [] => rfl
 | [c] => rfl
 | c :: d :: r => by
  unfold YlW
  split
  ·rename_i h
   obtain ⟨rfl, rfl⟩ := h
   rw [YcR (Zo r), Z6 r]; rfl
  ·have ih := Z6 (d :: r)
   split
   ·rename_i p ps q
    rw [Ya2, <- q, ih]
   ·rename_i q
    exact absurd q (Zo _)
theorem WM : ∀ t, YlR [61] (cutE t) = t
 | [] => rfl
 | c :: r => by
  unfold cutE
  split
  ·rename_i h
   subst h
   rw [YcR (ZR r), WM r]; rfl
  ·have ih := WM r
   split
   ·rename_i p ps q
    rw [Ya2, <- q, ih]
   ·rename_i q
    exact absurd q (ZR _)
theorem Yd7 : ∀ t, ∀ p ∈ cutE t, 61 ∉ p
 | [] => by simp [cutE]
 | c :: r => by
  have ih := Yd7 r
  unfold cutE
  split
  ·intro p hp
   rcases ZAT.mp hp with rfl | hp
   ·simp
   ·exact ih p hp
  ·rename_i hc
   split
   ·rename_i p ps q
    intro z hz
    rw [q] at ih
    rcases ZAT.mp hz with rfl | hz
    ·intro h
     rcases ZAT.mp h with h | h
     ·exact hc h.symm
     ·exact ih p (by simp) h
    ·exact ih z (by simp [hz])
   ·rename_i q
    exact absurd q (ZR _)
def Ym2 : List Nat -> Bool
 | c :: d :: r => !(c == 59 && d == 32) && Ym2 (d :: r)
 | _ => true
theorem YeP : ∀ (d : Nat) (r p : List Nat) (ps : List (List Nat)), YlW (d :: r) = p :: ps -> (p = [] /\ d = 59) \/ ∃ p', p = d :: p' := by
 intro d r p ps h
 cases r with
 | nil =>
  simp only [YlW] at h
  exact .inr ⟨[], (List.cons.inj h).1.symm⟩
 | cons e r =>
  unfold YlW at h
  split at h
  ·rename_i z
   exact .inl ⟨(List.cons.inj h).1.symm, z.1⟩
  ·split at h
   ·rename_i p' ps' q
    exact .inr ⟨p', (List.cons.inj h).1.symm⟩
   ·rename_i q
    exact absurd q (Zo _)
theorem YbG : ∀ t, ∀ p ∈ YlW t, Ym2 p = true
 | [] => by simp [YlW, Ym2]
 | [c] => by simp [YlW, Ym2]
 | c :: d :: r => by
  unfold YlW
  split
  ·intro p hp
   rcases ZAT.mp hp with rfl | hp
   ·rfl
   ·exact YbG r p hp
  ·rename_i hc
   have ih := YbG (d :: r)
   split
   ·rename_i p ps q
    intro z hz
    rw [q] at ih
    rcases ZAT.mp hz with rfl | hz
    ·have hp := ih p (by simp)
     rcases YeP d r p ps q with ⟨rfl, hd⟩ | ⟨p', rfl⟩
     ·rfl
     ·unfold Ym2
      rw [hp, Bool.and_true]
      simp only [Bool.not_eq_true', Bool.and_eq_false_iff, beq_eq_false_iff_ne]
      by_cases h59 : c = 59
      ·exact .inr fun h => hc ⟨h59, h⟩
      ·exact .inl h59
    ·exact ih z (by simp [hz])
   ·rename_i q
    exact absurd q (Zo _)
theorem Ycg : ∀ (p : List Nat) (k : Nat), Ym2 p = true -> p[k]? = some 59 -> p[k + 1]? ≠ some 32
 | [], _, _, h => by simp at h
 | [c], k, _, h => by
  cases k with
  | zero => simp
  | succ k => simp at h
 | c :: d :: r, 0, hn, h => by
  unfold Ym2 at hn
  simp only [List.getElem?_cons_zero, Option.some.injEq] at h
  subst h
  simp only [Bool.and_eq_true, Bool.not_eq_true', Bool.and_eq_false_iff] at hn
  intro z
  simp only [List.getElem?_cons_succ, List.getElem?_cons_zero, Option.some.injEq] at z
  subst z
  exact absurd hn.1 (by simp)
 | c :: d :: r, k + 1, hn, h => by
  unfold Ym2 at hn
  rw [ZAb] at hn
  have := Ycg (d :: r) k hn.2 (by simpa using h)
  show 172
theorem YgE {X p t : List Nat} {a k : Nat} (hx : X.drop a = p ++ t) (hc : Ym2 p = true) (ht : t = [] \/ ∃ t', t = 59 :: t') (h1 : a <= k) (h2 : k < a + p.length) : ¬ StrLaws.At (sT X) (sT [59, 32]) (sT X).length k := fun h => by
 obtain ⟨h3, h4⟩ := at_sT.mp h
 have e : X.drop k = (p ++ t).drop (k - a) := by rw [<- hx, ZBQ]; congr 1; omega
 rw [e] at h4
 have g0 : (p ++ t)[k - a]? = some 59 := by
  have := ZAk (fun l => l[0]?) h4
  simpa [List.getElem?_take, List.getElem?_drop] using this
 have g1 : (p ++ t)[k - a + 1]? = some 32 := by
  have := ZAk (fun l => l[1]?) h4
  simpa [List.getElem?_take, List.getElem?_drop] using this
 rw [ZAl (by omega)] at g0
 by_cases hk : k - a + 1 < p.length
 ·rw [ZAl hk] at g1
  exact Ycg p _ hc g0 g1
 ·have hk' : k - a + 1 = p.length := by omega
  rw [hk', ZBI (ZAI _), Nat.sub_self] at g1
  rcases ht with rfl | ⟨t', rfl⟩
  ·simp at g1
  ·simp at g1
theorem Jk {X : List Nat} {f : Nat} : ∀ (ps : List (List Nat)) (a : Nat) (cuts : List Nat), ps ≠ [] -> (∀ p ∈ ps, Ym2 p = true) -> X.drop a = YlR [59, 32] ps -> a <= X.length -> StrLaws.ChainG (sT X) (sT [59, 32]) (sT X).length a cuts f -> (∀ k, f <= k -> ¬ StrLaws.At (sT X) (sT [59, 32]) (sT X).length k) ->
 StrLaws.partsFrom (sT X) (sT [59, 32]).length a cuts = ps.map sT
 | [], _, _, h, _, _, _, _, _ => absurd rfl h
 | [p], a, [], _, hc, hx, ha, hG, hn => by
  show [strSub (sT X) a (sT X).length] = [sT p]
  rw [YbP, hx, Yl]
  congr 2
  have := ZAk List.length hx
  simp only [List.length_drop] at this
  exact List.take_of_length_le (by show p.length <= _; unfold YlR at this; omega)
 | [p], a, d :: r, _, hc, hx, ha, hG, hn => by
  exfalso
  have hx' : X.drop a = p ++ [] := by rw [hx, ZAZ]; rfl
  obtain ⟨g1, g2⟩ := at_sT.mp hG.2.1
  have hl := ZAk List.length hx'
  simp only [List.length_drop, List.length_append, List.length_nil] at hl
  rw [ZAQ] at g1
  exact YgE hx' (hc p (ZA1.mpr rfl)) (.inl rfl) hG.1 (by omega) hG.2.1
 | p :: q :: r, a, cuts, _, hc, hx, ha, hG, hn => by
  have hx1 : X.drop a = p ++ ([59, 32] ++ YlR [59, 32] (q :: r)) := hx
  have hcp := hc p (ZAc ..)
  have hl := ZAk List.length hx1
  simp only [List.length_drop, List.length_append, List.length_cons, List.length_nil] at hl
  have hat : StrLaws.At (sT X) (sT [59, 32]) (sT X).length (a + p.length) := by
   rw [at_sT]
   refine ⟨by simp only [List.length_cons, List.length_nil]; omega, ?_⟩
   rw [<- ZBQ, hx1, ZBg, ZCF]
  match cuts, hG with
  | [], hG =>
   have e : f = a := hG
   exact absurd hat (hn _ (by omega))
  | d :: rest, hG =>
   obtain ⟨g1, g2, g3, g4⟩ := hG
   have hd : d = a + p.length := by
    rcases Nat.lt_trichotomy d (a + p.length) with h | h | h
    ·exact absurd g2 (YgE hx1 hcp (.inr ⟨_, rfl⟩) g1 h)
    ·exact h
    ·exact absurd hat (g3 _ (by omega) h)
   subst hd
   have hx2 : X.drop (a + p.length + (sT [59, 32]).length) = YlR [59, 32] (q :: r) := by
    rw [Yl, <- ZBQ, <- ZBQ, hx1, ZBg, ZBg]
   have ih := Jk (q :: r) (a + p.length + (sT [59, 32]).length) rest (by simp) (fun z hz => hc z (List.mem_cons_of_mem _ hz)) hx2 (by rw [Yl]; simp only [List.length_cons, List.length_nil]; omega) g4 hn
   show strSub (sT X) a (a + p.length) :: StrLaws.partsFrom (sT X) (sT [59, 32]).length (a + p.length + (sT [59, 32]).length) rest = _
   rw [ih, YbP, hx1, ZCT, ZCF]
   rfl
theorem YeN (X : List Nat) : Txt.split (sT X) (sT [59, 32]) = (YlW X).map sT := by
 obtain ⟨f, hG, hn⟩ := StrLaws.occ_tight (sT X) (sT [59, 32]) (by rw [Yl]; simp)
 have key := Jk (YlW X) 0 _ (Zo X) (YbG X) (by rw [ZCD, Z6]) (ZBb _) hG hn
 have hX := Z6 X
 unfold Txt.split
 split
 ·rename_i h
  rw [ZB8, decide_eq_true_eq, decide_eq_true_eq] at h
  rcases h with h | h
  ·cases q : YlW X with
   | nil => exact absurd q (Zo X)
   | cons p r =>
    cases r with
    | nil => rw [q] at hX; rw [<- hX]; rfl
    | cons p2 r =>
     rw [q] at hX
     rw [Yl, Yl, <- hX] at h
     unfold YlR at h
     simp only [List.length_append, List.length_cons, List.length_nil] at h
     omega
  ·rw [Yd1 (l := [59, 32]) (by decide)] at h
   unfold Builtin.Str.strKind at h
   split at h
   ·omega
   ·split at h <;> omega
 ·split
  ·rename_i he
   rw [List.isEmpty_iff.mp he] at key
   rw [<- key]
   show [_] = [strSub (sT X) 0 (sT X).length]
   rw [StrLaws.sub_whole]
  ·rw [ZCU]
   exact key
theorem Yg5 (X : List Nat) : Txt.split (sT X) (sT [61]) = (cutE X).map sT := by
 have := Ydq (c := 61) (y := []) (ZR X) (Yd7 X) (by decide)
 rw [WM] at this
 exact this
def aut (ss : List (List Nat)) (cur : List Nat) : List Nat -> Option (List (List Nat))
 | [] => some (ss ++ [cur])
 | [c] => if YlJ c = true then some (ss ++ [cur ++ [c]]) else if c = 61 /\ ss.length % 2 = 0 then some (ss ++ [cur] ++ [[]]) else none
 | c :: d :: r => if YlJ c = true then aut ss (cur ++ [c]) (d :: r) else if c = 61 /\ ss.length % 2 = 0 then aut (ss ++ [cur]) [] (d :: r) else if c = 59 /\ d = 32 /\ ss.length % 2 = 1 then aut (ss ++ [cur]) [] r else none
def gs : List (List Nat) -> Option (List (List Nat))
 | [] => some []
 | p :: ps => match cutE p with
  | [e, e2] => if (e.all YlJ && e2.all YlJ) = true then (gs ps).map (fun L => e :: e2 :: L) else none
  | _ => none
def gl (cur : List Nat) : List (List Nat) -> Option (List (List Nat))
 | [] => none
 | p :: ps => match cutE p with
  | [e, e2] => if (e.all YlJ && e2.all YlJ) = true then (gs ps).map (fun L => (cur ++ e) :: e2 :: L) else none
  | _ => none
def gr (cur : List Nat) : List (List Nat) -> Option (List (List Nat))
 | [] => none
 | p :: ps => match cutE p with
  | [e] => if e.all YlJ = true then (gs ps).map (fun L => (cur ++ e) :: L) else none
  | _ => none
def Yn5 : Option (List (List Nat)) -> Option (List (List Nat))
 | some L => if L.length % 2 = 1 then none else some L
 | none => none
theorem Yf4 {ps : List (List Nat)} (h : ps ≠ []) : gl [] ps = gs ps := by
 cases ps with
 | nil => exact absurd rfl h
 | cons p r => rfl
theorem Vs {c : Nat} {r : List Nat} (h : c ≠ 61) : ∃ e es, cutE r = e :: es /\ cutE (c :: r) = (c :: e) :: es := by
 cases q : cutE r with
 | nil => exact absurd q (ZR r)
 | cons e es => exact ⟨e, es, rfl, by simp [cutE, h, q]⟩
theorem Yec {r : List Nat} : cutE (61 :: r) = [] :: cutE r := by simp [cutE]
theorem YfW {c : Nat} (h : YlJ c = true) : c ≠ 61 /\ c ≠ 59 := by
 rw [isLet_iff] at h
 omega
theorem Ybu {o : Option (List (List Nat))} {ss : List (List Nat)} {x : List Nat} : (o.map (ss ++ [x] ++ ·)) = (o.map (x :: ·)).map (ss ++ ·) := by
 cases o <;> simp
theorem YfI {c : Nat} {p : List Nat} {ps : List (List Nat)} {cur : List Nat} (h : YlJ c = true) : gl cur ((c :: p) :: ps) = gl (cur ++ [c]) (p :: ps) := by
 obtain ⟨e, es, q1, q2⟩ := Vs (r := p) (YfW h).1
 unfold gl
 show 143
 rw [q1, q2]
 match es with
 | [] => rfl
 | [e2] => simp [h]
 | _ :: _ :: _ => rfl
theorem Yhj {c : Nat} {p : List Nat} {ps : List (List Nat)} {cur : List Nat} (h : YlJ c = true) : gr cur ((c :: p) :: ps) = gr (cur ++ [c]) (p :: ps) := by
 obtain ⟨e, es, q1, q2⟩ := Vs (r := p) (YfW h).1
 unfold gr
 show 143
 rw [q1, q2]
 match es with
 | [] => simp [h]
 | [e2] => rfl
 | _ :: _ :: _ => rfl
theorem Ygr {c : Nat} {p : List Nat} {ps : List (List Nat)} {cur : List Nat} (h : YlJ c = false) (h2 : c ≠ 61) : gl cur ((c :: p) :: ps) = none := by
 obtain ⟨e, es, q1, q2⟩ := Vs (r := p) h2
 unfold gl
 show 143
 rw [q2]
 match es with
 | [] => rfl
 | [e2] => simp [h]
 | _ :: _ :: _ => rfl
theorem Yg4 {c : Nat} {p : List Nat} {ps : List (List Nat)} {cur : List Nat} (h : YlJ c = false) (h2 : c ≠ 61) : gr cur ((c :: p) :: ps) = none := by
 obtain ⟨e, es, q1, q2⟩ := Vs (r := p) h2
 unfold gr
 show 143
 rw [q2]
 match es with
 | [] => simp [h]
 | [e2] => rfl
 | _ :: _ :: _ => rfl
theorem Yi5 {p : List Nat} {ps : List (List Nat)} {cur : List Nat} : gl cur ((61 :: p) :: ps) = (gr [] (p :: ps)).map (cur :: ·) := by
 unfold gl gr
 show 143
 rw [Yec]
 cases q : cutE p with
 | nil => exact absurd q (ZR p)
 | cons e es =>
  match es with
  | [] =>
   simp only [List.all_nil, Bool.true_and, List.append_nil, List.nil_append]
   split
   ·cases gs ps <;> rfl
   ·rfl
  | _ :: _ => rfl
theorem Yi6 {p : List Nat} {ps : List (List Nat)} {cur : List Nat} : gr cur ((61 :: p) :: ps) = none := by
 unfold gr
 show 143
 rw [Yec]
 cases q : cutE p with
 | nil => exact absurd q (ZR p)
 | cons e es => rfl
theorem gl_0 {ps : List (List Nat)} {cur : List Nat} : gl cur ([] :: ps) = none := rfl
theorem gr_0 {ps : List (List Nat)} {cur : List Nat} : gr cur ([] :: ps) = (gs ps).map (cur :: ·) := by
 unfold gr
 simp [cutE]
theorem WG {ss : List (List Nat)} {x : List Nat} : (ss ++ [x]).length = ss.length + 1 := by simp
theorem VP : ∀ (t : List Nat) (ss : List (List Nat)) (cur : List Nat), (ss.length % 2 = 0 -> Yn5 (aut ss cur t) = (gl cur (YlW t)).map (ss ++ ·)) /\ (ss.length % 2 = 1 -> Yn5 (aut ss cur t) = (gr cur (YlW t)).map (ss ++ ·))
 | [], ss, cur => by
  constructor
  ·intro h
   show (if (ss ++ [cur]).length % 2 = 1 then none else some (ss ++ [cur])) = none
   rw [WG, ZAE (by omega)]
  ·intro h
   show (if (ss ++ [cur]).length % 2 = 1 then none else some (ss ++ [cur])) = (gr cur [[]]).map (ss ++ ·)
   rw [WG, ZAF (by omega), gr_0]
   rfl
 | [c], ss, cur => by
  have ih := VP [] ss (cur ++ [c])
  have ih2 := VP [] (ss ++ [cur]) []
  show (_ -> Yn5 (if YlJ c = true then some (ss ++ [cur ++ [c]]) else if c = 61 /\ ss.length % 2 = 0 then some (ss ++ [cur] ++ [[]]) else none) = (gl cur [c :: []]).map (ss ++ ·)) /\ (_ -> Yn5 (if YlJ c = true then some (ss ++ [cur ++ [c]]) else if c = 61 /\ ss.length % 2 = 0 then some (ss ++ [cur] ++ [[]]) else none) = (gr cur [c :: []]).map (ss ++ ·))
  by_cases hc : YlJ c = true
  ·rw [ZAE hc, YfI hc, Yhj hc]
   exact ih
  ·have hc' : YlJ c = false := by simpa using hc
   rw [ZAF hc]
   by_cases h61 : c = 61
   ·subst h61
    rw [Yi5, Yi6]
    constructor
    ·intro h
     rw [ZAE ⟨rfl, h⟩, <- Ybu]
     exact ih2.2 (by rw [WG]; omega)
    ·intro h
     rw [ZAF (by omega)]
     rfl
   ·rw [ZAF (fun z => h61 z.1), Ygr hc' h61, Yg4 hc' h61]
    exact ⟨fun _ => rfl, fun _ => rfl⟩
 | c :: d :: r, ss, cur => by
  have ih := VP (d :: r) ss (cur ++ [c])
  have ih2 := VP (d :: r) (ss ++ [cur]) []
  have ih3 := VP r (ss ++ [cur]) []
  by_cases hsep : c = 59 /\ d = 32
  ·obtain ⟨rfl, rfl⟩ := hsep
   have e1 : YlW (59 :: 32 :: r) = [] :: YlW r := by simp [YlW]
   rw [e1, gl_0, gr_0]
   have hl : YlJ 59 = false := by decide
   constructor
   ·intro h
    have : aut ss cur (59 :: 32 :: r) = none := by
     unfold aut
     rw [if_neg (by rw [hl]; simp), if_neg (by omega), if_neg (by omega)]
    rw [this]; rfl
   ·intro h
    have : aut ss cur (59 :: 32 :: r) = aut (ss ++ [cur]) [] r := by
     conv => lhs; unfold aut
     rw [if_neg (by rw [hl]; simp), if_neg (by omega), if_pos ⟨rfl, rfl, h⟩]
    rw [this, ih3.1 (by rw [WG]; omega), Yf4 (Zo r), Ybu]
  ·have e1 : ∃ p ps, YlW (d :: r) = p :: ps /\ YlW (c :: d :: r) = (c :: p) :: ps := by
    cases q : YlW (d :: r) with
    | nil => exact absurd q (Zo _)
    | cons p ps =>
     refine ⟨p, ps, rfl, ?_⟩
     conv => lhs; unfold YlW
     rw [ZAF hsep, q]
   obtain ⟨p, ps, q1, q2⟩ := e1
   rw [q2]
   rw [q1] at ih ih2
   by_cases hc : YlJ c = true
   ·have : aut ss cur (c :: d :: r) = aut ss (cur ++ [c]) (d :: r) := by
     conv => lhs; unfold aut
     rw [ZAE hc]
    rw [this, YfI hc, Yhj hc]
    exact ih
   ·have hc' : YlJ c = false := by simpa using hc
    by_cases h61 : c = 61
    ·subst h61
     rw [Yi5, Yi6]
     constructor
     ·intro h
      have : aut ss cur (61 :: d :: r) = aut (ss ++ [cur]) [] (d :: r) := by
       conv => lhs; unfold aut
       rw [ZAF hc, ZAE ⟨rfl, h⟩]
      rw [this, <- Ybu]
      exact ih2.2 (by rw [WG]; omega)
     ·intro h
      have : aut ss cur (61 :: d :: r) = none := by
       unfold aut
       rw [ZAF hc, ZAF (by omega), ZAF (by omega)]
      rw [this]; rfl
    ·have : aut ss cur (c :: d :: r) = none := by
      unfold aut
      rw [ZAF hc, ZAF (fun z => h61 z.1), ZAF (fun z => hsep ⟨z.1, z.2.1⟩)]
     rw [this, Ygr hc' h61, Yg4 hc' h61]
     exact ⟨fun _ => rfl, fun _ => rfl⟩
theorem YiR (t : List Nat) : Yn5 (aut [] [] t) = gs (YlW t) := by
 rw [(VP t [] []).1 rfl, Yf4 (Zo t)]
 cases gs (YlW t) <;> simp
end G
namespace G
open PySem PySem.Spec L2 Mi
open PyProof.Rows hiding St
set_option hygiene false in
local macro_rules | `(tactic| walk_at "ev") => `(tactic| simp -implicitDefEqProofs (disch := first | omega | decide | (simp only [List.length_append, List.length_cons, List.length_nil, List.length_map]; omega)) only [Yif, Yet, Yhf, YhB, Yle, Yfu, YjM, Ygu, Yhk, YeY, YhG, Ygf, YhX, Yig, YgX, YeU, Yfd, Yc7, YgR, Yg8, Ygl, YfH, Ydf, Ybs, YbR, Int.cast_ofNat_Int, Int.reduceBEq, decide_true, decide_false, beq_self_eq_true, YhN, YfV, YdC, YdT, Yk8, YkG, YiM, Yk9, Ykc, Yjn, Yj6, YiN, Yh0, YiP, YgF, YhA, Yk6, YjO, YjA, Yhv, Yh5, YdQ, Ye3, Yjm, YhW, Z1, Ycu, x_eC, Ybv, YhM, YhL, Ygb, Yic, YjE, YiO, Yjz, YkR, Yjj, Yft, Yjv, YhU, YkA, YkN, YjK, YhS, YfG, x_eB, YjC, Yik, YjB, x_eM, Yk0, Yit, Yih, Yjo, YfL, YjZ, Yil, Yj4, YiS, Yi4, Yjk, Yjg, YjN, Yct, YgO, Yip, YgQ, YiY, Ykk, YeQ, YgU, Yhz, YfY, Yge, YeI, JM, YbN, Ygw, Yd3, Yjp, Zw, Yjw, Yhc, YcM, Ygs, Yiz, Mi.R.bind_ok, Mi.R.bind_exc, Mi.R.bind_bad, Mi.RS.ofE_ok, Mi.RS.ofE_exc, Mi.RS.ofE_bad, Mi.RS.seq_nx, Mi.RS.seq_rt, Mi.RS.seq_bk, Mi.RS.seq_ct, Mi.RS.seq_exc, Mi.RS.seq_bad, Vx, Yhs, List.map_cons, List.map_nil, List.length_cons, List.length_nil, List.cons_append, List.nil_append, List.append_nil, List.replicate_succ, List.replicate_zero, List.getElem?_cons_zero, List.getElem?_cons_succ, List.set_cons_zero, List.set_cons_succ, Nat.reduceSub, Nat.reduceAdd, Nat.reduceLeDiff, Nat.reduceEqDiff, reduceIte, Bool.false_eq_true, Option.join_some, Option.join_none, Option.bind_some, Nat.zero_add, Nat.add_zero, Nat.sub_self, Option.map_some, Option.map_none, List.isEmpty_nil, List.isEmpty_cons, Bool.not_true, Bool.not_false, Nat.zero_le, YjV, Bool.true_and, Bool.and_true])
theorem Yen {k : Nat} {ns : List Int} {st : YlA} (i : Nat) (h : st[k]? = some (.ro (ns.map P.int))) : Yq [.ref k, .int i] st = .ok (.int (ns.getD i 0)) st := by
 unfold Yq ZH
 simp only [YiY, List.map_cons, List.map_nil, YfL, Yi4, YhL, YhM, Ybv]
 simp [YfK h]
 by_cases hi : i < ns.length
 ·simp [hi]
  rw [Yid h (by omega) (p := .int ns[i]) (by simp [hi])]
  simp [hi]
 ·simp [hi]
abbrev Sys := List (List Nat × List Nat)
def YlX (e : List Nat × List Nat) : P := .tup [tx e.1, tx e.2]
def YlG (tb : Sys) : P := .tup (tb.map YlX)
def Yl2 (tb : Sys) : List Nat := tb.flatMap fun e => e.1 ++ e.2
theorem Yau {tb : Sys} {e : List Nat × List Nat} (h : e ∈ tb) : e.1.length + e.2.length <= (Yl2 tb).length := by
 unfold Yl2
 induction tb with
 | nil => cases h
 | cons a r ih =>
  rw [ZAz, ZAD, ZAD]
  rcases ZAT.mp h with rfl | h
  ·omega
  ·have := ih h; omega
theorem Z3 : ∀ {l m : List Nat}, l.Nodup -> (∀ x ∈ l, x ∈ m) -> l.length <= m.length
 | [], m, _, _ => ZBb _
 | a :: l, m, hn, h => by
  have ha : a ∈ m := h a (ZAc ..)
  have hn' := ZCW.mp hn
  have ih := Z3 (l := l) (m := m.erase a) hn'.2 fun x hx => by
   have e : x ≠ a := fun e => hn'.1 (by rw [<- e]; exact hx)
   exact (List.mem_erase_of_ne e).mpr (h x (ZAW _ hx))
  rw [List.length_erase_of_mem ha] at ih
  have : 0 < m.length := List.length_pos_of_mem ha
  rw [ZAQ]
  omega
theorem s_A : ("A" : Str) = sT [65] := by decide +kernel
theorem s_Z : ("Z" : Str) = sT [90] := by decide +kernel
theorem s_a : ("a" : Str) = sT [97] := by decide +kernel
theorem s_z : ("z" : Str) = sT [122] := by decide +kernel
theorem W5 {c : Nat} {st : YlA} : Yu [tx [c]] st = .ok (.bl (isUp c)) st := by
 unfold Yu Wb tx
 show 140
 rw [s_A, s_Z]
 simp only [VG]
 unfold isUp
 by_cases h : 65 <= c
 ·have e : decide (c < 65) = false := ZAN (by omega)
  rw [e, ZAR h]
  show 140
  by_cases h2 : c <= 90
  ·rw [ZAN (by omega : ¬ 90 < c), ZAR h2]; rfl
  ·rw [ZAR (by omega : 90 < c), ZAN h2]; rfl
 ·have e : decide (c < 65) = true := ZAR (by omega)
  rw [e, ZAN h]
  rfl
theorem Yiu {c : Nat} {st : YlA} : Zh [tx [c]] st = .ok (.bl (Ynf c)) st := by
 unfold Zh VU tx
 show 140
 rw [s_a, s_z]
 simp only [VG]
 unfold Ynf
 by_cases h : 97 <= c
 ·have e : decide (c < 97) = false := ZAN (by omega)
  rw [e, ZAR h]
  show 140
  by_cases h2 : c <= 122
  ·rw [ZAN (by omega : ¬ 122 < c), ZAR h2]; rfl
  ·rw [ZAR (by omega : 122 < c), ZAN h2]; rfl
 ·have e : decide (c < 97) = true := ZAR (by omega)
  rw [e, ZAN h]
  rfl
def glue (p : P) : P := match p with
 | .tup [.str a, .str b] => .str (a ++ b)
 | _ => .non
theorem Yat {tb : Sys} {st : YlA} (h : (Yl2 tb).length <= 1000) (h6 : tb.length <= 1000) : YH [YlG tb] st = .ok (tx (Yl2 tb)) st := by
 unfold YH Wd YlG
 simp only [ZJ]
 show 140
 have hc := Z2 (src := Ynr (tb.map YlX)) (g := Ymv 2 (YlS (YlC 0) (YlS (YlC 1) YmG))) (nt := Ymd) (me := YlB Yl6 (Ylz 0) (Ylz 1)) (ρ0 := [none, none]) (st := st) (xs := tb.map YlX) (fun _ => true) glue rfl (fun i hi => rfl)
  (by rw [ZAH]; omega) (fun p hp => by
   obtain ⟨e, he, rfl⟩ := ZAj.mp hp
   have := Yau he
   refine ⟨[some (tx e.1), some (tx e.2)], rfl, rfl, fun _ => ?_⟩
   show 140
   show R.ok (tx (e.1 ++ e.2)) st = .ok (.str (sT e.1 ++ sT e.2)) st
   rw [W9]
   rfl)
 rw [YbN] at hc
 show 38
 have e : ((tb.map YlX).filter fun _ => true).map glue = (tb.map fun e => e.1 ++ e.2).map tx := by
  rw [ZBp.mpr (by intros; rfl), ZAy, ZAy]
  refine List.map_congr_left fun e _ => ?_
  show P.str (sT e.1 ++ sT e.2) = tx (e.1 ++ e.2)
  rw [W9]
  rfl
 have e2 : (tb.map fun e => e.1 ++ e.2).flatten = Yl2 tb := by unfold Yl2; rw [List.flatMap_def]
 rw [e, Jd (by rw [e2]; omega), e2]
 rfl
def YoM (r : List Nat) : Prop := r.Pairwise (· < ·)
theorem Yh7 {a b : Nat} : leS (sT [a]) (sT [b]) = decide (a <= b) := by
 unfold leS
 rw [VG]
 by_cases h : a <= b
 ·rw [ZAR h, ZAN (by omega)]; rfl
 ·rw [ZAN h, ZAR (by omega)]; rfl
theorem YeZ (ls : List Nat) (hn : ls.Nodup) : ∃ r, YnM (ls.map fun c => sT [c]) = r.map (fun c => sT [c]) /\ YoM r /\ r.Perm ls := by
 have hp := List.mergeSort_perm ls (fun a b => decide (a <= b))
 have hs := List.pairwise_mergeSort (le := fun a b : Nat => decide (a <= b)) (fun a b c h1 h2 => by simp at *; omega) (fun a b => by simp; omega) ls
 refine ⟨ls.mergeSort (fun a b => decide (a <= b)), (Vy (hp.map _) ?_).symm, ?_, hp⟩
 ·rw [List.pairwise_map]
  exact hs.imp fun h => by rw [Yh7]; exact h
 ·have hn' : (ls.mergeSort (fun a b => decide (a <= b))).Nodup := hp.nodup_iff.mpr hn
  exact (hs.and hn').imp fun ⟨h1, h2⟩ => Nat.lt_of_le_of_ne (ZA3 h1) h2
theorem rising {ls : List Nat} {k : Nat} {st : YlA} (h : listAt st k = some (ls.map fun c => tx [c])) (hl : ls.length <= 1000) (ha : ∀ c ∈ ls, YlJ c = true) : ∃ r, ZY [.ref k] st = .ok (tx r) st /\ YoM r /\ ∀ c, c ∈ r ↔ c ∈ ls := by
 unfold ZY Yao
 simp only [ZJ]
 show 140
 have ho : ∀ x ∈ once (ls.map fun c => sT [c]), ∃ c, x = sT [c] /\ YlJ c = true := fun x hx => by
  obtain ⟨c, hc, rfl⟩ := ZAj.mp (mem_once.mp hx)
  exact ⟨c, rfl, ha c hc⟩
 obtain ⟨l0, e0, h0⟩ := YaB ho
 have hn : l0.Nodup := by
  have := YdH (ls.map fun c => sT [c])
  rw [e0] at this
  rw [List.nodup_iff_pairwise_ne, List.pairwise_map] at this
  exact this.imp fun h e => h (by rw [e])
 have hm : ∀ c, c ∈ l0 ↔ c ∈ ls := fun c => by
  have key : ∀ l : List Nat, c ∈ l ↔ sT [c] ∈ l.map fun c => sT [c] := fun l => by
   rw [ZAj]
   constructor
   ·intro h; exact ⟨c, h, rfl⟩
   ·rintro ⟨d, hd, e⟩
    have : [d] = [c] := sT_inj.mp e
    cases this
    exact hd
  rw [key l0, <- e0, mem_once, <- key ls]
 have h64 : l0.length < 64 := by
  have := Z3 (m := (List.range 26).map (65 + ·) ++ (List.range 26).map (97 + ·)) hn fun c hc => by
   have := isLet_iff.mp (h0 c hc)
   rw [ZAx, ZAj, ZAj]
   rcases this with h | h
   ·exact .inr ⟨c - 97, by simp; omega, by omega⟩
   ·exact .inl ⟨c - 65, by simp; omega, by omega⟩
  have e : ((List.range 26).map (65 + ·) ++ (List.range 26).map (97 + ·)).length = 52 := by decide
  omega
 obtain ⟨r, r1, r2, r3⟩ := YeZ l0 hn
 have hsort : YmS (Ylz 0) [some (.ref k)] st = .ok (r.map fun c => tx [c]) st := by
  unfold YmS
  show 140
  simp only [h]
  rw [JU]
  show 143
  have e1 : (ls.map fun c => [c]).map sT = ls.map fun c => sT [c] := by rw [ZAy]; rfl
  rw [e1, ZAE ⟨by rw [ZAH]; omega, by rw [e0, ZAH]; exact h64⟩, e0, r1, ZAy]
  rfl
 rw [hsort]
 show 140
 rw [Yds (by rw [r3.length_eq]; omega)]
 exact ⟨r, rfl, r2, fun c => by rw [r3.mem_iff, hm]⟩
def Yop (f : Nat -> Bool) (p : P) : Bool := match p with
 | .str x => f (x.cps.toList.headD 0)
 | _ => false
theorem Ycf (f : Nat -> Bool) (ls : List Nat) : ((ls.map fun c => tx [c]).filter (Yop f)).map id = (ls.filter f).map fun c => tx [c] := by
 rw [List.map_id, List.filter_map]
 congr 1
theorem YaU (l : List Nat) (st : YlA) : ∀ i, i <= (l.map fun c => tx [c]).length -> (Ynj (sT l)).nx i st = some (l.map fun c => tx [c])[i]? := fun i hi => by
 rw [Yd9 (by simpa using hi), Ygz, List.getElem?_map]
 rfl
theorem YfX {tb : Sys} {st : YlA} (h : (Yl2 tb).length <= 1000) (h6 : tb.length <= 1000) (ha : ∀ c ∈ Yl2 tb, YlJ c = true) : ∃ r st', Zk [YlG tb] st = .ok (tx r) st' /\ YlK st st' /\ YoM r /\ ∀ c, c ∈ r ↔ c ∈ Yl2 tb /\ isUp c = true := by
 unfold Zk Ve
 show 140
 rw [Yat h h6]
 show 140
 have hc := Z2 (src := Ynj (sT (Yl2 tb))) (g := YlC 0) (nt := YmK (YlQ 1 Yu (Yly (Ylz 0) YlD))) (me := Ylz 0) (ρ0 := [none]) (st := st) (xs := (Yl2 tb).map fun c => tx [c]) (Yop isUp) id (by simp) (YaU _ _)
  (by rw [ZAH]; omega) (fun p hp => by
   obtain ⟨c, hc, rfl⟩ := ZAj.mp hp
   refine ⟨[some (tx [c])], rfl, ?_, fun _ => rfl⟩
   show 140
   rw [W5]
   rfl)
 rw [YdT] at hc
 rw [hc, Ycf]
 show 140
 obtain ⟨r, r1, r2, r3⟩ := rising (ls := (Yl2 tb).filter isUp) (k := st.length) (st := st ++ [.lst (((Yl2 tb).filter isUp).map fun c => tx [c])]) (YE Yn) (ZAO (ZCf _ _) h) (fun c hc => ha c (ZCV.mp hc).1)
 rw [r1]
 show 140
 exact ⟨r, _, rfl, YlK.one, r2, fun c => by rw [r3, ZCV]⟩
theorem Ydf {c : Nat} {l : List Nat} {st : YlA} : inP (tx [c]) (tx l) st = some (.bl (decide (c ∈ l)), st) := by
 have := StrLaws.found_one (sT l) c
 show okP (.bl (!(Builtin.Str.occurrences (sT l) (sT [c]) 0 (sT l).length 1).isEmpty)) st = _
 have e : (!(Builtin.Str.occurrences (sT l) (sT [c]) 0 (sT l).length 1).isEmpty) = decide (c ∈ l) := this
 show 25
theorem mem_allL {tb : Sys} {c : Nat} : c ∈ Yl2 tb ↔ ∃ e ∈ tb, c ∈ e.1 \/ c ∈ e.2 := by
 unfold Yl2
 simp [List.mem_flatMap]
theorem YbY {l : List Nat} {st : YlA} (hl : l.length <= 1000) : YU [tx l] st = .ok (.bl (l.all YlJ)) st := by
 unfold YU WT
 show 140
 have hc := Z2 (src := Ynj (sT l)) (g := YlC 0) (nt := Ymd) (me := eOr (YlQ 1 Zh (Yly (Ylz 0) YlD)) (YlQ 1 Yu (Yly (Ylz 0) YlD))) (ρ0 := [none]) (st := st) (xs := l.map fun c => tx [c]) (fun _ => true) (fun p => P.bl (Yop YlJ p)) (by simp) (YaU _ _)
  (by rw [ZAH]; omega) (fun p hp => by
   obtain ⟨c, hc, rfl⟩ := ZAj.mp hp
   refine ⟨[some (tx [c])], rfl, rfl, fun _ => ?_⟩
   show 140
   rw [Yiu]
   show 140
   show (if Ynf c = true then _ else _) = R.ok (P.bl (YlJ c)) st
   unfold YlJ
   cases Ynf c with
   | true => rfl
   | false =>
    show 140
    rw [W5]
    rfl)
 rw [YdT] at hc
 show 38
 have e : ((l.map fun c => tx [c]).filter fun _ => true).map (fun p => P.bl (Yop YlJ p)) = l.map fun c => P.bl (YlJ c) := by
  rw [ZBp.mpr (by intros; rfl), ZAy]
  rfl
 rw [e, YbW]
 rfl
theorem Ycy {e : List Nat × List Nat} {st : YlA} (h1 : e.1.length <= 1000) (h2 : e.2.length <= 1000) (ha : ∀ c ∈ e.1 ++ e.2, YlJ c = true) : Ys [YlX e] st = .ok (.bl true) st := by
 have a1 : e.1.all YlJ = true := ZA7.mpr fun c hc => ha c (ZA4 _ hc)
 have a2 : e.2.all YlJ = true := ZA7.mpr fun c hc => ha c (ZAX _ hc)
 unfold Ys Y1 YlX
 show 140
 have hc := Z2 (src := Ynr [tx e.1, tx e.2]) (g := YlC 0) (nt := Ymd) (me := YlQ 1 YU (Yly (Ylz 0) YlD)) (ρ0 := [none]) (st := st) (xs := [tx e.1, tx e.2]) (fun _ => true) (fun _ => .bl true) rfl (fun i hi => rfl)
  (by simp) (fun p hp => by
   simp only [List.mem_cons, List.not_mem_nil, or_false] at hp
   refine ⟨[some p], rfl, rfl, fun _ => ?_⟩
   rcases hp with rfl | rfl
   ·show 140
    rw [YbY h1, a1]
    rfl
   ·show 140
    rw [YbY h2, a2]
    rfl)
 rw [YbN] at hc
 simp only [List.length_cons, List.length_nil] at hc
 rw [hc]
 rfl
structure YnO (tb : Sys) : Prop where
 ne : 1 <= tb.length
 six : tb.length <= 6
 most : (Yl2 tb).length <= 200
 all : ∀ c ∈ Yl2 tb, YlJ c = true
theorem YcN {tb : Sys} {st : YlA} (F : YnO tb) : YA [YlG tb] st = .ok (.bl true) st := by
 have h1 := F.ne
 have h6 := F.six
 have h40 := F.most
 unfold YA Wh YlG
 show 140
 rw [ZAH, ZAR (by omega : (1 : Int) <= (tb.length : Int))]
 show 140
 rw [ZAR (by omega : (tb.length : Int) <= 6)]
 show 140
 have hc := Z2 (src := Ynr (tb.map YlX)) (g := YlC 0) (nt := Ymd) (me := YlQ 1 Ys (Yly (Ylz 0) YlD)) (ρ0 := [none]) (st := st) (xs := tb.map YlX) (fun _ => true) (fun _ => .bl true) rfl (fun i hi => rfl)
  (by rw [ZAH]; omega) (fun p hp => by
   obtain ⟨e, he, rfl⟩ := ZAj.mp hp
   refine ⟨[some (YlX e)], rfl, rfl, fun _ => ?_⟩
   show 140
   have hm := Yau he
   rw [Ycy (by omega) (by omega) fun c hc => F.all c (mem_allL.mpr ⟨e, he, ZAx.mp hc⟩)]
   rfl)
 rw [YbN] at hc
 show 38
 have e : ((tb.map YlX).filter fun _ => true).map (fun _ => P.bl true) = tb.map fun _ => P.bl true := by
  rw [ZBp.mpr (by intros; rfl), ZAy]
  rfl
 rw [e, YbW (f := fun _ => true)]
 show 140
 rw [show tb.all (fun _ => true) = true by simp]
abbrev Spot := Nat × Nat × Nat × Nat
def Ymy (x : Spot) : P := .tup [tx [x.1], .int x.2.1, .int x.2.2.1, .int x.2.2.2]
def spL (a b : Nat) (l : List Nat) : List Spot := l.zipIdx.map fun p => (p.1, a, b, p.2)
def spE (p : (List Nat × List Nat) × Nat) : List Spot := spL p.2 0 p.1.1 ++ spL p.2 1 p.1.2
def spots (tb : Sys) : List Spot := tb.zipIdx.flatMap spE
theorem JF {a b : Nat} {l : List Nat} : (spL a b l).map (·.1) = l := by
 unfold spL
 rw [ZAy]
 show l.zipIdx.map (fun p => p.1) = l
 exact List.zipIdx_map_fst 0 l
theorem Yb8 {p : (List Nat × List Nat) × Nat} : (spE p).map (·.1) = p.1.1 ++ p.1.2 := by
 unfold spE
 rw [ZAf, JF, JF]
theorem WZ : ∀ (tb : Sys) (n : Nat), ((tb.zipIdx n).flatMap spE).map (·.1) = Yl2 tb
 | [], _ => rfl
 | e :: r, n => by
  rw [List.zipIdx_cons, ZAz, ZAf, Yb8, WZ r (n + 1)]
  unfold Yl2
  rw [ZAz]
theorem Ybl {tb : Sys} : (spots tb).map (·.1) = Yl2 tb := WZ tb 0
theorem V0 {tb : Sys} : (spots tb).length = (Yl2 tb).length := by rw [<- Ybl, ZAH]
theorem Zy {a b : Nat} {l : List Nat} : (spL a b l).length = l.length := by unfold spL; simp
theorem Yhy {l : List Nat} {a b : Nat} {acc : List Spot} {st : YlA} {v0 v3 v5 v6 v7 : Option P} (hl : acc.length + l.length <= 1000) :
 ∃ w6 w7, Ymi (Ynt (l.map fun c => tx [c])) (Ymv 2 (YlS (YlC 6) (YlS (YlC 7) YmG))) ZL l.length 0 [v0, some (.ref st.length), some (.int a), v3, some (.int b), v5, v6, v7] (st ++ [.lst (acc.map Ymy)]) =
  .nx [v0, some (.ref st.length), some (.int a), v3, some (.int b), v5, w6, w7] (st ++ [.lst ((acc ++ spL a b l).map Ymy)]) := by
 obtain ⟨ρ', s', e1, w6, w7, e2, e3⟩ := VE (src := Ynt (l.map fun c => tx [c])) (g := Ymv 2 (YlS (YlC 6) (YlS (YlC 7) YmG))) (m := ZL) (N := l.length) (ρ := [v0, some (.ref st.length), some (.int a), v3, some (.int b), v5, v6, v7]) (st := st ++ [.lst (acc.map Ymy)])
  l.zipIdx (fun p => .tup [.int p.2, tx [p.1]]) (fun i ρ s => ∃ w6 w7, ρ = [v0, some (.ref st.length), some (.int a), v3, some (.int b), v5, w6, w7] /\ s = st ++ [.lst ((acc ++ (spL a b l).take i).map Ymy)]) (by simp) (fun i ρ s hi _ => nxN (by simpa using hi)) ⟨v6, v7, rfl, by simp⟩ (fun i hi ρ s ⟨w6, w7, q1, q2⟩ => by
   show 176
   rw [List.length_zipIdx] at hi
   show 205
   unfold ZL
   show 140
   rw [show Ynd (.ref st.length) (st ++ [O.lst ((acc ++ (spL a b l).take i).map Ymy)]) = true by unfold Ynd; dsimp only; rw [Yn]]
   show 140
   rw [YcQ Yn (by rw [ZAH, ZAD, ZAm, Zy]; omega)]
   show 140
   refine ⟨_, _, rfl, _, _, rfl, ?_⟩
   have hz : (spL a b l)[i]? = some (l.zipIdx[i].1, a, b, l.zipIdx[i].2) := by unfold spL; rw [List.getElem?_map, List.getElem?_eq_getElem (by simpa using hi)]; rfl
   rw [ZA9, hz, <- ZAe, ZAf]
   simp [Ymy])
 rw [List.length_zipIdx, ZAo (by rw [Zy]; exact ZAI _)] at e3
 exact ⟨w6, w7, by rw [e1, e2, e3]⟩
theorem Ye7 {e : List Nat × List Nat} {a : Nat} {acc : List Spot} {st : YlA} {v0 v4 v5 v6 v7 : Option P} (hl : acc.length + (e.1.length + e.2.length) <= 1000) :
 ∃ w4 w5 w6 w7, ZQ [v0, some (.ref st.length), some (.int a), some (YlX e), v4, v5, v6, v7] (st ++ [.lst (acc.map Ymy)]) = .nx [v0, some (.ref st.length), some (.int a), some (YlX e), w4, w5, w6, w7] (st ++ [.lst ((acc ++ spE (e, a)).map Ymy)]) := by
 unfold ZQ YlX
 show 140
 have step : ∀ (l : List Nat) (b : Nat) (acc : List Spot) (w4 w5 w6 w7 : Option P), acc.length + l.length <= 1000 -> ∃ u6 u7, WC [v0, some (.ref st.length), some (.int a), some (.tup [tx e.1, tx e.2]), some (.int b), some (tx l), w6, w7] (st ++ [.lst (acc.map Ymy)]) =
  .nx [v0, some (.ref st.length), some (.int a), some (.tup [tx e.1, tx e.2]), some (.int b), some (tx l), u6, u7] (st ++ [.lst ((acc ++ spL a b l).map Ymy)]) := fun l b acc w4 w5 w6 w7 h => by
  obtain ⟨u6, u7, r⟩ := Yhy (l := l) (a := a) (b := b) (acc := acc) (st := st) (v0 := v0) (v3 := some (.tup [tx e.1, tx e.2])) (v5 := some (tx l)) (v6 := w6) (v7 := w7) h
  unfold WC
  show 140
  rw [ZAH, r]
  exact ⟨u6, u7, rfl⟩
 obtain ⟨x6, x7, r1⟩ := step e.1 0 acc v4 v5 v6 v7 (by omega)
 obtain ⟨y6, y7, r2⟩ := step e.2 1 (acc ++ spL a 0 e.1) v4 v5 x6 x7 (by rw [ZAD, Zy]; omega)
 refine ⟨some (.int ((1 : Nat) : Int)), some (tx e.2), y6, y7, ?_⟩
 rw [YcG (p := .tup [.int 0, tx e.1]) (q := .tup [.int 1, tx e.2]) rfl rfl rfl rfl r1 rfl r2]
 unfold spE
 rw [ZAe]
theorem Ygd {tb : Sys} {st : YlA} (hl : (Yl2 tb).length <= 1000) : Zi [YlG tb] st = .ok (.ref st.length) (st ++ [.lst ((spots tb).map Ymy)]) := by
 unfold Zi Vb YlG
 show 140
 obtain ⟨ρ', s', e1, w2, w3, w4, w5, w6, w7, e2, e3⟩ := VE (src := Ynt (tb.map YlX)) (g := Ymv 2 (YlS (YlC 2) (YlS (YlC 3) YmG))) (m := ZQ) (N := tb.length) (ρ := [some (.tup (tb.map YlX)), some (.ref st.length), none, none, none, none, none, none]) (st := st ++ [.lst []])
  tb.zipIdx (fun p => .tup [.int p.2, YlX p.1]) (fun i ρ s => ∃ w2 w3 w4 w5 w6 w7, ρ = [some (.tup (tb.map YlX)), some (.ref st.length), w2, w3, w4, w5, w6, w7] /\ s = st ++ [.lst (((tb.zipIdx.take i).flatMap spE).map Ymy)]) (by simp) (fun i ρ s hi _ => nxN (by simpa using hi)) ⟨none, none, none, none, none, none, rfl, by simp⟩ (fun i hi ρ s ⟨w2, w3, w4, w5, w6, w7, q1, q2⟩ => by
   show 176
   show 205
   have hz : tb.zipIdx.take (i + 1) = tb.zipIdx.take i ++ [tb.zipIdx[i]] := by rw [ZA9, ZAJ hi]; rfl
   have hsum : ((tb.zipIdx.take i).flatMap spE).length + (tb.zipIdx[i].1.1.length + tb.zipIdx[i].1.2.length) <= 1000 := by
    have h1 : ((tb.zipIdx.take (i + 1)).flatMap spE).length <= (spots tb).length := by
     unfold spots
     conv => rhs; rw [<- ZCg (i + 1) tb.zipIdx, ZBG, ZAD]
     omega
    rw [hz, ZBG, ZAD, ZAz, ZBj, ZAZ, V0] at h1
    have h2 : (spE tb.zipIdx[i]).length = tb.zipIdx[i].1.1.length + tb.zipIdx[i].1.2.length := by unfold spE; rw [List.length_append, Zy, Zy]
    omega
   obtain ⟨u4, u5, u6, u7, r⟩ := Ye7 (e := tb.zipIdx[i].1) (a := tb.zipIdx[i].2) (acc := (tb.zipIdx.take i).flatMap spE) (st := st) (v0 := some (.tup (tb.map YlX))) (v4 := w4) (v5 := w5) (v6 := w6) (v7 := w7) hsum
   refine ⟨_, _, r, _, _, _, _, _, _, rfl, ?_⟩
   rw [hz, ZBG, ZAz, ZBj, ZAZ])
 rw [ZAH, e1, e2, e3]
 show 140
 rw [List.length_zipIdx, List.take_of_length_le (by simp)]
 rfl
theorem YcJ {tb : Sys} {x : Spot} (h : x ∈ spots tb) : x.2.1 < tb.length /\ x.2.2.1 <= 1 /\ x.2.2.2 <= (Yl2 tb).length := by
 unfold spots at h
 obtain ⟨p, hp, hx⟩ := List.mem_flatMap.mp h
 obtain ⟨⟨e1, e2⟩, a⟩ := p
 have hz := ZCQ hp
 have hm := Yau (ZBM (show tb[a]? = some (e1, e2) by rw [ZAJ hz.1, <- hz.2]))
 unfold spE at hx
 rcases ZAx.mp hx with hx | hx
 ·unfold spL at hx
  obtain ⟨⟨c, j⟩, hj, rfl⟩ := ZAj.mp hx
  have := (ZCQ hj).1
  dsimp only at *
  omega
 ·unfold spL at hx
  obtain ⟨⟨c, j⟩, hj, rfl⟩ := ZAj.mp hx
  have := (ZCQ hj).1
  dsimp only at *
  omega
def thr (pre : List Nat) : List Spot -> Option Spot
 | [] => none
 | x :: r => if isUp x.1 = true /\ 2 < (pre ++ [x.1]).count x.1 then some x else thr (pre ++ [x.1]) r
theorem YdI {a b : List Spot} : ∀ {pre : List Nat}, thr pre (a ++ b) = match thr pre a with | some x => some x | none => thr (pre ++ a.map (·.1)) b := by
 induction a with
 | nil => intro pre; simp [thr]
 | cons x r ih =>
  intro pre
  rw [List.cons_append, thr, thr]
  by_cases z : isUp x.1 = true /\ 2 < (pre ++ [x.1]).count x.1
  ·rw [ZAE z, ZAE z]
  ·rw [ZAF z, ZAF z, ih, ZAV, ZAe]; rfl
theorem Yga {st : YlA} {n : Nat} {kvs : List (Key × P)} {l : List Nat} {v : P} (h : st[n]? = some (.dct kvs)) (hv : Ymq kvs (tkey l) = some v) : ixP (.ref n) (tx l) st = some (v, st) := by
 unfold ixP
 simp only [h, Yca, hv, Option.map_some]
theorem YgM {l : List Nat} (h : l.length <= 2000) : YmE (tx l) = true := by
 show decide ((sT l).length <= 2000) = true
 rw [Yl]
 exact ZAR h
theorem V3 {n : Nat} (h : n < 1000000) : YmE (.int n) = true := by
 show decide ((n : Int).natAbs < 1000000) = true
 exact ZAR (by omega)
def YoN (x : Spot) : Xc := ("Thrice", [("place", .int x.2.2.2), ("side", .int x.2.2.1), ("equation", .int x.2.1), ("unknown", tx [x.1])])
theorem YaM {tb : Sys} {st : YlA} (F : YnO tb) : ∃ st', YlK st st' /\ YF [YlG tb] st = match thr [] (spots tb) with
 | some x => .exc (YoN x) st'
 | none => .ok .non st' := by
 have h40 := F.most
 have h6 := F.six
 unfold YF Zs
 show 140
 rw [Ygd (by omega)]
 show 140
 generalize hsp : spots tb = sp
 have hsm : ∀ x ∈ sp, x.2.1 < 1000 /\ x.2.2.1 < 1000 /\ x.2.2.2 < 1000 := fun x hx => by
  have := YcJ (tb := tb) (x := x) (by rw [hsp]; exact hx)
  omega
 have hspl : sp.length <= 200 := by rw [<- hsp, V0]; exact h40
 have hs0 : ∀ kvs, (st ++ [O.dct kvs] ++ [O.lst (sp.map Ymy)])[st.length + 1]? = some (.lst (sp.map Ymy)) := fun kvs => by
  have : (st ++ [O.dct kvs]).length = st.length + 1 := by simp
  rw [<- this]
  exact Yn
 have hd0 : ∀ kvs, (st ++ [O.dct kvs] ++ [O.lst (sp.map Ymy)])[st.length]? = some (.dct kvs) := fun kvs => by
  rw [List.getElem?_append_left (by simp)]
  exact Yn
 have hG : ∀ kvs, YlK st (st ++ [O.dct kvs] ++ [O.lst (sp.map Ymy)]) := fun kvs => ⟨_, by rw [ZAe]⟩
 have hln : (st ++ [O.dct []]).length = st.length + 1 := by simp
 rw [hln, ZE (YE (hs0 []))]
 show 24
 have key := JJ (src := YmN (st.length + 1) sp.length) (g := Ymv 4 (YlS (YlC 2) (YlS (YlC 3) (YlS (YlC 4) (YlS (YlC 5) YmG))))) (m := Zf) sp.length
  (fun i ρ s => (∃ kvs w2 w3 w4 w5, ρ = [some (YlG tb), some (.ref st.length), w2, w3, w4, w5] /\ s = st ++ [O.dct kvs] ++ [O.lst (sp.map Ymy)] /\ (∀ c, Ymq kvs (tkey [c]) = if ((sp.take i).map (·.1)).count c = 0 then none else some (.int (((sp.take i).map (·.1)).count c))) /\ kvs.length <= i) /\ thr [] sp = thr ((sp.take i).map (·.1)) (sp.drop i))
  (fun r => match thr [] sp with | some x => ∃ ρ' s', r = .exc (YoN x) ρ' s' /\ YlK st s' | none => ∃ ρ' s', r = .nx ρ' s' /\ YlK st s')
  (fun i ρ s hi ⟨⟨kvs, w2, w3, w4, w5, q1, q2, q3, q4⟩, q5⟩ => by
   subst q1
   have hs := hs0 kvs
   have hd := hd0 kvs
   rw [<- q2] at hs hd
   have hb := hsm sp[i] (ZAs hi)
   have hdr : sp.drop i = sp[i] :: sp.drop (i + 1) := ZBs hi
   have et : sp.take (i + 1) = sp.take i ++ [sp[i]] := by rw [ZA9, ZAJ hi]; rfl
   generalize hxx : sp[i] = x at hb hdr et
   obtain ⟨c, a, b, j⟩ := x
   dsimp only at hb
   refine ⟨Ymy (c, a, b, j), _, by rw [Yb5 (YE hs), ZAa, ZAJ hi, hxx]; rfl, rfl, ?_⟩
   have etm : (sp.take (i + 1)).map (·.1) = (sp.take i).map (·.1) ++ [c] := by rw [et, ZAf]; rfl
   have hv := q3 c
   generalize hn : ((sp.take i).map (·.1)).count c = n at hv
   have hget : ∀ ρ : Rho, ρ[1]? = some (some (.ref st.length)) -> ρ[2]? = some (some (tx [c])) -> YoI (Ylz 1) (Ylz 2) (eC (.int 0)) ρ s = .ok (.int n) s := fun ρ h1 h2 => by
    rw [YkV (n := st.length) (kvs := kvs) (l := [c]) (z := .int 0) (by simp [h1]) (by simp [h2]) rfl hd, hv]
    by_cases z : n = 0
    ·rw [ZAE z, z]; rfl
    ·rw [ZAF z]; rfl
   unfold Zf
   show 140
   rw [hget _ rfl rfl]
   show 140
   rw [Yeu hd (by omega)]
   show 140
   generalize hk2 : YnC kvs (tkey [c]) (.int ((n : Int) + 1)) = kvs2
   have hs2 : s.set st.length (.dct kvs2) = st ++ [O.dct kvs2] ++ [O.lst (sp.map Ymy)] := by
    rw [q2, List.set_append_left _ _ (by simp), List.set_append_right _ _ (Nat.le_refl _)]
    simp
   rw [hs2, W5]
   have hd2 := hd0 kvs2
   have hval2 : ∀ d, Ymq kvs2 (tkey [d]) = if ((sp.take (i + 1)).map (·.1)).count d = 0 then none else some (.int (((sp.take (i + 1)).map (·.1)).count d)) := fun d => by
    rw [<- hk2, YgP, etm, List.count_append, List.count_singleton]
    by_cases z : c = d
    ·subst z
     rw [if_pos rfl, hn, if_neg (by simp)]
     simp
    ·have z2 : (c == d) = false := by rw [beq_eq_false_iff_ne]; exact z
     rw [if_neg (fun y => z (by simpa using tkey_inj.mp y)), z2, q3 d]
     simp
   have hlen2 : kvs2.length <= i + 1 := by
    rw [<- hk2, YiL]
    split <;> omega
   have hcc : ((sp.take (i + 1)).map (·.1)).count c = n + 1 := by rw [etm, List.count_append, hn]; simp
   have fin : ¬ (isUp c = true /\ 2 < n + 1) -> (∃ kvs w2 w3 w4 w5, [some (YlG tb), some (.ref st.length), some (tx [c]), some (.int a), some (.int b), some (.int j)] = [some (YlG tb), some (.ref st.length), w2, w3, w4, w5] /\ st ++ [O.dct kvs2] ++ [O.lst (sp.map Ymy)] = st ++ [O.dct kvs] ++ [O.lst (sp.map Ymy)] /\ (∀ c, Ymq kvs (tkey [c]) = if ((sp.take (i + 1)).map (·.1)).count c = 0 then none else some (.int (((sp.take (i + 1)).map (·.1)).count c))) /\ kvs.length <= i + 1) /\ thr [] sp = thr ((sp.take (i + 1)).map (·.1)) (sp.drop (i + 1)) := fun hno => by
    refine ⟨⟨kvs2, _, _, _, _, rfl, rfl, hval2, hlen2⟩, ?_⟩
    rw [q5, hdr, thr, ZAF (by rw [<- etm, hcc]; exact hno), etm]
   show 140
   cases hu : isUp c with
   | false =>
    show 140
    exact fin (by rw [hu]; simp)
   | true =>
    show 140
    have hv2 := hval2 c
    rw [hcc, ZAF (by omega)] at hv2
    rw [Yga hd2 hv2]
    show 140
    by_cases h3 : 2 < n + 1
    ·rw [ZAR (by omega : (2 : Int) < ((n + 1 : Nat) : Int))]
     show 140
     rw [if_pos ⟨trivial, by simp only [List.all_cons, List.all_nil, YgM (show [c].length <= 2000 by simp), V3 (show a < 1000000 by omega), V3 (show b < 1000000 by omega), V3 (show j < 1000000 by omega), Bool.and_self]⟩]
     show 140
     rw [q5, hdr, thr, ZAE (by rw [<- etm, hcc]; exact ⟨hu, h3⟩)]
     exact ⟨_, _, rfl, hG _⟩
    ·rw [ZAN (by omega : ¬ (2 : Int) < ((n + 1 : Nat) : Int))]
     show 140
     exact fin (fun z => h3 z.2))
  (fun ρ s ⟨⟨kvs, w2, w3, w4, w5, q1, q2, q3, q4⟩, q5⟩ => by
   have hs := hs0 kvs
   rw [<- q2] at hs
   refine ⟨by rw [Yb5 (YE hs), ZBB (by rw [ZAH]; exact ZAI _)], ?_⟩
   rw [q5, List.drop_length, thr]
   exact ⟨_, _, rfl, q2 ▸ hG kvs⟩)
  sp.length 0 [some (YlG tb), some (.ref st.length), none, none, none, none] (st ++ [O.dct []] ++ [O.lst (sp.map Ymy)]) (by omega) ⟨⟨[], none, none, none, none, rfl, rfl, fun c => by simp [Ymq], Nat.le_refl _⟩, by simp⟩
 cases q : thr [] sp with
 | some x =>
  rw [q] at key
  obtain ⟨ρ', s', e, g⟩ := key
  refine ⟨s', g, ?_⟩
  rw [e]
  show 140
 | none =>
  rw [q] at key
  obtain ⟨ρ', s', e, g⟩ := key
  refine ⟨s', g, ?_⟩
  rw [e]
  show 140
def up26 : List Nat := (List.range 26).map (65 + ·)
theorem Ykq : P.str "ABCDEFGHIJKLMNOPQRSTUVWXYZ" = tx up26 := ZAk P.str (by decide +kernel)
theorem YcB : ∀ c, c ∈ up26 ↔ isUp c = true := fun c => by
 rw [JY]
 unfold up26
 rw [ZAj]
 constructor
 ·rintro ⟨a, h, rfl⟩
  rw [ZBy] at h; omega
 ·intro h
  exact ⟨c - 65, ZBy.mpr (by omega), by omega⟩
def known (tb : Sys) : List Nat := up26.filter fun c => decide (c ∈ Yl2 tb)
theorem YcC (tb : Sys) : (known tb).Nodup := List.Pairwise.filter _ (by decide)
theorem known_mem {tb : Sys} {c : Nat} : c ∈ known tb ↔ isUp c = true /\ c ∈ Yl2 tb := by
 unfold known
 rw [List.mem_filter, YcB]; simp
theorem Ybi {tb : Sys} : (known tb).length <= 26 := by
 have := Z3 (m := up26) (YcC tb) fun x hx => (YcB x).mpr (known_mem.mp hx).1
 exact this
theorem Ych {a b : Int} {st : YlA} (h : a <= b) : Yw [.int a, .int b] st = .ok .non st := by
 unfold Yw Za
 show 140
 rw [ZAN (by omega)]
 show 140
def YoR (a b : Nat) : Xc := ("TooGreat", [("most", .int b), ("many", .int a)])
theorem Ybn {a b : Nat} {st : YlA} (h : b < a) (ha : a < 1000000) : Yw [.int a, .int b] st = .exc (YoR a b) st := by
 unfold Yw Za
 show 140
 rw [ZAR (by omega : (b : Int) < a)]
 show 140
 rw [if_pos ⟨trivial, by simp [YmE]; omega⟩]
 show 140
 rfl
def due5 (tb : Sys) : Option (Nat × Nat) := if 40 < (Yl2 tb).length then some ((Yl2 tb).length, 40) else if 6 < (known tb).length then some ((known tb).length, 6) else none
theorem check {tb : Sys} {st : YlA} (F : YnO tb) : ∃ st', YlK st st' /\ ZO [YlG tb] st = match thr [] (spots tb) with
 | some x => .exc (YoN x) st'
 | none => match due5 tb with
  | some (a, b) => .exc (YoR a b) st'
  | none => .ok .non st' := by
 obtain ⟨s1, g1, e1⟩ := YaM (st := st) F
 have hm := F.most
 have h6 := F.six
 unfold ZO YbZ
 show 140
 rw [YcN F]
 show 140
 rw [e1]
 cases q : thr [] (spots tb) with
 | some x =>
  show 9
  show 249
 | none =>
  show 9
  rw [Yat (by omega) (by omega)]
  show 140
  unfold due5
  by_cases h40 : 40 < (Yl2 tb).length
  ·rw [ZAE h40, show ((40 : Int)) = ((40 : Nat) : Int) from rfl, Ybn h40 (by omega)]
   show 83
  ·rw [ZAF h40, Ych (by omega)]
   show 140
   obtain ⟨r, s2, e2, g2, hr, hi⟩ := YfX (tb := tb) (st := s1) (by omega) (by omega) F.all
   show 49
   have hrn : r.Nodup := hr.imp fun h => ZAP h
   have hl : r.length = (known tb).length := Nat.le_antisymm (Z3 hrn fun x hx => known_mem.mpr ((hi x).mp hx).symm) (Z3 (YcC tb) fun x hx => (hi x).mpr (known_mem.mp hx).symm)
   have hk := Ybi (tb := tb)
   rw [Ycu (by omega), hl]
   show 140
   by_cases h7 : 6 < (known tb).length
   ·rw [ZAE h7, show ((6 : Int)) = ((6 : Nat) : Int) from rfl, Ybn h7 (by omega)]
    show 140
    show 250
   ·rw [ZAF h7, Ych (by omega)]
    show 140
    show 250
def Yox (x : Spot) : P := .tup [.str "thrice", tx [x.1], .int x.2.1, .int x.2.2.1, .int x.2.2.2]
theorem J6 {pre : List Nat} {c : Nat} (h : ∀ d, isUp d = true -> pre.count d <= 2) (hn : ¬ (isUp c = true /\ 2 < (pre ++ [c]).count c)) : ∀ d, isUp d = true -> (pre ++ [c]).count d <= 2 := fun d hd => by
 by_cases z : d = c
 ·subst z
  by_cases y : 2 < (pre ++ [d]).count d
  ·exact absurd ⟨hd, y⟩ hn
  ·omega
 ·rw [List.count_append, List.count_singleton, if_neg (by simpa using fun y => z (by first | exact y.symm | exact y))]
  exact h d hd
def Lies (tb : Sys) (a b : Nat) (l : List Nat) : Prop := ∃ e, tb[a]? = some e /\ [e.1, e.2][b]? = some l
theorem Yh3 {tb : Sys} {a b : Nat} {l : List Nat} {st : YlA} (h : Lies tb a b l) : ∃ q, ixP (YlG tb) (.int a) st = some (q, st) /\ ixP q (.int b) st = some (tx l, st) := by
 obtain ⟨e, h1, h2⟩ := h
 refine ⟨YlX e, Vm (by omega) (by rw [ZBE, ZAa, h1]; rfl), ?_⟩
 unfold YlX
 refine Vm (by omega) ?_
 rw [ZBE, show [tx e.1, tx e.2] = [e.1, e.2].map tx from rfl, ZAa, h2]
 rfl
theorem Yf9 {tb : Sys} {a b : Nat} {l pre : List Nat} {st : YlA} {v0 v4 v5 v7 : Option P} (h : Lies tb a b l) (hl : pre.length + l.length <= 1000) (hlt : ∀ c ∈ l, YlJ c = true) (h2 : ∀ c, isUp c = true -> pre.count c <= 2) :
 match thr pre (spL a b l) with
 | some x => ZM [v0, some (YlG tb), some (tx pre), some (.int a), some (.int b), v4, v5, v7] st = .rt (Yox x) st
 | none => ∃ w4 w5, ZM [v0, some (YlG tb), some (tx pre), some (.int a), some (.int b), v4, v5, v7] st = .nx [v0, some (YlG tb), some (tx (pre ++ l)), some (.int a), some (.int b), w4, w5, v7] st := by
 obtain ⟨q, hq1, hq2⟩ := Yh3 (st := st) h
 unfold ZM
 show 140
 rw [hq1]
 show 140
 rw [hq2]
 show 140
 have key := JJ (src := YmF 0 l.length) (g := YlC 5) (m := WF) l.length
  (fun i ρ s => (∃ w4 w5, ρ = [v0, some (YlG tb), some (tx (pre ++ l.take i)), some (.int a), some (.int b), w4, w5, v7]) /\ s = st /\ thr pre (spL a b l) = thr (pre ++ l.take i) ((spL a b l).drop i) /\ ∀ c, isUp c = true -> (pre ++ l.take i).count c <= 2)
  (fun r => match thr pre (spL a b l) with
   | some x => r = .rt (Yox x) st
   | none => ∃ w4 w5, r = .nx [v0, some (YlG tb), some (tx (pre ++ l)), some (.int a), some (.int b), w4, w5, v7] st)
  (fun i ρ s hi ⟨⟨w4, w5, q1⟩, q2, q3, q4⟩ => by
   show 176
   refine ⟨.int i, _, by simp only [Zw, if_pos hi]; rw [Int.zero_add], rfl, ?_⟩
   have hc := hlt l[i] (ZAs hi)
   have hdr : (spL a b l).drop i = (l[i], a, b, i) :: (spL a b l).drop (i + 1) := by
    rw [ZBs (by rw [Zy]; exact hi)]
    unfold spL
    simp
   have et : l.take (i + 1) = l.take i ++ [l[i]] := by rw [ZA9, ZAJ hi]; rfl
   obtain ⟨d, d1, d2⟩ := JB (l := l) (i := (i : Int)) (st := s) (by omega) (by omega) (by omega)
   rw [ZBE, ZAJ hi] at d1
   generalize hcc : l[i] = c at hc hdr et d1
   have hd : d = c := (Option.some.inj d1).symm
   rw [hd] at d2
   unfold WF
   show 140
   rw [hq1]
   show 140
   rw [hq2]
   show 140
   rw [d2]
   show 140
   rw [Z1 (by rw [ZAD, ZAm, ZAg]; omega)]
   show 140
   rw [Yeo (Yg7 hc)]
   show 140
   have hcc1 : (pre ++ l.take i ++ [c]).count c = (pre ++ l.take i).count c + 1 := by rw [List.count_append, List.count_singleton_self]
   cases hu : isUp c with
   | false =>
    show 140
    refine ⟨⟨some (.int i), some (tx [c]), ?_⟩, trivial, ?_, ?_⟩
    ·rw [et, ZAe]
    ·rw [q3, hdr, thr, if_neg (by rw [hu]; simp), et, List.append_assoc]
    ·rw [et, <- ZAe]
     exact J6 q4 (by rw [hu]; simp)
   | true =>
    show 140
    have hle := q4 c hu
    by_cases h3 : 2 < (pre ++ l.take i ++ [c]).count c
    ·rw [show (((pre ++ l.take i ++ [c]).count c : Nat) : Int) = 3 by omega]
     show 140
     rw [q3, hdr, thr, ZAE ⟨hu, h3⟩]
     rfl
    ·rw [show ((((pre ++ l.take i ++ [c]).count c : Nat) : Int) == 3) = false by rw [beq_eq_false_iff_ne]; omega]
     show 140
     refine ⟨⟨some (.int i), some (tx [c]), ?_⟩, trivial, ?_, ?_⟩
     ·rw [et, ZAe]
     ·rw [q3, hdr, thr, ZAF (fun z => h3 z.2), et, ZAe]
     ·rw [et, <- ZAe]
      exact J6 q4 (fun z => h3 z.2))
  (fun ρ s ⟨⟨w4, w5, q1⟩, q2, q3, q4⟩ => by
   show 176
   refine ⟨by simp only [Zw, if_neg (Nat.lt_irrefl _)], ?_⟩
   rw [q3, ZAv (by rw [Zy]; exact ZAI _), thr, ZBi]
   exact ⟨_, _, rfl⟩)
  l.length 0 [v0, some (YlG tb), some (tx pre), some (.int a), some (.int b), v4, v5, v7] st (by omega) ⟨⟨v4, v5, by simp⟩, rfl, by simp, by simpa using h2⟩
 exact key
theorem YbI : ∀ {sp : List Spot} {pre : List Nat}, thr pre sp = none -> (∀ c, isUp c = true -> pre.count c <= 2) -> ∀ c, isUp c = true -> (pre ++ sp.map (·.1)).count c <= 2
 | [], pre, _, h => by simpa using h
 | x :: r, pre, h, h2 => by
  rw [thr] at h
  by_cases z : isUp x.1 = true /\ 2 < (pre ++ [x.1]).count x.1
  ·rw [ZAE z] at h; cases h
  ·rw [ZAF z] at h
   have := YbI h (J6 h2 z)
   rw [ZAV]
   show 172
def orT : Option Spot -> Option Spot -> Option Spot
 | some x, _ => some x
 | none, b => b
theorem Yd0 {a b : List Spot} {pre : List Nat} : thr pre (a ++ b) = orT (thr pre a) (thr (pre ++ a.map (·.1)) b) := by
 rw [YdI]
 cases thr pre a <;> rfl
theorem YhT {tb : Sys} {a : Nat} {e : List Nat × List Nat} {pre : List Nat} {st : YlA} {v0 v3 v4 v5 v7 : Option P} (h : tb[a]? = some e) (hl : pre.length + (e.1.length + e.2.length) <= 1000) (hlt : ∀ c ∈ e.1 ++ e.2, YlJ c = true) (h2 : ∀ c, isUp c = true -> pre.count c <= 2) :
 match thr pre (spE (e, a)) with
 | some x => YO [v0, some (YlG tb), some (tx pre), some (.int a), v3, v4, v5, v7] st = .rt (Yox x) st
 | none => ∃ w3 w4 w5, YO [v0, some (YlG tb), some (tx pre), some (.int a), v3, v4, v5, v7] st = .nx [v0, some (YlG tb), some (tx (pre ++ (e.1 ++ e.2))), some (.int a), w3, w4, w5, v7] st := by
 unfold YO
 show 140
 rw [show (2 : Int).toNat = 2 from rfl]
 have k1 := Yf9 (tb := tb) (a := a) (b := 0) (l := e.1) (pre := pre) (st := st) (v0 := v0) (v4 := v4) (v5 := v5) (v7 := v7) ⟨e, h, rfl⟩ (by omega) (fun c hc => hlt c (ZA4 _ hc)) h2
 have n0 : (YmF 0 2).nx 0 st = some (some (.int ((0 : Nat) : Int))) := by simp [Zw]
 have n1 : (YmF 0 2).nx 1 st = some (some (.int ((1 : Nat) : Int))) := by simp [Zw]
 have n2 : (YmF 0 2).nx 2 st = some none := by simp [Zw]
 unfold spE
 rw [Yd0]
 cases q1 : thr pre (spL a 0 e.1) with
 | some x =>
  rw [q1] at k1
  dsimp only [orT] at k1 ⊢
  have g1 : YlC 4 (.int ((0 : Nat) : Int)) [v0, some (YlG tb), some (tx pre), some (.int a), v3, v4, v5, v7] st = some [v0, some (YlG tb), some (tx pre), some (.int a), some (.int ((0 : Nat) : Int)), v4, v5, v7] := rfl
  simp only [Ymi, n0, g1, k1]
 | none =>
  rw [q1] at k1
  obtain ⟨w4, w5, k1⟩ := k1
  dsimp only [orT]
  rw [JF]
  have k2 := Yf9 (tb := tb) (a := a) (b := 1) (l := e.2) (pre := pre ++ e.1) (st := st) (v0 := v0) (v4 := w4) (v5 := w5) (v7 := v7) ⟨e, h, rfl⟩ (by rw [ZAD]; omega) (fun c hc => hlt c (ZAX _ hc)) (by have := YbI q1 h2; rw [JF] at this; exact this)
  cases q2 : thr (pre ++ e.1) (spL a 1 e.2) with
  | some x =>
   rw [q2] at k2
   dsimp only at k2 ⊢
   have g1 : YlC 4 (.int ((0 : Nat) : Int)) [v0, some (YlG tb), some (tx pre), some (.int a), v3, v4, v5, v7] st = some [v0, some (YlG tb), some (tx pre), some (.int a), some (.int ((0 : Nat) : Int)), v4, v5, v7] := rfl
   have g2 : YlC 4 (.int ((1 : Nat) : Int)) [v0, some (YlG tb), some (tx (pre ++ e.1)), some (.int a), some (.int ((0 : Nat) : Int)), w4, w5, v7] st = some [v0, some (YlG tb), some (tx (pre ++ e.1)), some (.int a), some (.int ((1 : Nat) : Int)), w4, w5, v7] := rfl
   simp only [Ymi, n0, n1, g1, g2, k1, k2]
  | none =>
   rw [q2] at k2
   obtain ⟨u4, u5, k2⟩ := k2
   show 143
   refine ⟨some (.int ((1 : Nat) : Int)), u4, u5, ?_⟩
   rw [YcG n0 n1 n2 rfl k1 rfl k2, ZAe]
theorem Yf6 {tb : Sys} {st : YlA} {v0 : Option P} (F : YnO tb) : match thr [] (spots tb) with
 | some x => Ymi (YmF 0 tb.length) (YlC 3) YO tb.length 0 [v0, some (YlG tb), some (tx []), none, none, none, none, none] st = .rt (Yox x) st
 | none => ∃ w3 w4 w5 w6, Ymi (YmF 0 tb.length) (YlC 3) YO tb.length 0 [v0, some (YlG tb), some (tx []), none, none, none, none, none] st = .nx [v0, some (YlG tb), some (tx (Yl2 tb)), w3, w4, w5, w6, none] st := by
 have hm := F.most
 have h6 := F.six
 have hsl : ∀ i, ((tb.zipIdx.take i).flatMap spE).length <= 200 := fun i => by
  have h1 : ((tb.zipIdx.take i).flatMap spE).length <= (spots tb).length := by
   unfold spots
   conv => rhs; rw [<- ZCg i tb.zipIdx, ZBG, ZAD]
   omega
  rw [V0] at h1
  omega
 have key := JJ (src := YmF 0 tb.length) (g := YlC 3) (m := YO) tb.length
  (fun i ρ s => (∃ w2 w3 w4 w5, ρ = [v0, some (YlG tb), some (tx (((tb.zipIdx.take i).flatMap spE).map (·.1))), w2, w3, w4, w5, none]) /\ s = st /\ thr [] (spots tb) = thr (((tb.zipIdx.take i).flatMap spE).map (·.1)) ((tb.zipIdx.drop i).flatMap spE) /\ ∀ c, isUp c = true -> (((tb.zipIdx.take i).flatMap spE).map (·.1)).count c <= 2)
  (fun r => match thr [] (spots tb) with
   | some x => r = .rt (Yox x) st
   | none => ∃ w3 w4 w5 w6, r = .nx [v0, some (YlG tb), some (tx (Yl2 tb)), w3, w4, w5, w6, none] st)
  (fun i ρ s hi ⟨⟨w2, w3, w4, w5, q1⟩, q2, q3, q4⟩ => by
   show 176
   have hi' : i < tb.zipIdx.length := by simpa using hi
   have hzi : tb.zipIdx[i] = (tb[i], i) := by simp
   have hdr : tb.zipIdx.drop i = (tb[i], i) :: tb.zipIdx.drop (i + 1) := by rw [ZBs hi', hzi]
   have et : tb.zipIdx.take (i + 1) = tb.zipIdx.take i ++ [(tb[i], i)] := by rw [ZA9, ZAJ hi', hzi]; rfl
   refine ⟨.int i, _, by simp only [Zw, if_pos hi]; rw [Int.zero_add], rfl, ?_⟩
   have hs1 := hsl (i + 1)
   rw [et, ZBG, ZAD, ZAz, ZBj, ZAZ] at hs1
   have hse : (spE (tb[i], i)).length = tb[i].1.length + tb[i].2.length := by unfold spE; rw [List.length_append, Zy, Zy]
   have k := YhT (tb := tb) (a := i) (e := tb[i]) (pre := ((tb.zipIdx.take i).flatMap spE).map (·.1)) (st := s) (v0 := v0) (v3 := w3) (v4 := w4) (v5 := w5) (v7 := none) (by simp [hi]) (by rw [List.length_map]; omega) (fun c hc => F.all c (by rw [mem_allL]; exact ⟨tb[i], List.getElem_mem hi, List.mem_append.mp hc⟩)) q4
   have hth : thr [] (spots tb) = orT (thr (((tb.zipIdx.take i).flatMap spE).map (·.1)) (spE (tb[i], i))) (thr (((tb.zipIdx.take (i + 1)).flatMap spE).map (·.1)) ((tb.zipIdx.drop (i + 1)).flatMap spE)) := by
    rw [q3, hdr, ZAz, Yd0, et, ZBG, ZAf, ZAz, ZBj, ZAZ]
   show match YO [v0, some (YlG tb), some (tx (((tb.zipIdx.take i).flatMap spE).map (·.1))), some (.int i), w3, w4, w5, none] s with | .nx ρ' st' => _ | .ct ρ' st' => _ | .bk ρ' st' => _ | r => _
   cases q : thr (((tb.zipIdx.take i).flatMap spE).map (·.1)) (spE (tb[i], i)) with
   | some x =>
    rw [q] at k hth
    dsimp only [orT] at k hth
    rw [k, hth]
   | none =>
    rw [q] at k hth
    dsimp only [orT] at hth
    obtain ⟨u3, u4, u5, k⟩ := k
    rw [k]
    have e3 : ((tb.zipIdx.take (i + 1)).flatMap spE).map (·.1) = ((tb.zipIdx.take i).flatMap spE).map (·.1) ++ (tb[i].1 ++ tb[i].2) := by
     rw [et, ZBG, ZAf, ZAz, ZBj, ZAZ, Yb8]
    refine ⟨⟨some (.int i), u3, u4, u5, by rw [e3]⟩, rfl, hth, ?_⟩
    rw [e3]
    have := YbI q q4
    rw [Yb8] at this
    exact this)
  (fun ρ s ⟨⟨w2, w3, w4, w5, q1⟩, q2, q3, q4⟩ => by
   show 176
   refine ⟨by simp only [Zw, if_neg (Nat.lt_irrefl _)], ?_⟩
   rw [q3, List.drop_of_length_le (by simp), List.flatMap_nil, thr, List.take_of_length_le (by simp)]
   have : ((tb.zipIdx.flatMap spE).map (·.1)) = Yl2 tb := Ybl
   rw [this]
   exact ⟨_, _, _, _, rfl⟩)
  tb.length 0 [v0, some (YlG tb), some (tx []), none, none, none, none, none] st (by omega) ⟨⟨none, none, none, none, by simp⟩, rfl, by simp [spots], by simp⟩
 exact key
theorem s_eq : P.str "=" = tx [61] := ZAk P.str (by decide +kernel)
theorem s_sc : P.str "; " = tx [59, 32] := ZAk P.str (by decide +kernel)
theorem Yfn : ∀ c, c < 128 -> Txt.isalpha (sT [c]) = YlJ c := by decide +kernel
theorem Yia {c : Nat} {st : YlA} (h : c < 128) : Yny (tx [c]) [] st = some (.bl (YlJ c), st) := by
 show okP (.bl (Txt.isalpha (sT [c]))) st = _
 rw [Yfn c h]
 rfl
theorem Ycq {n : Nat} (h : 0 < n) : ixN n (-1) = some (n - 1) := by
 unfold ixN
 rw [ZAF (by omega), ZAE (by omega)]
 congr 1
 omega
theorem Ybo {k : Nat} {xs : List P} {x : P} {st : YlA} (hk : st[k]? = some (.lst (xs ++ [x]))) : ixP (.ref k) (.int (-1)) st = some (x, st) := by
 unfold ixP
 simp only [hk]
 show (atI (xs ++ [x]) (-1)).map (fun p => (p, st)) = _
 unfold atI
 rw [Ycq (by simp)]
 simp
theorem Ydd {k : Nat} {xs : List P} {x v : P} {st : YlA} (hk : st[k]? = some (.lst (xs ++ [x]))) : YnB (.ref k) (.int (-1)) v st = some (st.set k (.lst (xs ++ [v]))) := by
 unfold YnB
 simp only [hk, Ycq (show 0 < (xs ++ [x]).length by simp)]
 simp
theorem Yh9 {t : List Nat} {i : Nat} {ss : List (List Nat)} {cur : List Nat} {st : YlA} {c : Nat} {r : List Nat} (hr : t.drop i = c :: r) (ht : t.length <= 500) (ha : ∀ c ∈ t, c < 128) (hs : ss.length <= 1000) (hc : cur.length <= 1000) :
 Yj [some (tx t), some (.ref st.length), some (.int i)] (st ++ [.lst ((ss ++ [cur]).map tx)]) =
  if YlJ c = true then .nx [some (tx t), some (.ref st.length), some (.int ((i : Int) + 1))] (st ++ [.lst ((ss ++ [cur ++ [c]]).map tx)])
  else if c = 61 /\ ss.length % 2 = 0 then .nx [some (tx t), some (.ref st.length), some (.int ((i : Int) + 1))] (st ++ [.lst ((ss ++ [cur] ++ [[]]).map tx)])
  else if c = 59 /\ r.head? = some 32 /\ ss.length % 2 = 1 then .nx [some (tx t), some (.ref st.length), some (.int ((i : Int) + 1 + 1))] (st ++ [.lst ((ss ++ [cur] ++ [[]]).map tx)])
  else .rt .non (st ++ [.lst ((ss ++ [cur]).map tx)]) := by
 have hi : i < t.length := by
  by_cases h : i < t.length
  ·exact h
  ·rw [ZAv (by omega)] at hr; cases hr
 have hti : t[i]? = some c := by
  have := ZAk (fun l => l[0]?) hr
  simpa [List.getElem?_drop] using this
 have hcm : c < 128 := ha c (ZBM hti)
 obtain ⟨d, d1, d2⟩ := JB (l := t) (i := (i : Int)) (st := st ++ [.lst ((ss ++ [cur]).map tx)]) (by omega) (by omega) (by omega)
 rw [ZBE, hti] at d1
 have hd : d = c := (Option.some.inj d1).symm
 rw [hd] at d2
 have hl : (st ++ [O.lst ((ss ++ [cur]).map tx)])[st.length]? = some (.lst (ss.map tx ++ [tx cur])) := by rw [Yn, ZAf]; rfl
 have hll : (st ++ [O.lst ((ss ++ [cur]).map tx)])[st.length]? = some (.lst ((ss ++ [cur]).map tx)) := Yn
 have hset : ∀ o, (st ++ [O.lst ((ss ++ [cur]).map tx)]).set st.length o = st ++ [o] := fun o => by simp
 unfold Yj
 simp only [s_eq, s_sc, ZJ]
 show 140
 rw [d2]
 show 140
 rw [Yia hcm]
 show 140
 cases hu : YlJ c with
 | true =>
  show 140
  rw [Ybo hl]
  show 140
  rw [d2]
  show 140
  rw [Ydd hl]
  show 140
  rw [hset, ZAf]
  rfl
 | false =>
  show 140
  rw [d2]
  show 140
  have hlen : Yl5 [.ref st.length] (st ++ [O.lst ((ss ++ [cur]).map tx)]) = some (.int ((ss.length + 1 : Nat) : Int), st ++ [O.lst ((ss ++ [cur]).map tx)]) := by
   rw [ZB hll]; simp
  have hsl : slP (tx t) (some (i : Int)) (some ((i : Int) + 2)) (st ++ [O.lst ((ss ++ [cur]).map tx)]) = some (tx ((c :: r).take 2), st ++ [O.lst ((ss ++ [cur]).map tx)]) := by
   have := Ygi (l := t) (a := i) (b := i + 2) (st := st ++ [O.lst ((ss ++ [cur]).map tx)]) (by omega) (by omega)
   rw [show ((i : Int) + 2) = ((i + 2 : Nat) : Int) by omega, this, hr, show i + 2 - i = 2 by omega]
  have hap : YmH (.ref st.length) [.str (sT [])] (st ++ [O.lst ((ss ++ [cur]).map tx)]) = some (.non, st ++ [O.lst ((ss ++ [cur] ++ [[]]).map tx)]) := by
   rw [YcQ hll (by rw [ZAH, ZAD, ZAg]; omega), hset, ZAf (l₂ := [[]])]
   rfl
  have hil := Vz hll
  have last : ¬ (c = 59 /\ r.head? = some 32 /\ ss.length % 2 = 1) -> (c = 59 /\ r.head? = some 32 -> ss.length % 2 = 0) := fun h z => by
   by_cases y : ss.length % 2 = 1
   ·exact absurd ⟨z.1, z.2, y⟩ h
   ·omega
  have htk : ((c :: r).take 2 = [59, 32]) ↔ (c = 59 /\ r.head? = some 32) := by
   cases r with
   | nil => simp
   | cons d r => simp
  by_cases h61 : c = 61
  ·subst h61
   rw [ZAR (by rfl)]
   show 140
   rw [hlen]
   show 140
   by_cases hp : ss.length % 2 = 0
   ·rw [show ((((ss.length + 1 : Nat) : Int) % 2) == 1) = true by simp; omega]
    show 140
    rw [hil]
    show 140
    rw [hap]
    show 140
    rw [ZAE ⟨trivial, hp⟩]
   ·rw [show ((((ss.length + 1 : Nat) : Int) % 2) == 1) = false by simp; omega]
    show 140
    rw [hsl]
    show 140
    rw [ZAN (by rw [htk]; exact fun z => absurd z.1 (by decide))]
    show 140
    rw [ZAF (fun z => hp z.2), ZAF (fun z => absurd z.1 (by decide))]
  ·rw [decide_eq_false (by simpa using h61)]
   show 140
   rw [hsl]
   show 140
   by_cases h59 : c = 59 /\ r.head? = some 32
   ·rw [ZAR (htk.mpr h59)]
    show 140
    rw [hlen]
    show 140
    by_cases hp : ss.length % 2 = 1
    ·rw [show ((((ss.length + 1 : Nat) : Int) % 2) == 0) = true by simp; omega]
     show 140
     rw [hil]
     show 140
     rw [hap]
     show 140
     rw [ZAF (fun z => h61 z.1), ZAE ⟨h59.1, h59.2, hp⟩]
    ·rw [show ((((ss.length + 1 : Nat) : Int) % 2) == 0) = false by simp; omega]
     show 140
     rw [ZAF (fun z => h61 z.1), ZAF (fun z => hp z.2.2)]
   ·rw [ZAN (fun z => h59 (htk.mp z))]
    show 140
    rw [ZAF (fun z => h61 z.1), ZAF (fun z => h59 ⟨z.1, z.2.1⟩)]
theorem JC {t : List Nat} {st : YlA} (ht : t.length <= 500) (ha : ∀ c ∈ t, c < 128) : ∀ (n : Nat) (r : List Nat) (i : Nat) (ss : List (List Nat)) (cur : List Nat), r.length < n -> t.drop i = r -> ss.length + r.length <= 1000 -> cur.length + r.length <= 1000 -> i <= t.length ->
 (match aut ss cur r with
 | some L => ∃ ρ', Ymj (Yl3 (YlB ltP (Ylz 2) (eB Yl5 (Yly (Ylz 0) YlD)))) Yj n [some (tx t), some (.ref st.length), some (.int i)] (st ++ [.lst ((ss ++ [cur]).map tx)]) = .nx [some (tx t), some (.ref st.length), ρ'] (st ++ [.lst (L.map tx)])
 | none => ∃ s', Ymj (Yl3 (YlB ltP (Ylz 2) (eB Yl5 (Yly (Ylz 0) YlD)))) Yj n [some (tx t), some (.ref st.length), some (.int i)] (st ++ [.lst ((ss ++ [cur]).map tx)]) = .rt .non s' /\ YlK st s')
 | 0, r, i, ss, cur, h, _, _, _, _ => by omega
 | n + 1, [], i, ss, cur, h, hd, h1, h2, hi => by
  have hlen : t.length <= i := by
   have := ZAk List.length hd
   simp at this
   omega
  have e : aut ss cur [] = some (ss ++ [cur]) := by unfold aut; rfl
  rw [e]
  refine ⟨some (.int i), ?_⟩
  unfold Ymj
  show 140
  rw [ZAN (by omega)]
  show 140
 | n + 1, c :: r, i, ss, cur, h, hd, h1, h2, hi => by
  have hil : i < t.length := by
   by_cases z : i < t.length
   ·exact z
   ·rw [ZAv (by omega)] at hd; cases hd
  have hd1 : t.drop (i + 1) = r := by
   have := ZAk (List.drop 1) hd
   simpa [List.drop_drop] using this
  rw [ZAQ] at h h1 h2
  have hw : ∀ s, Ymj (Yl3 (YlB ltP (Ylz 2) (eB Yl5 (Yly (Ylz 0) YlD)))) Yj (n + 1) [some (tx t), some (.ref st.length), some (.int i)] s = (match Yj [some (tx t), some (.ref st.length), some (.int i)] s with
   | .nx ρ' st' => Ymj (Yl3 (YlB ltP (Ylz 2) (eB Yl5 (Yly (Ylz 0) YlD)))) Yj n ρ' st'
   | .ct ρ' st' => Ymj (Yl3 (YlB ltP (Ylz 2) (eB Yl5 (Yly (Ylz 0) YlD)))) Yj n ρ' st'
   | .bk ρ' st' => .nx ρ' st'
   | r => r) := fun s => by
   conv => lhs; unfold Ymj
   show 140
   rw [ZAR (by omega)]
   show 140
   all_goals rfl
  rw [hw, Yh9 hd ht ha (by omega) (by omega)]
  have k1 := JC (st := st) ht ha n r (i + 1) ss (cur ++ [c]) (by omega) hd1 (by omega) (by rw [ZAD, ZAg]; omega) (by omega)
  have k2 := JC (st := st) ht ha n r (i + 1) (ss ++ [cur]) [] (by omega) hd1 (by rw [List.length_append, List.length_singleton]; omega) (by simp; omega) (by omega)
  rw [show (((i + 1 : Nat)) : Int) = (i : Int) + 1 by omega] at k1 k2
  by_cases hc : YlJ c = true
  ·have e : aut ss cur (c :: r) = aut ss (cur ++ [c]) r := by
    cases r with
    | nil => simp [aut, hc]
    | cons d r => conv => lhs; unfold aut
                  rw [ZAE hc]
   rw [e, ZAE hc]
   exact k1
  ·by_cases h61 : c = 61 /\ ss.length % 2 = 0
   ·have e : aut ss cur (c :: r) = aut (ss ++ [cur]) [] r := by
     cases r with
     | nil =>
      unfold aut
      rw [ZAF hc, ZAE h61]
     | cons d r => conv => lhs; unfold aut
                   rw [ZAF hc, ZAE h61]
    rw [e, ZAF hc, ZAE h61]
    exact k2
   ·by_cases h59 : c = 59 /\ r.head? = some 32 /\ ss.length % 2 = 1
    ·cases r with
     | nil => simp at h59
     | cons d r =>
      have hd' : d = 32 := by simpa using h59.2.1
      have e : aut ss cur (c :: d :: r) = aut (ss ++ [cur]) [] r := by
       conv => lhs; unfold aut
       rw [ZAF hc, ZAF h61, ZAE ⟨h59.1, hd', h59.2.2⟩]
      have hd2 : t.drop (i + 1 + 1) = r := by
       have := ZAk (List.drop 1) hd1
       simpa [List.drop_drop] using this
      have hl2 := ZAk List.length hd1
      rw [ZAr, ZAQ] at hl2
      rw [ZAQ] at h h1 h2
      have k3 := JC (st := st) ht ha n r (i + 1 + 1) (ss ++ [cur]) [] (by omega) hd2 (by rw [List.length_append, List.length_singleton]; omega) (by simp; omega) (by omega)
      rw [show (((i + 1 + 1 : Nat)) : Int) = (i : Int) + 1 + 1 by omega] at k3
      rw [e, ZAF hc, ZAF h61, ZAE h59]
      exact k3
    ·have e : aut ss cur (c :: r) = none := by
      cases r with
      | nil => simp [aut, hc, h61]
      | cons d r =>
       unfold aut
       rw [if_neg hc, if_neg h61, if_neg (fun z => h59 ⟨z.1, by simp [z.2.1], z.2.2⟩)]
     rw [e, ZAF hc, ZAF h61, ZAF h59]
     exact ⟨_, rfl, YlK.one⟩
def pairs : List (List Nat) -> Sys
 | a :: b :: r => (a, b) :: pairs r
 | _ => []
theorem WN : ∀ L : List (List Nat), L.length % 2 = 0 -> 2 * (pairs L).length = L.length
 | [], _ => rfl
 | [a], h => by simp at h
 | a :: b :: r, h => by
  have := WN r (by simp at h; omega)
  unfold pairs
  rw [ZAQ, ZAQ, ZAQ]
  omega
theorem Yal : ∀ (L : List (List Nat)) (i : Nat), L.length % 2 = 0 -> i < (pairs L).length -> L[2 * i]? = some ((pairs L)[i]?.getD ([], [])).1 /\ L[2 * i + 1]? = some ((pairs L)[i]?.getD ([], [])).2
 | [], i, _, h => by simp [pairs] at h
 | [a], i, h, _ => by simp at h
 | a :: b :: r, 0, h, _ => by simp [pairs]
 | a :: b :: r, i + 1, h, hi => by
  have := Yal r i (by simp at h; omega) (by simp [pairs] at hi; exact hi)
  simp only [pairs, List.getElem?_cons_succ]
  rw [show 2 * (i + 1) = 2 * i + 1 + 1 by omega]
  show 172
def wrt (t : List Nat) : Option Sys := match gs (YlW t) with
 | some L => if L.length <= 12 then some (pairs L) else none
 | none => none
theorem equations {t : List Nat} {st : YlA} (ht : t.length <= 500) (ha : ∀ c ∈ t, c < 128) : ∃ st', YlK st st' /\ YD [tx t] st = .ok (match wrt t with | some tb => YlG tb | none => .non) st' := by
 have k := JC (st := st) ht ha turns t 0 [] [] (by show t.length < 1000000; omega) (by simp) (by simp; omega) (by simp; omega) (by omega)
 have ev := YiR t
 unfold YD Zg
 simp only [ZJ]
 show 140
 unfold Yom
 have e0 : (st ++ [O.lst [P.str (sT [])]]) = st ++ [O.lst (([] ++ [[]] : List (List Nat)).map tx)] := rfl
 rw [e0]
 unfold wrt
 cases q : aut [] [] t with
 | none =>
  rw [q] at k ev
  obtain ⟨s', k, g⟩ := k
  have k' : Ymj (Yl3 (YlB ltP (Ylz 2) (eB Yl5 (Yly (Ylz 0) YlD)))) Yj turns [some (tx t), some (.ref st.length), some (.int 0)] (st ++ [O.lst (([] ++ [[]] : List (List Nat)).map tx)]) = _ := k
  rw [k']
  show 140
  rw [<- ev]
  exact ⟨s', g, rfl⟩
 | some L =>
  rw [q] at k ev
  obtain ⟨ρ', k⟩ := k
  have k' : Ymj (Yl3 (YlB ltP (Ylz 2) (eB Yl5 (Yly (Ylz 0) YlD)))) Yj turns [some (tx t), some (.ref st.length), some (.int 0)] (st ++ [O.lst (([] ++ [[]] : List (List Nat)).map tx)]) = _ := k
  rw [k']
  have hl : (st ++ [O.lst (L.map tx)])[st.length]? = some (.lst (L.map tx)) := Yn
  show 140
  rw [ZB hl, ZAH]
  show 140
  have ev' : gs (YlW t) = if L.length % 2 = 1 then none else some L := ev.symm
  rw [ev']
  by_cases hp : L.length % 2 = 1
  ·rw [show (((L.length : Int) % 2) == 1) = true by simp; omega, if_pos hp]
   show 140
   exact ⟨_, YlK.one, rfl⟩
  ·rw [show (((L.length : Int) % 2) == 1) = false by simp; omega, if_neg hp]
   show 140
   rw [ZB hl, ZAH]
   show 140
   by_cases h12 : L.length <= 12
   ·rw [ZAN (by omega : ¬ (12 : Int) < L.length)]
    show 140
    rw [ZB hl, ZAH]
    show 140
    have hpl := WN L (by omega)
    rw [show ((L.length : Int) / 2).toNat = (pairs L).length by omega]
    have hc : YlV (YmF 0 (pairs L).length) (YlC 0) Ymd (Ymt (Yly (YlB ixP (Ylz 1) (YlB Ymm (eC (.int 2)) (Ylz 0))) (Yly (YlB ixP (Ylz 1) (YlB Yl6 (YlB Ymm (eC (.int 2)) (Ylz 0)) (eC (.int 1)))) YlD))) [none, some (.ref st.length)] (pairs L).length 0 (st ++ [O.lst (L.map tx)]) [] = .ok ((List.range (pairs L).length).map fun i => YlX ((pairs L)[i]?.getD ([], []))) (st ++ [O.lst (L.map tx)]) :=
     Z5 (List.range (pairs L).length) (fun j => P.int (0 + (j : Int))) _ (by simp) (fun i hi => nxR) (by simp; omega) fun i hi => by
      rw [ZBy] at hi
      obtain ⟨p1, p2⟩ := Yal L i (by omega) hi
      refine ⟨[some (.int (0 + (i : Int))), some (.ref st.length)], rfl, ?_⟩
      show 140
      rw [WH hl (by omega) (p := tx ((pairs L)[i]?.getD ([], [])).1) (by rw [show (2 * (0 + (i : Int))).toNat = 2 * i by omega, ZAa, p1]; rfl)]
      show 140
      rw [WH hl (by omega) (p := tx ((pairs L)[i]?.getD ([], [])).2) (by rw [show (2 * (0 + (i : Int)) + 1).toNat = 2 * i + 1 by omega, ZAa, p2]; rfl)]
      show 140
      rfl
    show 38
    refine ⟨st ++ [O.lst (L.map tx)], YlK.one, ?_⟩
    rw [ZAE h12]
    have e : (List.range (pairs L).length).map (fun i => YlX ((pairs L)[i]?.getD ([], []))) = (pairs L).map YlX := by
     apply ZCJ
     intro i
     rw [ZAa, ZAa]
     by_cases hi : i < (pairs L).length
     ·rw [List.getElem?_range hi]; simp [hi]
     ·rw [List.getElem?_eq_none (by simp; omega), List.getElem?_eq_none (by omega)]; rfl
    show 25
   ·rw [ZAR (by omega : (12 : Int) < L.length)]
    show 140
    refine ⟨st ++ [O.lst (L.map tx)], YlK.one, ?_⟩
    rw [ZAF h12]
theorem Yko (z : Str) : P.str z = tx z.cps.toList := by unfold tx sT; rfl
def Ym4 : P -> Bool
 | .str z => z.cps.toList.all YlJ
 | _ => false
def eqB : P -> Bool
 | .tup [a, b] => Ym4 a && Ym4 b
 | _ => false
def okS (st : YlA) (p : P) : Prop := (∃ t, tyP p st = some t) /\ ∀ z, p = .str z -> z.cps.size <= 1000
def okE (st : YlA) (p : P) : Prop := (∃ t, tyP p st = some t) /\ ∀ xs, p = .tup xs -> ∀ x ∈ xs, okS st x
theorem W7 {p : P} {st : YlA} {t : String} (h : tyP p st = some t) (ht : Ynk t "str" = true) : ∃ z, p = .str z := by
 cases p with
 | str z => exact ⟨z, rfl⟩
 | non => cases h; cases ht
 | bl b => show 182
 | int i => show 182
 | tup xs => show 182
 | ref k =>
  have h' : (match st[k]? with | some (O.lst _) => some "list" | some (O.ro _) => some "list" | some (O.dct _) => some "dict" | _ => none) = some t := h
  split at h' <;> first | (cases h'; exact absurd ht (by decide)) | cases h'
theorem YiC {p : P} {st : YlA} {t : String} (h : tyP p st = some t) (ht : Ynk t "tuple" = true) : ∃ xs, p = .tup xs := by
 cases p with
 | tup xs => exact ⟨xs, rfl⟩
 | non => show 182
 | bl b => show 182
 | int i => show 182
 | str xs => show 182
 | ref k =>
  have h' : (match st[k]? with | some (O.lst _) => some "list" | some (O.ro _) => some "list" | some (O.dct _) => some "dict" | _ => none) = some t := h
  split at h' <;> first | (cases h'; exact absurd ht (by decide)) | cases h'
theorem YgK {p : P} {st : YlA} (h : okS st p) : YU [p] st = .ok (.bl (Ym4 p)) st := by
 obtain ⟨⟨t, ht⟩, hz⟩ := h
 cases hb : Ynk t "str" with
 | true =>
  obtain ⟨z, rfl⟩ := W7 ht hb
  have hs := hz z rfl
  rw [Yko, YbY (by rw [Array.length_toList]; exact hs)]
  rfl
 | false =>
  have e : Ym4 p = false := by
   cases p with
   | str z => cases ht; exact absurd hb (by decide)
   | _ => rfl
  unfold YU WT
  show 140
  rw [ht]
  simp only [hb]
  show 140
  rw [e]
theorem Yjl {p : P} {st : YlA} (h : okE st p) : Ys [p] st = .ok (.bl (eqB p)) st := by
 obtain ⟨⟨t, ht⟩, hx⟩ := h
 cases hb : Ynk t "tuple" with
 | true =>
  obtain ⟨xs, rfl⟩ := YiC ht hb
  have hx := hx xs rfl
  unfold Ys Y1
  show 140
  by_cases hl : xs.length = 2
  ·match xs, hl, hx with
   | [a, b], _, hx =>
    show 140
    have := Z5 (src := Ynr [a, b]) (g := YlC 0) (me := YlQ 1 YU (Yly (Ylz 0) YlD)) (ρ0 := [none]) (st := st) (N := 2) [a, b] (fun x => x) (fun x => .bl (Ym4 x)) rfl (fun i _ => by rw [JM]; simp) (by simp) (fun x hx' => ⟨_, rfl, by
     show 140
     rw [YgK (hx x hx')]
     walk_at "ev"⟩)
    rw [this]
    show 140
    rw [show [P.bl (Ym4 a), P.bl (Ym4 b)] = [a, b].map fun x => P.bl (Ym4 x) from rfl, YbW]
    show 140
    show R.ok (P.bl (Ym4 a && (Ym4 b && true))) st = _
    rw [Bool.and_true]
    rfl
  ·have e : eqB (.tup xs) = false := by
    match xs, hl with
    | [], _ => rfl
    | [_], _ => rfl
    | [_, _], hl => exact absurd rfl hl
    | _ :: _ :: _ :: _, _ => rfl
   rw [show ((xs.length : Int) == 2) = false from beq_eq_false_iff_ne.mpr (by omega), e]
   show 140
 | false =>
  have e : eqB p = false := by
   cases p with
   | tup z => cases ht; exact absurd hb (by decide)
   | _ => rfl
  unfold Ys Y1
  show 140
  rw [ht]
  simp only [hb]
  show 140
  rw [e]
theorem YgC {xs : List P} {st : YlA} (hx : ∀ x ∈ xs, okE st x) (hb : xs.all eqB = false \/ 6 < xs.length \/ xs = []) : YA [.tup xs] st = .ok (.bl false) st := by
 unfold YA Wh
 show 140
 by_cases hl : 1 <= xs.length /\ xs.length <= 6
 ·rw [ZAR (show (1 : Int) <= (xs.length : Int) by omega)]
  show 140
  rw [ZAR (show (xs.length : Int) <= 6 by omega)]
  show 140
  have := Z5 (src := Ynr xs) (g := YlC 0) (me := YlQ 1 Ys (Yly (Ylz 0) YlD)) (ρ0 := [none]) (st := st) (N := xs.length) xs (fun x => x) (fun x => .bl (eqB x)) rfl (fun i _ => by rw [JM]; simp) (by omega) (fun x hx' => ⟨_, rfl, by
   show 140
   rw [Yjl (hx x hx')]
   walk_at "ev"⟩)
  rw [this]
  show 140
  rw [YbW]
  show 140
  rcases hb with hb | hb | hb
  ·rw [hb]
  ·omega
  ·rw [hb] at hl; exact absurd hl.1 (by decide)
 ·by_cases h1 : 1 <= xs.length
  ·rw [ZAR (show (1 : Int) <= (xs.length : Int) by omega)]
   show 140
   rw [ZAN (show ¬ (xs.length : Int) <= 6 by omega)]
   show 140
  ·rw [ZAN (show ¬ (1 : Int) <= (xs.length : Int) by omega)]
   show 140
def encP (p : List Nat) : P := .tup ((cutE p).map tx)
theorem Yb2 : ∀ {ps L : List (List Nat)}, gs ps = some L -> ps.map encP = (pairs L).map YlX /\ (∀ l ∈ L, l.all YlJ = true) /\ L.length = 2 * ps.length /\ L.flatten.length <= (ps.map fun p => ((cutE p).flatten.length)).sum
 | [], L, h => by
  cases h
  exact ⟨rfl, fun l hl => (by cases hl), rfl, ZAI _⟩
 | p :: ps, L, h => by
  unfold gs at h
  cases q : cutE p with
  | nil => show 162
  | cons e es =>
   show 152
   match es, q, h with
   | [], q, h => cases h
   | _ :: _ :: _, q, h => cases h
   | [e2], q, h =>
    dsimp only at h
    by_cases z : (e.all YlJ && e2.all YlJ) = true
    ·rw [ZAE z] at h
     cases w : gs ps with
     | none => rw [w] at h; cases h
     | some L' =>
      rw [w] at h
      cases h
      obtain ⟨a1, a2, a3, a4⟩ := Yb2 w
      rw [ZAb] at z
      refine ⟨?_, fun l hl => ?_, ?_, ?_⟩
      ·rw [ZAV, a1]
       show encP p :: _ = YlX (e, e2) :: _
       unfold encP
       rw [q]
       rfl
      ·rcases ZAT.mp hl with rfl | hl
       ·exact z.1
       ·rcases ZAT.mp hl with rfl | hl
        ·exact z.2
        ·exact a2 l hl
      ·rw [ZAQ, ZAQ, ZAQ, a3]; omega
      ·rw [ZAV, List.sum_cons, q, ZAn, ZAn, ZAn, ZAn, List.flatten_nil, ZAD, ZAD, ZAD, ZAD, ZCY]
       omega
    ·rw [ZAF z] at h; cases h
theorem Yee : ∀ {ps : List (List Nat)}, gs ps = none -> (ps.map encP).all eqB = false
 | [], h => by cases h
 | p :: ps, h => by
  rw [ZAV, ZBC]
  unfold gs at h
  cases q : cutE p with
  | nil => exact absurd q (ZR p)
  | cons e es =>
   show 152
   match es, q, h with
   | [], q, h =>
    have : eqB (encP p) = false := by unfold encP; rw [q]; rfl
    rw [this]; rfl
   | _ :: _ :: _, q, h =>
    have : eqB (encP p) = false := by unfold encP; rw [q]; rfl
    rw [this]; rfl
   | [e2], q, h =>
    dsimp only at h
    have e1 : eqB (encP p) = (e.all YlJ && e2.all YlJ) := by unfold encP; rw [q]; rfl
    by_cases z : (e.all YlJ && e2.all YlJ) = true
    ·rw [ZAE z] at h
     cases w : gs ps with
     | some L' => rw [w] at h; cases h
     | none => rw [Yee w, Bool.and_false]
    ·rw [e1, show (e.all YlJ && e2.all YlJ) = false by simpa using z]; rfl
theorem Yb4 (y : List Nat) : ∀ ls : List (List Nat), ls.flatten.length <= (YlR y ls).length /\ ls.length <= (YlR y ls).length + 1 \/ y = []
 | [] => .inl ⟨by simp, by simp⟩
 | [p] => .inl ⟨by simp [YlR], by simp⟩
 | p :: q :: r => by
  by_cases hy : y = []
  ·exact .inr hy
  ·rcases Yb4 y (q :: r) with ⟨a, b⟩ | a
   ·refine .inl ?_
    have hl : 0 < y.length := ZBP.mpr hy
    unfold YlR
    rw [ZAn, ZAD, ZAD, ZAD, ZAQ]
    rw [ZAQ] at b ⊢
    omega
   ·exact absurd a hy
theorem Yb7 (p : List Nat) : (cutE p).flatten.length <= p.length /\ (cutE p).length <= p.length + 1 := by
 have h := Yb4 [61] (cutE p)
 rw [WM] at h
 exact h.resolve_right (by simp)
theorem JK (p : List Nat) : (YlW p).flatten.length <= p.length /\ (YlW p).length <= p.length + 1 := by
 have h := Yb4 [59, 32] (YlW p)
 rw [Z6] at h
 exact h.resolve_right (by simp)
theorem Ygv : ∀ ps : List (List Nat), (ps.map fun p => ((cutE p).flatten.length)).sum <= ps.flatten.length
 | [] => by simp
 | p :: ps => by
  have := Ygv ps
  have := (Yb7 p).1
  rw [ZAV, List.sum_cons, ZAn, ZAD]
  omega
theorem Vf : ∀ L : List (List Nat), L.length % 2 = 0 -> Yl2 (pairs L) = L.flatten
 | [], _ => rfl
 | [a], h => by simp at h
 | a :: b :: r, h => by
  have := Vf r (by simp at h; omega)
  unfold Yl2 at this ⊢
  rw [show pairs (a :: b :: r) = (a, b) :: pairs r from rfl, ZAz, this, ZAn, ZAn, ZAe]
theorem Vq {ps : List (List Nat)} {p : List Nat} (h : p ∈ ps) : p.length <= ps.flatten.length := by
 induction ps with
 | nil => cases h
 | cons a r ih =>
  rw [ZAn, ZAD]
  rcases ZAT.mp h with rfl | h
  ·omega
  ·have := ih h; omega
theorem YhF {t : List Nat} {st : YlA} (h : t.length <= 500) : YmT (tx t) [tx [59, 32]] st = some (.ref st.length, st ++ [.lst ((YlW t).map tx)]) := by
 have hc := (JK t).2
 unfold YmT tx
 show 143
 rw [YeN, ZAH, ZAE ⟨show _ <= cap from by rw [Yl]; show t.length <= 1000000; omega, by rw [Yl]; rfl, show _ <= 1000000 by omega⟩]
 unfold YmO
 rw [ZAH, ZAH, ZAE (show _ <= cap from by show _ <= 1000000; omega), ZAy]
 rfl
theorem Yg6 {t : List Nat} {st : YlA} (h : t.length <= 500) : YmT (tx t) [tx [61]] st = some (.ref st.length, st ++ [.lst ((cutE t).map tx)]) := by
 have hc := (Yb7 t).2
 unfold YmT tx
 show 143
 rw [Yg5, ZAH, ZAE ⟨show _ <= cap from by rw [Yl]; show t.length <= 1000000; omega, by rw [Yl]; rfl, show _ <= 1000000 by omega⟩]
 unfold YmO
 rw [ZAH, ZAH, ZAE (show _ <= cap from by show _ <= 1000000; omega), ZAy]
 rfl
theorem YbL {k : Nat} {xs : List P} {st : YlA} (h : listAt st k = some xs) : Yne [.ref k] st = some (.tup xs, st) := YcW h
theorem YnO.of_wrt {t : List Nat} {tb : Sys} (h : t.length <= 200) (w : wrt t = some tb) : YnO tb /\ .tup ((YlW t).map encP) = YlG tb := by
 unfold wrt at w
 cases q : gs (YlW t) with
 | none => rw [q] at w; cases w
 | some L =>
  rw [q] at w
  dsimp only at w
  by_cases z : L.length <= 12
  ·rw [ZAE z] at w
   cases w
   obtain ⟨a1, a2, a3, a4⟩ := Yb2 q
   have hne : 0 < (YlW t).length := ZBP.mpr (Zo t)
   have hpl := WN L (by omega)
   have hal := Vf L (by omega)
   have hs := Ygv (YlW t)
   have hf := (JK t).1
   refine ⟨⟨by omega, by omega, by rw [hal]; omega, fun c hc => ?_⟩, by unfold YlG; rw [a1]⟩
   rw [hal] at hc
   obtain ⟨l, hl, hc⟩ := List.mem_flatten.mp hc
   exact ZA7.mp (a2 l hl) c hc
  ·rw [ZAF z] at w; cases w
theorem Yhg {t : List Nat} {st : YlA} (h : t.length <= 200) (w : wrt t = none) : YA [.tup ((YlW t).map encP)] st = .ok (.bl false) st := by
 have hf := (JK t).1
 refine YgC (fun x hx => ?_) ?_
 ·obtain ⟨p, hp, rfl⟩ := ZAj.mp hx
  have hpl := Vq hp
  refine ⟨⟨_, rfl⟩, fun xs e y hy => ?_⟩
  cases e
  obtain ⟨l, hl, rfl⟩ := ZAj.mp hy
  have h1 := Vq hl
  have h2 := (Yb7 p).1
  refine ⟨⟨_, rfl⟩, fun z e => ?_⟩
  cases e
  show l.length <= 1000
  omega
 ·unfold wrt at w
  cases q : gs (YlW t) with
  | none => exact .inl (Yee q)
  | some L =>
   rw [q] at w
   dsimp only at w
   by_cases z : L.length <= 12
   ·rw [ZAE z] at w; cases w
   ·obtain ⟨a1, a2, a3, a4⟩ := Yb2 q
    exact .inr (.inl (by rw [ZAH]; omega))
theorem YeX {t : List Nat} {st : YlA} (h : t.length <= 200) : ∃ s1, YlK st s1 /\ Yv [tx t] st = YnI ((YlN (sIf (Ymu (YmK (YlQ 1 YA (Yly (Ylz 1) YlD))))
 (YmV "NoText" (Yly (eC (.str "not written as one to six equations, as in aX=Xb; YcY=")) YlD))
 Ymk)
 (YlN (YmW (YmD 1 ZO (Yly (Ylz 1) YlD)))
 (YlZ (Ylz 1)))) [some (tx t), some (.tup ((YlW t).map encP))] s1) := by
 have hc := JK t
 unfold Yv Zp
 simp only [s_eq, s_sc]
 generalize hT : (YlN (sIf (Ymu (YmK (YlQ 1 YA (Yly (Ylz 1) YlD)))) (YmV "NoText" (Yly (eC (.str "not written as one to six equations, as in aX=Xb; YcY=")) YlD)) Ymk) (YlN (YmW (YmD 1 ZO (Yly (Ylz 1) YlD))) (YlZ (Ylz 1)))) = T
 show 140
 rw [YhF (by omega)]
 show 140
 have hs0 : listAt (st ++ [O.lst ((YlW t).map tx)]) st.length = some ((YlW t).map tx) := YE Yn
 rw [ZE hs0]
 show 24
 obtain ⟨s1, c1, _, g1⟩ := Yfa (src := YmN st.length (YlW t).length) (g := YlC 0) (me := eB Yne (Yly (eM isStr YmT (Ylz 0) (Yly (eC (tx [61])) YlD)) YlD)) (ρ0 := [none]) (st := st ++ [O.lst ((YlW t).map tx)]) (N := (YlW t).length) (YlW t) tx encP (fun _ => True) rfl
  (fun i s hi _ g => nxK (g.listAt hs0)) (by omega) trivial (fun p hp s _ g => by
   have hpl := Vq hp
   refine ⟨[some (tx p)], s ++ [.lst ((cutE p).map tx)], rfl, ?_, trivial, YlK.one⟩
   show 140
   rw [Yg6 (by omega)]
   show 140
   rw [YbL (YE Yn)]
   rfl)
 rw [c1]
 show 140
 exact ⟨s1, YlK.one.trans g1, rfl⟩
theorem YbA {c : Str} {b : Bool} {me : ME} {ρ : Rho} {st : YlA} : Ym5 c b me ρ st = (me ρ st).bind fun p st1 => if Yn9 c p st1 = true then .ok (.bl b) st1 else .bad := rfl
theorem classes {k : Nat} {st : YlA} {fs : List (Str × P)} (h : st[k]? = some (.exc "NoText" fs)) : ∃ st' j, YN [.ref k] st = .ok (.ref j) st' /\ YlK st st' /\ st'[j]? = some (.lst [.bl false, .bl true, .bl false, .bl false, .bl false, .bl false, .bl false, .bl false, .bl false, .bl false, .bl true, .bl true]) := by
 unfold YN ZD
 show 140
 simp only [YbA]
 show 140
 iterate 4 (rw [YbS h]; walk_at "ev")
 generalize hA : st ++ [O.lst [.bl false, .bl true, .bl false, .bl false]] = A
 have gA : YlK st A := by rw [<- hA]; exact YlK.one
 have kA := gA.get h
 have lA : A[st.length]? = some (.lst [.bl false, .bl true, .bl false, .bl false]) := by rw [<- hA]; exact Yn
 simp only [YbA]
 show 140
 iterate 4 (rw [YbS kA]; walk_at "ev")
 rw [Ybd (YlK.one.get lA) Yn (by decide)]
 show 140
 generalize hB : A ++ [O.lst [P.bl false, P.bl false, P.bl false, P.bl false]] = B
 have gB : YlK A B := by rw [<- hB]; exact YlK.one
 generalize hC : B ++ [O.lst [P.bl false, P.bl true, P.bl false, P.bl false, P.bl false, P.bl false, P.bl false, P.bl false]] = C
 have gC : YlK B C := by rw [<- hC]; exact YlK.one
 have kC := (gB.trans gC).get kA
 have lC : C[B.length]? = some (.lst [P.bl false, P.bl true, P.bl false, P.bl false, P.bl false, P.bl false, P.bl false, P.bl false]) := by rw [<- hC]; exact Yn
 simp only [YbA]
 show 140
 iterate 4 (rw [YbS kC]; walk_at "ev")
 rw [Ybd (YlK.one.get lC) Yn (by decide)]
 show 140
 exact ⟨_, _, rfl, (((gA.trans gB).trans gC).trans YlK.one).trans YlK.one, Yn⟩
theorem Wg {j : Nat} {xs : List P} {s : YlA} (k1 : s[j]? = some (.lst xs)) (hf : xs.all Yl8 = true) : YnY (.ref j) [.bl true] s = some (.int ((xs.countP fun y => eqF y (P.bl true) : Nat) : Int), s) := by
 show (match Yl7 s j with | some xs => if Yl8 (P.bl true) = true /\ xs.all Yl8 = true then okP (P.int ((xs.countP fun y => eqF y (P.bl true) : Nat) : Int)) s else none | none => none) = _
 rw [show Yl7 s j = some xs by unfold Yl7; rw [k1]]
 show (if Yl8 (P.bl true) = true /\ xs.all Yl8 = true then okP (P.int ((xs.countP fun y => eqF y (P.bl true) : Nat) : Int)) s else none) = _
 rw [ZAE ⟨rfl, hf⟩]
 rfl
theorem read {t : List Nat} {st : YlA} (h : t.length <= 200) : ∃ st', YlK st st' /\ Yv [tx t] st = match wrt t with
 | none => .exc ("NoText", []) st'
 | some tb => match thr [] (spots tb) with
  | some x => .exc (YoN x) st'
  | none => match due5 tb with
   | some (a, b) => .exc (YoR a b) st'
   | none => .ok (YlG tb) st' := by
 obtain ⟨s1, g1, e1⟩ := YeX (st := st) h
 rw [e1]
 cases w : wrt t with
 | none =>
  show 9
  rw [Yhg h w]
  show 83
 | some tb =>
  obtain ⟨F, eF⟩ := YnO.of_wrt h w
  rw [eF]
  show 9
  rw [YcN F]
  show 140
  obtain ⟨s2, g2, e2⟩ := check (st := s1) F
  rw [e2]
  cases q : thr [] (spots tb) with
  | some x =>
   show 113
  | none =>
   show 143
   cases q2 : due5 tb with
   | some ab =>
    obtain ⟨a, b⟩ := ab
    show 113
   | none =>
    show 113
theorem Yiq {p : P} {st : YlA} {ty : String} (h : tyP p st = some ty) (h2 : Ynk ty "str" = false) : Yv [p] st = .exc ("NoText", []) st := by
 unfold Yv Zp
 show 140
 rw [h]
 show 140
 rw [h2]
 show 140
def YmI (t : List Nat) : P := match wrt t with
 | none => .tup [.str "none"]
 | some tb => match thr [] (spots tb) with
  | some x => Yox x
  | none => match due5 tb with
   | some (a, b) => .tup [.str "great", .int a, .int b]
   | none => .tup [.str "told", YlG tb]
theorem Yd2 {p : P} {st : YlA} (h : ∀ s, YlK st s -> ∃ s', YlK s s' /\ Yv [p] s = .exc ("NoText", []) s') : ∃ st', YlK st st' /\ Yt [p] st = .ok (.tup [.str "none"]) st' := by
 unfold Yt Zx
 show 140
 generalize hA : st ++ [O.lst [.bl true, .bl true, .bl true]] = A
 have gA : YlK st A := by rw [<- hA]; exact YlK.one
 obtain ⟨s1, g1, e1⟩ := h A gA
 show 86
 generalize hB : s1 ++ [O.exc "NoText" []] = B
 have gB : YlK s1 B := by rw [<- hB]; exact YlK.one
 have kB : B[s1.length]? = some (O.exc "NoText" []) := by rw [<- hB]; exact Yn
 obtain ⟨s2, j, e2, g2, k2⟩ := classes kB
 show 49
 rw [Vz k2]
 show 140
 rw [Wg k2 rfl]
 show 140
 exact ⟨s2, (gA.trans g1).trans (gB.trans g2), rfl⟩
theorem found {t : List Nat} {st : YlA} (h : t.length <= 200) : ∃ st', YlK st st' /\ Yt [tx t] st = .ok (YmI t) st' := by
 cases w : wrt t with
 | none =>
  unfold YmI
  rw [w]
  refine Yd2 fun s g => ?_
  obtain ⟨s', g', e'⟩ := read (st := s) h
  rw [w] at e'
  exact ⟨s', g', e'⟩
 | some tb =>
  unfold Yt Zx YmI
  rw [w]
  show 9
  generalize hA : st ++ [O.lst [.bl true, .bl true, .bl true]] = A
  have gA : YlK st A := by rw [<- hA]; exact YlK.one
  have lA : A[st.length]? = some (.lst [.bl true, .bl true, .bl true]) := by rw [<- hA]; exact Yn
  obtain ⟨s1, g1, e1⟩ := read (st := A) h
  rw [w] at e1
  dsimp only at e1
  rw [e1]
  cases q : thr [] (spots tb) with
  | some x =>
   show 143
   unfold YoN
   show 140
   rw [Ydg (by decide) (by decide)]
   show 140
   generalize hB : s1 ++ [O.exc "Thrice" [("place", P.int x.2.2.2), ("side", .int x.2.2.1), ("equation", .int x.2.1), ("unknown", tx [x.1])]] = B
   have gB : YlK s1 B := by rw [<- hB]; exact YlK.one
   have kB : B[s1.length]? = some (O.exc "Thrice" [("place", P.int x.2.2.2), ("side", .int x.2.2.1), ("equation", .int x.2.1), ("unknown", tx [x.1])]) := by rw [<- hB]; exact Yn
   have v3 : ∀ ρ : Rho, ρ[3]? = some (some (.ref s1.length)) -> Ylz 3 ρ B = .ok (.ref s1.length) B := fun ρ h => by rw [Ybv, h]
   rw [VQ (q := tx [x.1]) (v3 _ rfl) kB rfl]
   show 140
   rw [VQ (q := .int x.2.1) (v3 _ rfl) kB rfl]
   show 140
   rw [VQ (q := .int x.2.2.1) (v3 _ rfl) kB rfl]
   show 140
   rw [VQ (q := .int x.2.2.2) (v3 _ rfl) kB rfl]
   show 140
   have lB := (g1.trans gB).get lA
   rw [Vz lB]
   show 140
   rw [Wg lB rfl]
   show 140
   exact ⟨B, (gA.trans g1).trans gB, rfl⟩
  | none =>
   show 143
   cases q2 : due5 tb with
   | some ab =>
    obtain ⟨a, b⟩ := ab
    show 143
    unfold YoR
    show 140
    rw [Ydg (by decide) (by decide), Ydg (by decide) (by decide)]
    show 140
    generalize hB : s1 ++ [O.exc "TooGreat" [("most", P.int b), ("many", .int a)]] = B
    have gB : YlK s1 B := by rw [<- hB]; exact YlK.one
    have kB : B[s1.length]? = some (O.exc "TooGreat" [("most", P.int b), ("many", .int a)]) := by rw [<- hB]; exact Yn
    have v3 : ∀ ρ : Rho, ρ[3]? = some (some (.ref s1.length)) -> Ylz 3 ρ B = .ok (.ref s1.length) B := fun ρ h => by rw [Ybv, h]
    rw [VQ (q := .int a) (v3 _ rfl) kB rfl]
    show 140
    rw [VQ (q := .int b) (v3 _ rfl) kB rfl]
    show 140
    have lB := (g1.trans gB).get lA
    rw [Vz lB]
    show 140
    rw [Wg lB rfl]
    show 140
    exact ⟨B, (gA.trans g1).trans gB, rfl⟩
   | none =>
    show 9
    rw [Vz (g1.get lA)]
    show 140
    rw [Wg (g1.get lA) rfl]
    show 140
    exact ⟨s1, gA.trans g1, rfl⟩
theorem due {t : List Nat} {st : YlA} (h : t.length <= 200) (ha : ∀ c ∈ t, c < 128) : ∃ st', YlK st st' /\ Y5 [tx t] st = .ok (YmI t) st' := by
 obtain ⟨s1, g1, e1⟩ := equations (st := st) (t := t) (by omega) ha
 unfold Y5 W3 YmI
 simp only [Ykq, ZJ]
 show 140
 rw [e1]
 cases w : wrt t with
 | none =>
  show 9
  show 249
 | some tb =>
  obtain ⟨F, eF⟩ := YnO.of_wrt h w
  have hm := F.most
  have h6 := F.six
  have hk := Ybi (tb := tb)
  show 143
  unfold YlG
  show 24
  have k := Yf6 (tb := tb) (st := s1) (v0 := some (tx t)) F
  unfold YlG at k
  have k0 : P.str (sT []) = tx [] := rfl
  rw [k0]
  cases q : thr [] (spots tb) with
  | some x =>
   rw [q] at k
   dsimp only at k ⊢
   rw [show ((tb.length : Nat) : Int).toNat = tb.length by simp, k]
   show 83
  | none =>
   rw [q] at k
   obtain ⟨w3, w4, w5, w6, k⟩ := k
   rw [show ((tb.length : Nat) : Int).toNat = tb.length by simp, k]
   show 9
   have hd : YlV (Ynj (sT up26)) (YlC 0) (Yl3 (YlB YoV (Ylz 0) (Ylz 1))) (Ylz 0) [none, some (tx (Yl2 tb))] up26.length 0 s1 [] = .ok ((known tb).map fun c => tx [c]) s1 :=
    Ycs up26 (fun c => tx [c]) (fun c => decide (c ∈ Yl2 tb)) (fun c => tx [c]) rfl (fun i hi => nxS hi) (by decide) fun c hc => by
     refine ⟨[some (tx [c]), some (tx (Yl2 tb))], rfl, ?_, fun _ => rfl⟩
     show 140
     rw [YfP, Ydf]
     show 140
   rw [hd]
   show 140
   unfold due5
   by_cases h40 : 40 < (Yl2 tb).length
   ·rw [ZAE h40, ZAR (by omega : (40 : Int) < (Yl2 tb).length)]
    show 140
    exact ⟨_, g1.trans YlK.one, rfl⟩
   ·rw [ZAF h40, ZAN (by omega : ¬ (40 : Int) < (Yl2 tb).length)]
    show 140
    rw [ZB Yn, ZAH]
    show 140
    by_cases h7 : 6 < (known tb).length
    ·rw [ZAE h7, ZAR (by omega : (6 : Int) < (known tb).length)]
     show 140
     rw [ZB Yn, ZAH]
     show 140
     exact ⟨_, g1.trans YlK.one, rfl⟩
    ·rw [ZAF h7, ZAN (by omega : ¬ (6 : Int) < (known tb).length)]
     show 140
     exact ⟨_, g1.trans YlK.one, rfl⟩
def Okt (t : List Nat) : Prop := t.length <= 150 /\ ∀ c ∈ t, c < 128
def sgn : List Nat := [97, 88, 98, 61, 59, 32, 89, 90, 61, 97, 59, 32, 88, 89, 113, 61, 59, 32, 32, 87, 49, 10, 45, 65, 61]
theorem s_sg : P.str "aXb=; YZ=a; XYq=;  W1\n-A=" = tx sgn := ZAk P.str (by decide +kernel)
def pick (l : List Nat) (c : Int) : Nat := l.getD (c * 48271 % 1000003 % (l.length : Int)).toNat 0
theorem J8 {l : List Nat} {c : Int} (h : l ≠ []) : pick l c ∈ l /\ l[(c * 48271 % 1000003 % (l.length : Int)).toNat]? = some (pick l c) := by
 have hp : 0 < l.length := ZBP.mpr h
 have h0 := ZCA (c * 48271 % 1000003) (b := (l.length : Int)) (by omega)
 have h1 := ZBw (c * 48271 % 1000003) (b := (l.length : Int)) (by omega)
 have hi : (c * 48271 % 1000003 % (l.length : Int)).toNat < l.length := by omega
 unfold pick
 rw [ZBm, ZAJ hi]
 exact ⟨ZAs hi, rfl⟩
theorem Ygt {l : List Nat} {c : Int} {st : YlA} (h : l ≠ []) (hl : l.length <= 1000) : ixP (tx l) (.int (c * 48271 % 1000003 % (l.length : Int))) st = some (tx [pick l c], st) := by
 have hp : 0 < l.length := ZBP.mpr h
 have h0 := ZCA (c * 48271 % 1000003) (b := (l.length : Int)) (by omega)
 have h1 := ZBw (c * 48271 % 1000003) (b := (l.length : Int)) (by omega)
 obtain ⟨d, d1, d2⟩ := JB (l := l) (st := st) h0 (by omega) (by omega)
 rw [d2]
 rw [(J8 h).2] at d1
 cases d1
 rfl
theorem YcZ {f : Int -> Nat} : ∀ r : List Int, (r.map fun c => [f c]).flatten = r.map f
 | [] => rfl
 | a :: r => by rw [ZAV, ZAn, YcZ r]; rfl
theorem Yf5 {k : Nat} {ns : List Int} {st : YlA} (h : st[k]? = some (.ro (ns.map P.int))) (hn : ns.length <= 63) : ∃ t st', YlK st st' /\ YG [.ref k] st = .ok (tx t) st' /\ Okt t := by
 unfold YG Zq
 simp only [s_sg, ZJ]
 show 140
 have hsl := Yi1 (a := 1) (b := 121) h (by omega) (by omega)
 have hsl' : slP (.ref k) (some 1) (some 121) st = _ := hsl
 rw [hsl']
 have hcl : ((ns.drop 1).take (121 - 1)).length <= 63 := by rw [ZAm, ZAr]; omega
 generalize (ns.drop 1).take (121 - 1) = cs at hcl
 show 140
 have hk1 : listAt (st ++ [O.lst (cs.map P.int)]) st.length = some (cs.map P.int) := YE Yn
 rw [ZE hk1]
 show 24
 have hc : YlV (YmN st.length cs.length) (YlC 0) Ymd (YlB ixP (Ylz 1) (YlB YmB (YlB YmB (YlB Ymm (Ylz 0) (eC (.int 48271))) (eC (.int 1000003))) (eB Yl5 (Yly (Ylz 1) YlD)))) [none, some (tx sgn)] cs.length 0 (st ++ [O.lst (cs.map P.int)]) [] = .ok (cs.map fun c => tx [pick sgn c]) (st ++ [O.lst (cs.map P.int)]) :=
  Z5 cs P.int _ rfl (fun i hi => nxK hk1) (by omega) fun c hc => by
   refine ⟨[some (.int c), some (tx sgn)], rfl, ?_⟩
   show 140
   rw [Ygt (by decide) (by decide)]
   rfl
 show 38
 have e3 : (cs.map fun c => tx [pick sgn c]) = (cs.map fun c => [pick sgn c]).map tx := by rw [ZAy]; rfl
 have e4 : (cs.map fun c => [pick sgn c]).flatten = cs.map (pick sgn) := by
  exact YcZ cs
 rw [e3, Jd (by rw [e4, ZAH]; omega), e4]
 show 140
 refine ⟨_, _, YlK.one, rfl, by rw [ZAH]; omega, fun c hc => ?_⟩
 obtain ⟨z, _, rfl⟩ := ZAj.mp hc
 exact (by decide : ∀ c ∈ sgn, c < 128) _ (J8 (by decide)).1
def plT : List Nat := [97, 88, 89, 98, 88, 90, 89, 99, 87, 86, 97, 97, 98, 85, 61]
theorem s_pl : P.str "aXYbXZYcWVaabU=" = tx plT := ZAk P.str (by decide +kernel)
theorem s_T : P.str "T" = tx [84] := ZAk P.str (by decide +kernel)
def sg9 : List Nat := [59, 32, 61, 97, 88, 49, 66, 32, 10]
theorem YkK : P.str "; =aX1B \n" = tx sg9 := ZAk P.str (by decide +kernel)
theorem YeJ : ∀ c ∈ plT, c < 128 := by decide
theorem Ygm {L : List (List Nat)} {j : Nat} {a : List Nat} {c : Nat} (h : L[j]? = some a) : (L.set j (a ++ [c])).flatten.length = L.flatten.length + 1 := by
 induction L generalizing j with
 | nil => cases h
 | cons x r ih =>
  cases j with
  | zero =>
   cases h
   simp; omega
  | succ j =>
   have := ih (j := j) (by simpa using h)
   simp only [List.set_cons_succ, List.flatten_cons, List.length_append, this]
   omega
theorem Yeh (y : List Nat) : ∀ ls : List (List Nat), (YlR y ls).length <= ls.flatten.length + ls.length * y.length
 | [] => by simp [YlR]
 | [p] => by simp [YlR]
 | p :: q :: r => by
  have := Yeh y (q :: r)
  unfold YlR
  rw [ZAD, ZAD, ZAn, ZAD, ZAQ, Nat.add_mul, Nat.one_mul]
  omega
theorem YcY (y : List Nat) : ∀ (ls : List (List Nat)) (c : Nat), c ∈ YlR y ls -> c ∈ y \/ ∃ l ∈ ls, c ∈ l
 | [], c, h => by simp [YlR] at h
 | [p], c, h => .inr ⟨p, by simp, h⟩
 | p :: q :: r, c, h => by
  unfold YlR at h
  rcases ZAx.mp h with h | h
  ·exact .inr ⟨p, by simp, h⟩
  ·rcases ZAx.mp h with h | h
   ·exact .inl h
   ·rcases YcY y (q :: r) c h with h | ⟨l, hl, hc⟩
    ·exact .inl h
    ·exact .inr ⟨l, ZAW _ hl, hc⟩
theorem Ygk {cs : List Int} {k : Nat} {first : Int} {pl : List Nat} {many : Nat} {st : YlA} (hpl : pl ≠ []) (hpl2 : pl.length <= 20) (hpc : ∀ c ∈ pl, c < 128) (hm : 1 <= many /\ many <= 7) (hcl : cs.length <= 63) {L0 : List (List Nat)} (hL0 : L0.length = 2 * many) (hf0 : L0.flatten.length = 0) (hc0 : ∀ l ∈ L0, ∀ c ∈ l, c < 128) :
 ∃ (L : List (List Nat)) (w5 w6 : Option P), Ymi (YmN (st.length + 1) cs.length) (YlC 5) YM cs.length 0 [some (.ref k), some (.int first), some (tx pl), some (.int many), some (.ref st.length), none, none, none, none, none, none] (st ++ [O.lst (L0.map tx)] ++ [O.lst (cs.map P.int)]) =
  .nx [some (.ref k), some (.int first), some (tx pl), some (.int many), some (.ref st.length), w5, w6, none, none, none, none] (st ++ [O.lst (L.map tx)] ++ [O.lst (cs.map P.int)]) /\ L.length = 2 * many /\ L.flatten.length <= 63 /\ ∀ l ∈ L, ∀ c ∈ l, c < 128 := by
 have hs : ∀ L : List (List Nat), (st ++ [O.lst (L.map tx)] ++ [O.lst (cs.map P.int)])[st.length]? = some (.lst (L.map tx)) := fun L => by
  rw [List.getElem?_append_left (by simp)]
  exact Yn
 have hc : ∀ L : List (List Nat), listAt (st ++ [O.lst (L.map tx)] ++ [O.lst (cs.map P.int)]) (st.length + 1) = some (cs.map P.int) := fun L => YE (by
  have : (st ++ [O.lst (L.map tx)]).length = st.length + 1 := by simp
  rw [<- this]
  exact Yn)
 have hset : ∀ (L : List (List Nat)) o, (st ++ [O.lst (L.map tx)] ++ [O.lst (cs.map P.int)]).set st.length o = st ++ [o] ++ [O.lst (cs.map P.int)] := fun L o => by
  rw [List.set_append_left _ _ (by simp)]
  simp
 obtain ⟨ρ', s', e1, L, w5, w6, e2, e3, e4, e5, e6⟩ := VE (src := YmN (st.length + 1) cs.length) (g := YlC 5) (m := YM) (N := cs.length) (ρ := [some (.ref k), some (.int first), some (tx pl), some (.int many), some (.ref st.length), none, none, none, none, none, none]) (st := st ++ [O.lst (L0.map tx)] ++ [O.lst (cs.map P.int)]) cs P.int
  (fun i ρ s => ∃ (L : List (List Nat)) (w5 w6 : Option P), ρ = [some (.ref k), some (.int first), some (tx pl), some (.int many), some (.ref st.length), w5, w6, none, none, none, none] /\ s = st ++ [O.lst (L.map tx)] ++ [O.lst (cs.map P.int)] /\ L.length = 2 * many /\ L.flatten.length <= i /\ ∀ l ∈ L, ∀ c ∈ l, c < 128) rfl (fun i ρ s hi ⟨L, w5, w6, q1, q2, _⟩ => by rw [q2]; exact nxK (hc L)) ⟨L0, none, none, rfl, rfl, hL0, by omega, hc0⟩ (fun i hi ρ s ⟨L, w5, w6, q1, q2, q3, q4, q5⟩ => by
   show 176
   generalize cs[i] = cell
   show 205
   unfold YM
   have hpos : (0 : Int) < 2 * (many : Int) := by omega
   have hplp : 0 < pl.length := ZBP.mpr hpl
   show 140
   generalize hat : cell * 69621 % 65537 % (2 * (many : Int)) = at'
   have at0 : 0 <= at' /\ at' < 2 * (many : Int) := by rw [<- hat]; exact ⟨ZCA _ (by omega), ZBw _ (by omega)⟩
   have hj : at'.toNat < L.length := by omega
   have hLj : L[at'.toNat]? = some L[at'.toNat] := ZAJ hj
   generalize hla : L[at'.toNat] = a at hLj
   have ham : a ∈ L := by rw [<- hla]; exact ZAs hj
   have hal := Vq ham
   rw [WH (hs L) at0.1 (p := tx a) (by rw [ZAa, hLj]; rfl)]
   show 140
   rw [Ygt hpl (by omega)]
   show 140
   rw [YfE (hs L) at0.1 (by rw [ZAH]; omega), hset]
   refine ⟨_, _, rfl, L.set at'.toNat (a ++ [pick pl cell]), _, _, rfl, ?_, by rw [ZCX]; exact q3, by rw [Ygm hLj]; omega, fun l hl c hc => ?_⟩
   ·rw [List.map_set]
   ·rcases List.mem_or_eq_of_mem_set hl with hl | rfl
    ·exact q5 l hl c hc
    ·show 229
     ·exact q5 a ham c hc
     ·rw [ZA1.mp hc]
      exact hpc _ (J8 hpl).1)
 exact ⟨L, w5, w6, by rw [e1, e2, e3], e4, by omega, e6⟩
def eqL (e : List Nat × List Nat) : List Nat := e.1 ++ [61] ++ e.2
theorem Yg1 (tb : Sys) : (tb.map eqL).flatten.length = (Yl2 tb).length + tb.length := by
 induction tb with
 | nil => rfl
 | cons e r ih =>
  unfold Yl2 at *
  rw [ZAV, ZAn, ZAD, ih, ZAz, ZAD, ZAD, ZAQ]
  unfold eqL
  simp only [List.length_append, List.length_cons, List.length_nil]
  omega
theorem Ybj : ∀ (L : List (List Nat)) (e : List Nat × List Nat), e ∈ pairs L -> e.1 ∈ L /\ e.2 ∈ L
 | [], e, h => by simp [pairs] at h
 | [a], e, h => by simp [pairs] at h
 | a :: b :: r, e, h => by
  rw [show pairs (a :: b :: r) = (a, b) :: pairs r from rfl] at h
  rcases ZAT.mp h with rfl | h
  ·simp
  ·have := Ybj r e h
   exact ⟨ZAW _ (ZAW _ this.1), ZAW _ (ZAW _ this.2)⟩
theorem Yfw {α β : Type} {l : List α} {d : α} {f : α -> β} : (List.range l.length).map (fun i => f (l[i]?.getD d)) = l.map f := by
 apply ZCJ
 intro i
 rw [ZAa, ZAa]
 by_cases hi : i < l.length
 ·rw [List.getElem?_range hi]; simp [hi]
 ·rw [List.getElem?_eq_none (by simp; omega), List.getElem?_eq_none (by omega)]; rfl
theorem Okt.cut {T : List Nat} {c : List Nat} {a b : Nat} (h : T.length <= 100 /\ ∀ c ∈ T, c < 128) (hc : c.length <= 1 /\ ∀ x ∈ c, x < 128) (hab : a <= b) : Okt (T.take a ++ c ++ T.drop b) := by
 refine ⟨?_, fun x hx => ?_⟩
 ·rw [ZAD, ZAD, ZAm, ZAr]
  omega
 ·rcases ZAx.mp hx with hx | hx
  ·rcases ZAx.mp hx with hx | hx
   ·exact h.2 x (ZCk hx)
   ·exact hc.2 x hx
  ·exact h.2 x (ZCj hx)
theorem YkP : ("; " : Str) = sT [59, 32] := by decide +kernel
theorem Ycv {k : Nat} {ns : List Int} {st : YlA} (h : st[k]? = some (.ro (ns.map P.int))) (hn : ns.length <= 63) : ∃ t st', YlK st st' /\ Yz [.ref k] st = .ok (tx t) st' /\ Okt t := by
 have hc0 : ∀ {s : YlA}, YlK st s -> Yq [.ref k, .int 0] s = .ok (.int (ns.getD 0 0)) s := fun {s} g => Yen 0 (g.get h)
 unfold Yz Y4
 simp only [s_pl, s_T, YkK, YkP, s_eq, ZJ]
 show 140
 rw [hc0 YlK.refl]
 show 140
 generalize hfirst : ns.getD 0 0 / 4 = first
 obtain ⟨b, hb, hb1⟩ : ∃ b : Nat, 5 + first % 10 = (b : Int) /\ 5 <= b /\ b <= 14 := ⟨(5 + first % 10).toNat, by omega, by omega⟩
 rw [hb, YbR (by decide)]
 show 140
 generalize hrep : (List.replicate (first / 10 % 2).toNat [84]).flatten = tl
 have htl : tl.length <= 1 /\ ∀ c ∈ tl, c < 128 := by
  rw [<- hrep]
  have : (first / 10 % 2).toNat = 0 \/ (first / 10 % 2).toNat = 1 := by omega
  rcases this with e | e <;> rw [e] <;> simp
 rw [Z1 (by rw [ZAm]; omega)]
 show 140
 generalize hpl : plT.take b ++ tl = pl
 have hplen : plT.length = 15 := by decide
 have hpl1 : pl ≠ [] := fun z => by
  have := ZAk List.length z
  rw [<- hpl, ZAD, ZAm, ZCY] at this
  omega
 have hpl2 : pl.length <= 20 := by rw [<- hpl, ZAD, ZAm]; omega
 have hplc : ∀ c ∈ pl, c < 128 := fun c hc => by
  rw [<- hpl] at hc
  show 229
  ·exact YeJ c (ZCk hc)
  ·exact htl.2 c hc
 obtain ⟨many, hmany, hm1⟩ : ∃ m : Nat, 1 + first / 20 % 7 = (m : Int) /\ 1 <= m /\ m <= 7 := ⟨(1 + first / 20 % 7).toNat, by omega, by omega⟩
 rw [hmany]
 rw [show (2 * (many : Int)).toNat = 2 * many by omega]
 have hcmp : YlV (YmF 0 (2 * many)) (YlC 0) Ymd (eC (.str (sT []))) [none] (2 * many) 0 st [] = .ok ((List.range (2 * many)).map fun _ => tx []) st :=
  Z5 (List.range (2 * many)) (fun j => P.int (0 + (j : Int))) _ (by simp) (fun i hi => nxR) (by simp; omega) fun c hc => ⟨_, rfl, rfl⟩
 rw [hcmp]
 show 140
 have eL0 : ((List.range (2 * many)).map fun _ => tx []) = ((List.range (2 * many)).map fun _ => ([] : List Nat)).map tx := by rw [ZAy]; rfl
 rw [eL0]
 generalize hL0 : ((List.range (2 * many)).map fun _ => ([] : List Nat)) = L0
 have hl0 : L0.length = 2 * many := by rw [<- hL0]; simp
 have hz0 : ∀ l ∈ L0, l = [] := fun l hl => by
  rw [<- hL0] at hl
  obtain ⟨_, _, rfl⟩ := ZAj.mp hl
  rfl
 have hf0 : L0.flatten.length = 0 := by
  have : L0.flatten = [] := List.flatten_eq_nil_iff.mpr hz0
  rw [this]; rfl
 have hG1 : ∀ L : List (List Nat), YlK st (st ++ [O.lst (L.map tx)]) := fun L => YlK.one
 have hsl := Yi1 (a := 1) (b := 61) ((hG1 L0).get h) (by omega) (by omega)
 have hsl' : slP (.ref k) (some 1) (some 61) (st ++ [O.lst (L0.map tx)]) = _ := hsl
 rw [hsl']
 have hcl : ((ns.drop 1).take (61 - 1)).length <= 63 := by rw [ZAm, ZAr]; omega
 generalize (ns.drop 1).take (61 - 1) = cs at hcl
 show 140
 have hln : (st ++ [O.lst (L0.map tx)]).length = st.length + 1 := by simp
 rw [hln]
 have hk1 : listAt (st ++ [O.lst (L0.map tx)] ++ [O.lst (cs.map P.int)]) (st.length + 1) = some (cs.map P.int) := YE (by rw [<- hln]; exact Yn)
 rw [ZE hk1]
 show 24
 obtain ⟨L, w5, w6, e1, e2, e3, e4⟩ := Ygk (k := k) (first := first) (st := st) hpl1 hpl2 hplc hm1 hcl hl0 hf0 (fun l hl c hc => by rw [hz0 l hl] at hc; cases hc)
 show 86
 rw [show ((many : Int)).toNat = many by omega]
 have hsd : (st ++ [O.lst (L.map tx)] ++ [O.lst (cs.map P.int)])[st.length]? = some (.lst (L.map tx)) := by
  rw [List.getElem?_append_left (by simp)]
  exact Yn
 have hG2 : YlK st (st ++ [O.lst (L.map tx)] ++ [O.lst (cs.map P.int)]) := ⟨_, by rw [ZAe]⟩
 generalize hS : st ++ [O.lst (L.map tx)] ++ [O.lst (cs.map P.int)] = S at hsd hG2
 have hat : ∀ j, j < 2 * many -> L[j]? = some (L[j]?.getD []) := fun j hj => by rw [ZAJ (by omega)]; rfl
 have hatl : ∀ j, j < 2 * many -> (L[j]?.getD []).length <= 63 := fun j hj => by
  have := Vq (ZBM (hat j hj))
  omega
 have hc2 : YlV (YmF 0 many) (YlC 0) Ymd (YlB Yl6 (YlB Yl6 (YlB ixP (Ylz 1) (YlB Ymm (eC (.int 2)) (Ylz 0))) (eC (tx [61]))) (YlB ixP (Ylz 1) (YlB Yl6 (YlB Ymm (eC (.int 2)) (Ylz 0)) (eC (.int 1))))) [none, some (.ref st.length)] many 0 S [] = .ok ((List.range many).map fun i => tx (L[2 * i]?.getD [] ++ [61] ++ L[2 * i + 1]?.getD [])) S :=
  Z5 (List.range many) (fun j => P.int (0 + (j : Int))) _ (by simp) (fun i hi => nxR) (by simp; omega) fun i hi => by
   rw [ZBy] at hi
   have l1 := hatl (2 * i) (by omega)
   have l2 := hatl (2 * i + 1) (by omega)
   refine ⟨[some (.int (0 + (i : Int))), some (.ref st.length)], rfl, ?_⟩
   show 140
   rw [WH hsd (by omega) (p := tx (L[2 * i]?.getD [])) (by rw [show (2 * (0 + (i : Int))).toNat = 2 * i by omega, ZAa, hat _ (by omega)]; rfl)]
   show 140
   rw [WH hsd (by omega) (p := tx (L[2 * i + 1]?.getD [])) (by rw [show (2 * (0 + (i : Int)) + 1).toNat = 2 * i + 1 by omega, ZAa, hat _ (by omega)]; rfl)]
   show 140
 rw [hc2]
 show 140
 have hpl3 := WN L (by omega)
 have ems : many = (pairs L).length := by omega
 have els : ((List.range many).map fun i => tx (L[2 * i]?.getD [] ++ [61] ++ L[2 * i + 1]?.getD [])) = ((pairs L).map eqL).map tx := by
  rw [ZAy, <- Yfw (l := pairs L) (d := ([], [])) (f := tx ∘ eqL), <- ems]
  refine List.map_congr_left fun i hi => ?_
  rw [ZBy] at hi
  obtain ⟨p1, p2⟩ := Yal L i (by omega) (by omega)
  rw [p1, p2]
  rfl
 have hfl := Yg1 (pairs L)
 rw [Vf L (by omega)] at hfl
 rw [els]
 have hjn : joinR (sT [59, 32]) (((pairs L).map eqL).map tx) S = .ok (tx (YlR [59, 32] ((pairs L).map eqL))) S := Ydo (by rw [hfl, List.length_map]; simp only [List.length_cons, List.length_nil]; omega)
 have hgl := Yeh [59, 32] ((pairs L).map eqL)
 rw [hfl, ZAH] at hgl
 simp only [List.length_cons, List.length_nil] at hgl
 have hT : (YlR [59, 32] ((pairs L).map eqL)).length <= 100 /\ ∀ c ∈ YlR [59, 32] ((pairs L).map eqL), c < 128 := by
  refine ⟨by omega, fun c hc => ?_⟩
  rcases YcY _ _ c hc with hc | ⟨l, hl, hc⟩
  ·show 230
   omega
  ·obtain ⟨e, he, rfl⟩ := ZAj.mp hl
   have hm := Ybj L e he
   unfold eqL at hc
   show 229
   ·show 229
    ·exact e4 _ hm.1 c hc
    ·show 230
     omega
   ·exact e4 _ hm.2 c hc
 rw [hjn]
 generalize YlR [59, 32] ((pairs L).map eqL) = T at hT
 have hTl := hT.1
 show 140
 obtain ⟨pc, hpc, hpc1⟩ : ∃ p : Nat, first / 140 % ((T.length : Int) + 1) = (p : Int) /\ p <= T.length := by
  have h0 := ZCA (first / 140) (b := (T.length : Int) + 1) (by omega)
  have h1 := ZBw (first / 140) (b := (T.length : Int) + 1) (by omega)
  exact ⟨(first / 140 % ((T.length : Int) + 1)).toNat, by omega, by omega⟩
 rw [hpc]
 obtain ⟨sc, sc1, sc2⟩ := JB (l := sg9) (i := first / 3 % 9) (st := S) (by omega) (by rw [show sg9.length = 9 by decide]; omega) (by decide)
 have hsc : [sc].length <= 1 /\ ∀ x ∈ [sc], x < 128 := ⟨by simp, fun x hx => by
  rw [ZA1.mp hx]
  exact (by decide : ∀ c ∈ sg9, c < 128) sc (ZBM sc1)⟩
 rw [sc2]
 show 140
 rw [hc0 hG2]
 show 140
 have hln1 : ∀ a b : Nat, (T.take a).length <= 100 /\ (T.drop b).length <= 100 := fun a b => by rw [ZAm, ZAr]; omega
 have add3 : ∀ a b : Nat, Yl6 (tx (T.take a ++ [sc])) (tx (T.drop b)) S = some (tx (T.take a ++ [sc] ++ T.drop b), S) := fun a b => Z1 (by have := hln1 a b; rw [ZAD, ZAg]; omega)
 have add2 : ∀ a : Nat, Yl6 (tx (T.take a)) (tx [sc]) S = some (tx (T.take a ++ [sc]), S) := fun a => Z1 (by have := hln1 a 0; rw [ZAg]; omega)
 have addc : ∀ a b : Nat, Yl6 (tx (T.take a)) (tx (T.drop b)) S = some (tx (T.take a ++ T.drop b), S) := fun a b => Z1 (by have := hln1 a b; omega)
 have sfrom : ∀ b : Nat, slP (tx T) (some (b : Int)) none S = some (tx (T.drop b), S) := fun b => Ybs (by omega)
 have sto : ∀ b : Nat, slP (tx T) none (some (b : Int)) S = some (tx (T.take b), S) := fun b => YbR (by omega)
 have e1p : ((pc : Int) + 1) = ((pc + 1 : Nat) : Int) := by omega
 generalize hway : ns.getD 0 0 / 2 % 6 = way
 by_cases h1 : way = 1
 ·subst h1
  show 140
  simp only [e1p, sto, sfrom, add2, add3, Vx, R.bind_ok, RS.ofE_ok]
  show 140
  exact ⟨_, S, hG2, rfl, Okt.cut hT hsc (by omega)⟩
 ·rw [show (way == 1) = false by rw [beq_eq_false_iff_ne]; exact h1]
  show 140
  by_cases h3 : way = 3
  ·subst h3
   show 140
   simp only [e1p, sto, sfrom, add2, add3, Vx, R.bind_ok, RS.ofE_ok]
   show 140
   exact ⟨_, S, hG2, rfl, Okt.cut hT hsc (ZAI _)⟩
  ·rw [show (way == 3) = false by rw [beq_eq_false_iff_ne]; exact h3]
   show 140
   by_cases h5 : way = 5
   ·subst h5
    show 140
    simp only [e1p, sto, sfrom, addc, Vx, R.bind_ok, RS.ofE_ok]
    show 140
    refine ⟨_, S, hG2, rfl, ?_⟩
    have := Okt.cut (c := []) (a := pc) (b := pc + 1) hT ⟨by simp, fun x hx => by cases hx⟩ (by omega)
    rw [ZAZ] at this
    exact this
   ·rw [show (way == 5) = false by rw [beq_eq_false_iff_ne]; exact h5]
    show 140
    exact ⟨T, S, hG2, rfl, by omega, hT.2⟩
theorem kinds {tb : Sys} {st : YlA} (h6 : tb.length <= 6) : YQ [YlG tb] st = .ok (.bl true) st := by
 unfold YQ Wj YlG
 show 24
 obtain ⟨ρ', s', e1, w1, e2, e3⟩ := VE (src := Ynr (tb.map YlX)) (g := YlC 1) (m := ZW) (N := tb.length) (ρ := [some (.tup (tb.map YlX)), none]) (st := st) tb YlX (fun i ρ s => ∃ w1, ρ = [some (.tup (tb.map YlX)), w1] /\ s = st) rfl (fun i ρ s hi _ => nxL) ⟨none, rfl, rfl⟩ (fun i hi ρ s ⟨w1, q1, q2⟩ => by
  show 176
  generalize tb[i] = e
  show 205
  unfold ZW YlX
  show 140
  exact ⟨_, _, rfl, _, rfl, rfl⟩)
 rw [e1]
 subst e2; subst e3
 show 140
theorem Yeg {n : Nat} {l : List Nat} : Yl9 n (tx l) = true := by cases n <;> rfl
theorem YgL {tb : Sys} : Yl9 7 (YlG tb) = true := by
 show (tb.map YlX).all (Yl9 6) = true
 rw [ZA7]
 intro x hx
 obtain ⟨e, _, rfl⟩ := ZAj.mp hx
 show [tx e.1, tx e.2].all (Yl9 5) = true
 simp [Yeg]
theorem Ye8 {t : List Nat} (h : t.length <= 200) : Yl9 8 (YmI t) = true /\ ((∃ (w : Str) (r : List P), YmI t = .tup (.str w :: r) /\ (w == ("told" : Str)) = false) \/ ∃ tb, YmI t = .tup [.str "told", YlG tb] /\ tb.length <= 6) := by
 unfold YmI
 cases w : wrt t with
 | none => exact ⟨rfl, .inl ⟨_, _, rfl, by decide⟩⟩
 | some tb =>
  show 143
  cases q : thr [] (spots tb) with
  | some x =>
   refine ⟨?_, .inl ⟨_, _, rfl, by decide⟩⟩
   show [P.str "thrice", tx [x.1], .int x.2.1, .int x.2.2.1, .int x.2.2.2].all (Yl9 7) = true
   simp [Yeg, Yl9]
  | none =>
   show 143
   cases q2 : due5 tb with
   | some ab => exact ⟨rfl, .inl ⟨_, _, rfl, by decide⟩⟩
   | none =>
    refine ⟨?_, .inr ⟨tb, rfl, (YnO.of_wrt h w).1.six⟩⟩
    show [P.str "told", YlG tb].all (Yl9 7) = true
    simp [YgL, Yl9]
theorem Yd8 {s s' : YlA} {p : P} {t : String} (g : YlK s s') (ht : tyP p s = some t) : tyP p s' = some t := by
 cases p with
 | ref k =>
  have h' : (match s[k]? with | some (O.lst _) => some "list" | some (O.ro _) => some "list" | some (O.dct _) => some "dict" | _ => none) = some t := ht
  cases q : s[k]? with
  | none => rw [q] at h'; cases h'
  | some o =>
   rw [q] at h'
   show (match s'[k]? with | some (O.lst _) => some "list" | some (O.ro _) => some "list" | some (O.dct _) => some "dict" | _ => none) = some t
   rw [g.get q]
   exact h'
 | _ => exact ht
theorem Ye9 {xs : List P} {st : YlA} {k : Nat} {v0 v1 v2 : Option P} (hk : st[k]? = some (.lst xs)) (hx : ∀ x ∈ xs, ∃ ty, tyP x st = some ty /\ Ynk ty "str" = false) :
 ∃ w3 s', Ymi (YmN k xs.length) (YlC 3) Wy xs.length 0 [v0, v1, v2, none] st = .nx [v0, v1, v2, w3] s' := by
 obtain ⟨ρ', s', e1, w3, e2, e3⟩ := VE (src := YmN k xs.length) (g := YlC 3) (m := Wy) (N := xs.length) (ρ := [v0, v1, v2, none]) (st := st) xs id (fun i ρ s => ∃ w3, ρ = [v0, v1, v2, w3] /\ YlK st s) rfl (fun i ρ s hi ⟨_, _, g⟩ => by
  have := nxK (n := xs.length) (i := i) (xs := xs) (enc := id) (st := s) (k := k) (by rw [List.map_id]; exact g.listAt (YE hk))
  exact this) ⟨none, rfl, YlK.refl⟩ (fun i hi ρ s ⟨w3, q1, g⟩ => by
  subst q1
  obtain ⟨ty, t1, t2⟩ := hx xs[i] (ZAs hi)
  generalize xs[i] = x at t1
  show 205
  obtain ⟨s2, g2, e2⟩ := Yd2 (p := x) (st := s) fun s' g' => ⟨s', YlK.refl, Yiq (Yd8 (g.trans g') t1) t2⟩
  unfold Wy
  show ∃ ρ' s', _ /\ _
  dsimp only [id]
  show 140
  show 49
  rw [V5 (by rfl)]
  show 140
  exact ⟨_, _, rfl, _, rfl, g.trans g2⟩)
 exact ⟨w3, s', by rw [e1, e2]⟩
theorem holds : Law 63 Yc4 := fun ns hl => by
 unfold Yc4 YfQ
 show 140
 generalize hst0 : [O.ro (ns.map P.int)] = st0
 have k0 : st0[0]? = some (.ro (ns.map P.int)) := by rw [<- hst0]; rfl
 obtain ⟨t0, s1, g1, e1, o1⟩ := Yf5 k0 hl
 show 86
 rw [show Yq [.ref 0, .int 0] s1 = .ok (.int (ns.getD 0 0)) s1 from Yen 0 (g1.get k0)]
 show 140
 have key : ∀ (t : List Nat) (s : YlA), Okt t -> YlK st0 s -> ∃ st, Yoz ((YlN (Yma 2 (YlQ 1 Yt (Yly (Ylz 1) YlD)))
 (YlN (sIf (Yn0 (Yl3 (YlB isP (Ylz 2) (eC .non))) (Yl3 (YlB neP (Ylz 2) (YlQ 1 Y5 (Yly (Ylz 1) YlD)))))
 (YlZ (eC (.bl false)))
 Ymk)
 (YlN (sIf (Yno (Yl3 (YlB eqP (YlB ixP (Ylz 2) (eC (.int 0))) (eC (.str "told")))) (Ymu (YmK (YlQ 1 YQ (Yly (YlB ixP (Ylz 2) (eC (.int 1))) YlD)))))
 (YlZ (eC (.bl false)))
 Ymk)
 (YlN (YmZ (YmQ (YmX (lMk (Yly (eC .non) (Yly (eC (.int 3)) (Yly (Ymt (Yly (Ylz 1) YlD)) (Yly (YmX (lMk (Yly (Ylz 1) YlD))) (Yly (Ymt (Yly (Ymt (Yly (eC (.str "a")) (Yly (eC (.str "b")) YlD))) YlD)) YlD)))))))) (YlC 3)
 Wy)
 (YlZ (eC (.bl true))))))) [some (.ref 0), some (tx t), none, none] s) = .ok (.bl true) st := fun t s ot gs => by
  have ht := ot.1
  obtain ⟨s2, g2, e2⟩ := found (t := t) (st := s) (by omega)
  obtain ⟨s3, g3, e3⟩ := due (t := t) (st := s2) (by omega) ot.2
  obtain ⟨hp, hcase⟩ := Ye8 (t := t) (by omega)
  have tailE : ∀ v2 : Option P, ∃ st, Yoz ((YlN (YmZ (YmQ (YmX (lMk (Yly (eC .non) (Yly (eC (.int 3)) (Yly (Ymt (Yly (Ylz 1) YlD)) (Yly (YmX (lMk (Yly (Ylz 1) YlD))) (Yly (Ymt (Yly (Ymt (Yly (eC (.str "a")) (Yly (eC (.str "b")) YlD))) YlD)) YlD)))))))) (YlC 3) Wy) (YlZ (eC (.bl true)))) [some (.ref 0), some (tx t), v2, none] s3) = .ok (.bl true) st := fun v2 => by
   show 140
   rw [ZE (YE Yn)]
   show 140
   obtain ⟨w3, s', el⟩ := Ye9 (xs := [.non, .int 3, .tup [tx t], .ref s3.length, .tup [.tup [.str "a", .str "b"]]]) (st := s3 ++ [O.lst [tx t]] ++ [O.lst [.non, .int 3, .tup [tx t], .ref s3.length, .tup [.tup [.str "a", .str "b"]]]]) (k := (s3 ++ [O.lst [tx t]]).length) (v0 := some (.ref 0)) (v1 := some (tx t)) (v2 := v2) Yn (fun x hx => by
    simp only [List.mem_cons, List.not_mem_nil, or_false] at hx
    rcases hx with rfl | rfl | rfl | rfl | rfl
    ·exact ⟨_, rfl, by decide⟩
    ·exact ⟨_, rfl, by decide⟩
    ·exact ⟨_, rfl, by decide⟩
    ·refine ⟨"list", ?_, by decide⟩
     exact Yd8 (s := s3 ++ [O.lst [tx t]]) YlK.one (by
      show (match (s3 ++ [O.lst [tx t]])[s3.length]? with | some (O.lst _) => some "list" | some (O.ro _) => some "list" | some (O.dct _) => some "dict" | _ => none) = some "list"
      rw [Yn])
    ·exact ⟨_, rfl, by decide⟩)
   have el' : Ymi (YmN (s3 ++ [O.lst [tx t]]).length 5) (YlC 3) Wy 5 0 [some (.ref 0), some (tx t), v2, none] (s3 ++ [O.lst [tx t]] ++ [O.lst [.non, .int 3, .tup [tx t], .ref s3.length, .tup [.tup [.str "a", .str "b"]]]]) = _ := el
   rw [el']
   show 140
   exact ⟨_, rfl⟩
  generalize hT2 : (YlN (YmZ (YmQ (YmX (lMk (Yly (eC .non) _)))) (YlC 3) Wy) (YlZ (eC (.bl true)))) = T2 at tailE ⊢
  show 140
  show 49
  rcases hcase with ⟨w, r, hf, hw⟩ | ⟨tb, hf, h6⟩
  ·rw [hf] at e3 hp ⊢
   show 140
   rw [e3]
   show 140
   rw [V5 hp]
   show 140
   rw [hw]
   show 140
   exact tailE _
  ·rw [hf] at e3 hp ⊢
   show 140
   rw [e3]
   show 140
   rw [V5 hp]
   show 140
   rw [kinds h6]
   show 140
   exact tailE _
 by_cases hq : ns.getD 0 0 % 2 = 1
 ·rw [show (ns.getD 0 0 % 2 == 1) = true from by simpa using hq]
  show 140
  obtain ⟨t, s2, g2, e2, o2⟩ := Ycv (g1.get k0) hl
  rw [e2]
  generalize hT : (YlN (Yma 2 (YlQ 1 Yt (Yly (Ylz 1) YlD))) _) = TT at key ⊢
  show 140
  exact key t s2 o2 (g1.trans g2)
 ·rw [show (ns.getD 0 0 % 2 == 1) = false from by simpa using hq]
  generalize hT : (YlN (Yma 2 (YlQ 1 Yt (Yly (Ylz 1) YlD))) _) = TT at key ⊢
  show 140
  exact key t0 s1 o1 g1
end G
end
def PySem.W.Fast.tw18165323551555690765 : Unit := ()
def PySem.W.Fast.tw15251933753791015971 : Unit := ()
def PySem.W.Fast.tw10515883615219867571 : Unit := ()
def PySem.W.Fast.tw2956518556222803678 : Unit := ()
def PySem.W.Fast.tw8657592181919329839 : Unit := ()
def PySem.W.Fast.tw12963678262509491393 : Unit := ()
def PySem.W.Fast.tw12253517804252946838 : Unit := ()
def PySem.W.Fast.tw13730762542091098927 : Unit := ()
def PySem.W.Fast.tw9220401510422534149 : Unit := ()
def PySem.W.Fast.tw1760917615816682039 : Unit := ()
def PySem.W.Fast.tw5056966701294005287 : Unit := ()
def PySem.W.Fast.tw8950974737223796089 : Unit := ()
def PySem.W.Fast.tw4908649800370947589 : Unit := ()
def PySem.W.Fast.tw4801080139168656867 : Unit := ()
def PySem.W.Fast.tw15593364901297666485 : Unit := ()
def PySem.W.Fast.tw7999469985867233548 : Unit := ()
def PySem.W.Fast.tw4078981798622019969 : Unit := ()
def PySem.W.Fast.tw6047852718645404307 : Unit := ()
def PySem.W.Fast.tw9377856500332195008 : Unit := ()
def PySem.W.Fast.tw14063982679403427911 : Unit := ()
def PySem.W.Fast.tw10666322579567218332 : Unit := ()
def PySem.W.Fast.tw2192138993150099118 : Unit := ()
def PySem.W.Fast.tw9669157094783821618 : Unit := ()
def PySem.W.Fast.tw16159662445387910907 : Unit := ()
def PySem.W.Fast.tw4533631336779735214 : Unit := ()
def PySem.W.Fast.tw12361450579294993402 : Unit := ()
def PySem.W.Fast.tw9478667114008493278 : Unit := ()
def PySem.W.Fast.tw11694041551921199532 : Unit := ()
def PySem.W.Fast.tw3366326077752417792 : Unit := ()
def PySem.W.Fast.tw684567906071850055 : Unit := ()
def PySem.W.Fast.tw16984681712832287935 : Unit := ()
def PySem.W.Fast.tw1113451988869180306 : Unit := ()
def PySem.W.Fast.tw4901742765034403976 : Unit := ()
def PySem.W.Fast.tw13220670437608727528 : Unit := ()
def PySem.W.Fast.tw16325992662452827104 : Unit := ()
def PySem.W.Fast.tw10410875690392014437 : Unit := ()
def PySem.W.Fast.tw2743018651943094414 : Unit := ()
def PySem.W.Fast.tw16582066198540769672 : Unit := ()
def PySem.W.Fast.tw456387743971588867 : Unit := ()
def PySem.W.Fast.tw14147623773534674375 : Unit := ()
def PySem.W.Fast.tw11022466808443729468 : Unit := ()
def PySem.W.Fast.tw6158673273230697664 : Unit := ()
def PySem.W.Fast.tw1683522809019760886 : Unit := ()
def PySem.W.Fast.tw2579868165377180513 : Unit := ()
def PySem.W.Fast.tw8586881207004804590 : Unit := ()
def PySem.W.Fast.tw821478561782408506 : Unit := ()
def PySem.W.Fast.tw9738228655140076426 : Unit := ()
def PySem.W.Fast.tw14562427698921115662 : Unit := ()
def PySem.W.Fast.tw6611515024003117825 : Unit := ()
def PySem.W.Fast.tw8999107894059496945 : Unit := ()
def PySem.W.Fast.tw2522096313251249117 : Unit := ()
def PySem.W.Fast.tw388799288955944473 : Unit := ()
def PySem.W.Fast.tw4773777759673434342 : Unit := ()
def PySem.W.Fast.tw3987331608197689573 : Unit := ()
def PySem.W.Fast.tw16740313898356053134 : Unit := ()
def PySem.W.Fast.tw4402866881138644412 : Unit := ()
def PySem.W.Fast.tw10594646521157874308 : Unit := ()
def PySem.W.Fast.tw15991213844656992197 : Unit := ()
def PySem.W.Fast.tw6237897509658176762 : Unit := ()
def PySem.W.Fast.tw12035585227232980295 : Unit := ()
def PySem.W.Fast.tw14256353441182849184 : Unit := ()
def PySem.W.Fast.tw11874665994414331318 : Unit := ()
def PySem.W.Fast.tw7841603971088309679 : Unit := ()
def PySem.W.Fast.tw11757739170459461390 : Unit := ()
def PySem.W.Fast.tw2772485566357281920 : Unit := ()
def PySem.W.Fast.tw7691483326861001477 : Unit := ()
def PySem.W.Fast.tw12458833380380256122 : Unit := ()
def PySem.W.Fast.tw8220113599738285312 : Unit := ()
open PySem PySem.W PyProof.Rows
set_option maxRecDepth 100000 in
set_option maxHeartbeats 0 in
theorem PySem.Challenge.cw_gapwords_k07_whole_texts_read_holds : PySem.Challenge.rw_gapwords_k07_whole_texts_read.Holds := by
 w_on; o_law; k_head; (case hw => w_witness2)
 k_fill
 refine G.walk rfl rfl (fun w h Y => PySem.W.kIn_of Y) (fun w => ?S) G.holds
 case S =>
  refine' ⟨(Mi.YlF.of ?_ ?_ ?_ ?_), (Mi.YlF.of ?_ ?_ ?_ ?_), (Mi.YlF.of ?_ ?_ ?_ ?_), (Mi.YlF.of ?_ ?_ ?_ ?_), (Mi.YlF.of ?_ ?_ ?_ ?_), (Mi.YlF.of ?_ ?_ ?_ ?_), (Mi.YlF.of ?_ ?_ ?_ ?_), (Mi.YlF.of ?_ ?_ ?_ ?_), (Mi.YlF.of ?_ ?_ ?_ ?_), (Mi.YlF.of ?_ ?_ ?_ ?_), (Mi.YlF.of ?_ ?_ ?_ ?_), (Mi.YlF.of ?_ ?_ ?_ ?_), (Mi.YlF.of ?_ ?_ ?_ ?_), (Mi.YlF.of ?_ ?_ ?_ ?_), (Mi.YlF.of ?_ ?_ ?_ ?_), (Mi.YlF.of ?_ ?_ ?_ ?_), (Mi.YlF.of ?_ ?_ ?_ ?_), (Mi.YlF.of ?_ ?_ ?_ ?_), (Mi.YlF.of ?_ ?_ ?_ ?_), (Mi.YlF.of ?_ ?_ ?_ ?_), (Mi.YlF.of ?_ ?_ ?_ ?_), (Mi.YlF.of ?_ ?_ ?_ ?_), ?_, ?_, ?_, ?_, ?_, ?_, ?_, ?_, ?_, ?_, (Mi.Ynn.of ?_), (Mi.Ynn.of ?_), (Mi.Ynn.of ?_), (Mi.ExcAt.of ?_ ?_), (Mi.ExcAt.of ?_ ?_), (Mi.YmY.of ?_ ?_ ?_ ?_ ?_ ?_ ?_ ?_ ?_), (Mi.YlM.of ?_ ?_ ?_), (Mi.YlM.of ?_ ?_ ?_), (Mi.YlM.of ?_ ?_ ?_), (Mi.YlM.of ?_ ?_ ?_), (Mi.YlM.of ?_ ?_ ?_), (Mi.YlM.of ?_ ?_ ?_), (Mi.YlM.of ?_ ?_ ?_), (Mi.YlM.of ?_ ?_ ?_), (Mi.YlM.of ?_ ?_ ?_), (Mi.YlM.of ?_ ?_ ?_), (Mi.YlM.of ?_ ?_ ?_), (Mi.YnJ.of ?_ ?_), (Mi.Ym8.of ?_ ?_ ?_ ?_ ?_ ?_ ?_), (Mi.Ym8.of ?_ ?_ ?_ ?_ ?_ ?_ ?_), (Mi.Ymz.of ?_ ?_), (Mi.Ymz.of ?_ ?_), (Mi.Ymz.of ?_ ?_), ((ZAS.mpr ⟨Mi.Yl4.of ?_ ?_ ?_ ?_, (ZAS.mpr ⟨Mi.Yl4.of ?_ ?_ ?_ ?_, (ZAS.mpr ⟨Mi.Yl4.of ?_ ?_ ?_ ?_, (fun _ h => nomatch h)⟩)⟩)⟩)), ((ZAS.mpr ⟨Mi.Yl4.of ?_ ?_ ?_ ?_, (ZAS.mpr ⟨Mi.Yl4.of ?_ ?_ ?_ ?_, (ZAS.mpr ⟨Mi.Yl4.of ?_ ?_ ?_ ?_, (fun _ h => nomatch h)⟩)⟩)⟩)), ((ZAS.mpr ⟨Mi.Yl4.of ?_ ?_ ?_ ?_, (ZAS.mpr ⟨Mi.Yl4.of ?_ ?_ ?_ ?_, (ZAS.mpr ⟨Mi.Yl4.of ?_ ?_ ?_ ?_, (fun _ h => nomatch h)⟩)⟩)⟩)), (Mi.Ymg.of ?_ ?_ ?_ ?_ ?_ ?_), (Mi.Ymg.of ?_ ?_ ?_ ?_ ?_ ?_), (Mi.Ymg.of ?_ ?_ ?_ ?_ ?_ ?_), (Mi.Ymg.of ?_ ?_ ?_ ?_ ?_ ?_), (Mi.Ymg.of ?_ ?_ ?_ ?_ ?_ ?_), (Mi.Ymg.of ?_ ?_ ?_ ?_ ?_ ?_)⟩
  any_goals (first | k_is | k_exc | kit_is)
  all_goals kernel_rfl
#print axioms PySem.Challenge.cw_gapwords_k07_whole_texts_read_holds
