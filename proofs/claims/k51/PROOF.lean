import PyProof.Rows.All
import Wide.All
import OpenK.AllK
import Wide.FinOn
import PyProof.EqAt
import PyProof.EqKinds
import PyProof.TupleCall
import Lean
import PySem.Challenge.RW_gapwords_k51_places_tied
set_option Elab.async false
set_option linter.all false
set_option maxRecDepth 100000
section
set_option hygiene false
local macro_rules
|`(tactic|show 141)=>`(tactic|k_in)
|`(tactic|show 142)=>`(tactic|try k_in)
|`(tactic|show 143)=>`(tactic|rfl)
|`(tactic|show 144)=>`(tactic|exact h.elim)
|`(tactic|show 145)=>`(tactic|dsimp only)
|`(tactic|show 146)=>`(tactic|cases h)
|`(tactic|show 147)=>`(tactic|split)
|`(tactic|show 148)=>`(tactic|refine Ya ?_ ?_)
|`(tactic|show 149)=>`(tactic|subst e)
|`(tactic|show 150)=>`(tactic|exact Yc)
|`(tactic|show 151)=>`(tactic|exact rfl)
|`(tactic|show 152)=>`(tactic|exact h1.elim)
|`(tactic|show 153)=>`(tactic|exact (jv 0))
|`(tactic|show 154)=>`(tactic|exact ⟨rfl, rfl, rfl, by decide +kernel, rfl, by decide +kernel, by decide +kernel⟩)
|`(tactic|show 155)=>`(tactic|rw [e])
|`(tactic|show 156)=>`(tactic|refine ZAA ?_)
|`(tactic|show 157)=>`(tactic|exact (jv 3))
|`(tactic|show 158)=>`(tactic|exact (jv 4))
|`(tactic|show 159)=>`(tactic|exact Yh)
|`(tactic|show 160)=>`(tactic|cases rx)
local macro_rules
|`(tactic|show 161)=>`(tactic|exact (jv 2))
|`(tactic|show 162)=>`(tactic|exact (jv 1))
|`(tactic|show 163)=>`(tactic|intro pins s σ H Q I h)
|`(tactic|show 164)=>`(tactic|rw [this])
|`(tactic|show 165)=>`(tactic|exact (fun _ => rfl))
|`(tactic|show 166)=>`(tactic|exact h'.elim)
|`(tactic|show 167)=>`(tactic|exact (fun _ _ => rfl))
|`(tactic|show 168)=>`(tactic|rw [z] at h')
|`(tactic|show 169)=>`(tactic|cases ry)
|`(tactic|show 170)=>`(tactic|refine ZAC ?_)
|`(tactic|show 171)=>`(tactic|rw [q] at h; cases h)
|`(tactic|show 172)=>`(tactic|rw [q] at h; exact h)
|`(tactic|show 173)=>`(tactic|exact Zr)
|`(tactic|show 174)=>`(tactic|exact q)
|`(tactic|show 175)=>`(tactic|refine YR ?_)
|`(tactic|show 176)=>`(tactic|subst hP hw hK)
|`(tactic|show 177)=>`(tactic|exact Yv)
|`(tactic|show 178)=>`(tactic|refine Yb ?_ ?_)
|`(tactic|show 179)=>`(tactic|exact (jv 5))
|`(tactic|show 180)=>`(tactic|refine ⟨_, rfl, ?_⟩)
local macro_rules
|`(tactic|show 181)=>`(tactic|refine Yj ?_ ?_ ?_)
|`(tactic|show 182)=>`(tactic|repeat (any_goals (first | assumption | wp_step)))
|`(tactic|show 183)=>`(tactic|intro pins s σ H D I h)
|`(tactic|show 184)=>`(tactic|intro pins s σ H x y v u Q I rx ry h)
|`(tactic|show 185)=>`(tactic|refine Y6 ?_ ?_ ?_ ?_)
|`(tactic|show 186)=>`(tactic|refine Yd ?_)
|`(tactic|show 187)=>`(tactic|have hl := rv.length)
|`(tactic|show 188)=>`(tactic|subst q1)
|`(tactic|show 189)=>`(tactic|obtain ⟨vs, h1, h2⟩ := ob)
|`(tactic|show 190)=>`(tactic|exact XOk.ext x h)
|`(tactic|show 191)=>`(tactic|obtain ⟨t, rfl⟩ := rx)
|`(tactic|show 192)=>`(tactic|have z_range := O.z_range)
|`(tactic|show 193)=>`(tactic|obtain ⟨f0, f1, f2, f3, f4, f5⟩ := hf it (by simp))
|`(tactic|show 194)=>`(tactic|exact (nomark _))
|`(tactic|show 195)=>`(tactic|simpa using this)
|`(tactic|show 196)=>`(tactic|rw [q] at e; cases e)
|`(tactic|show 197)=>`(tactic|exact (jv 10))
|`(tactic|show 198)=>`(tactic|by_cases e : p.1 = k)
|`(tactic|show 199)=>`(tactic|rw [ZAE z] at h'; exact h'.elim)
|`(tactic|show 200)=>`(tactic|refine YA ?_ ?_)
local macro_rules
|`(tactic|show 201)=>`(tactic|rw [q] at h'; exact h'.elim)
|`(tactic|show 202)=>`(tactic|have z_str := O.z_str)
|`(tactic|show 203)=>`(tactic|have z_isinstance := O.z_isinstance)
|`(tactic|show 204)=>`(tactic|have z_len := O.z_len)
|`(tactic|show 205)=>`(tactic|obtain ⟨t, rfl⟩ := r; rfl)
|`(tactic|show 206)=>`(tactic|by_cases hb : b = a)
|`(tactic|show 207)=>`(tactic|rw [z] at h; cases h)
|`(tactic|show 208)=>`(tactic|exact h' as H _ Ext.refl rp .bl)
|`(tactic|show 209)=>`(tactic|obtain ⟨o', e1⟩ := I.base.there b o e hx)
|`(tactic|show 210)=>`(tactic|exact hu)
|`(tactic|show 211)=>`(tactic|have hn := line63)
|`(tactic|show 212)=>`(tactic|obtain ⟨h1, h2⟩ := h)
|`(tactic|show 213)=>`(tactic|rcases hq with hq | hq)
|`(tactic|show 214)=>`(tactic|have z_tuple := O.z_tuple)
|`(tactic|show 215)=>`(tactic|refine YM ?_)
|`(tactic|show 216)=>`(tactic|subst hT)
|`(tactic|show 217)=>`(tactic|exact (show False from r).elim)
|`(tactic|show 218)=>`(tactic|refine ZAA (ZAC ?_))
|`(tactic|show 219)=>`(tactic|obtain ⟨e, n, ne, nf, d⟩ := I.pin p hp)
|`(tactic|show 220)=>`(tactic|obtain ⟨sl, e1⟩ := I.base.slot b o e n hb hx)
local macro_rules
|`(tactic|show 221)=>`(tactic|intro pins s σ H xs us Q I r h)
|`(tactic|show 222)=>`(tactic|simp only [z] at h'; exact h'.elim)
|`(tactic|show 223)=>`(tactic|rw [ZAF (by decide)])
|`(tactic|show 224)=>`(tactic|exact (jv 7))
|`(tactic|show 225)=>`(tactic|unfold pyNext)
|`(tactic|show 226)=>`(tactic|rcases h with h | h)
|`(tactic|show 227)=>`(tactic|refine ZAA (ZAA (ZCD ?_)))
|`(tactic|show 228)=>`(tactic|obtain ⟨t, rfl⟩ := r)
|`(tactic|show 229)=>`(tactic|simp only [w] at h'; exact h'.elim)
|`(tactic|show 230)=>`(tactic|exact Wd)
|`(tactic|show 231)=>`(tactic|exact hQ h' s.toks fun b o hb e => b' b o (fun z => hb (by simp [z])) e)
|`(tactic|show 232)=>`(tactic|intro pins s σ H x v vl vu lo hi sl Q I rx hs pl pu h)
|`(tactic|show 233)=>`(tactic|refine Z1 ?_)
|`(tactic|show 234)=>`(tactic|intro wh pins s σ H Q I h)
|`(tactic|show 235)=>`(tactic|rw [r1, r2] at ez; cases ez)
|`(tactic|show 236)=>`(tactic|obtain ⟨as, ρ, st, en, rp, h⟩ := h)
|`(tactic|show 237)=>`(tactic|rw [w] at h'; exact h'.elim)
|`(tactic|show 238)=>`(tactic|simp only [List.mem_cons, List.not_mem_nil, or_false, not_or] at hc; exact hc)
|`(tactic|show 239)=>`(tactic|obtain ⟨t1, t2, t3, t4⟩ := tr e; exact hk _ v t1 t2 t3 t4 q)
|`(tactic|show 240)=>`(tactic|refine YdG (T := "tuple") ?_ ?_ ?_ ?_ ?_)
local macro_rules
|`(tactic|show 241)=>`(tactic|show wpAny _ _ (Builtin.SmallTypes.nextOf (.ref i1) >>= _) _ _ _)
|`(tactic|show 242)=>`(tactic|have fz := hf z (by simp))
|`(tactic|show 243)=>`(tactic|exact W9)
|`(tactic|show 244)=>`(tactic|try with_reducible refine ZAi ?_)
|`(tactic|show 245)=>`(tactic|obtain ⟨v, rfl, d1⟩ := d.one)
|`(tactic|show 246)=>`(tactic|rw [q] at h; exact h.elim)
|`(tactic|show 247)=>`(tactic|rw [h1] at k1; cases k1; rw [h2] at k2; exact absurd k2 (by decide))
|`(tactic|show 248)=>`(tactic|rw [q1] at e'; cases e')
|`(tactic|show 249)=>`(tactic|intro pins s σ H x v R I rx h)
|`(tactic|show 250)=>`(tactic|rcases hc' with rfl | z1)
|`(tactic|show 251)=>`(tactic|intro value slice pins s σ H x y v u Q I rx ry h hs)
|`(tactic|show 252)=>`(tactic|exact h' as H _ Ext.refl rp .int)
|`(tactic|show 253)=>`(tactic|exact absurd (show false = true from fx) ZAO)
|`(tactic|show 254)=>`(tactic|rcases g with ⟨kvs, k, e, ey, l⟩ | ⟨kvs, k, b, e, ey, eb, l⟩)
|`(tactic|show 255)=>`(tactic|intro pins s σ H R I ⟨as, ρ, st, en, rp, h⟩)
|`(tactic|show 256)=>`(tactic|simp only [Bool.false_eq_true, if_false])
|`(tactic|show 257)=>`(tactic|exact ZAC ⟨rfl, rfl⟩)
|`(tactic|show 258)=>`(tactic|rw [q1, q2] at e'; cases e')
|`(tactic|show 259)=>`(tactic|exact Option.some.inj h1)
|`(tactic|show 260)=>`(tactic|simp only [List.mem_cons, List.not_mem_nil, or_false] at hb)
local macro_rules
|`(tactic|show 261)=>`(tactic|simp only [List.mem_cons, List.not_mem_nil, or_false] at hm)
|`(tactic|show 262)=>`(tactic|exact PassesOwn.never)
|`(tactic|show 263)=>`(tactic|obtain ⟨t', rfl⟩ := ry)
|`(tactic|show 264)=>`(tactic|exact Wt)
|`(tactic|show 265)=>`(tactic|refine Yo ?_ ?_ ?_)
|`(tactic|show 266)=>`(tactic|exact ZT)
|`(tactic|show 267)=>`(tactic|simp only [List.mem_cons, List.not_mem_nil, or_false] at hc)
|`(tactic|show 268)=>`(tactic|subst ey)
|`(tactic|show 269)=>`(tactic|refine je_B (id := "len") ?_ ?_ ?_ ?_ ?_)
|`(tactic|show 270)=>`(tactic|rw [ZAK])
|`(tactic|show 271)=>`(tactic|refine Zg ?_)
|`(tactic|show 272)=>`(tactic|refine YD ?_ ?_)
|`(tactic|show 273)=>`(tactic|cases (show u = Value.ref b from ry))
|`(tactic|show 274)=>`(tactic|exact (Y0 Zh))
|`(tactic|show 275)=>`(tactic|refine wpAny_bind (wpAny_setField_rec hI (by simp) fun h1 g1 b1 => ?_))
|`(tactic|show 276)=>`(tactic|rw [a1])
|`(tactic|show 277)=>`(tactic|obtain ⟨z, hd, vs, rel, dd⟩ := Jj I.hok e)
|`(tactic|show 278)=>`(tactic|exact WX)
|`(tactic|show 279)=>`(tactic|refine YK ?_ ?_ ?_)
|`(tactic|show 280)=>`(tactic|rcases h with rfl | rfl | rfl | rfl | rfl | rfl | rfl <;> rfl)
local macro_rules
|`(tactic|show 281)=>`(tactic|have fTO := hf TO (by simp))
|`(tactic|show 282)=>`(tactic|simp only [List.mem_cons, List.not_mem_nil, or_false] at h)
|`(tactic|show 283)=>`(tactic|intro f cdv A outer s H E hr)
|`(tactic|show 284)=>`(tactic|have : its.toArray.size = i := by simp; omega)
|`(tactic|show 285)=>`(tactic|obtain ⟨o, e, c, d⟩ := st)
|`(tactic|show 286)=>`(tactic|exact z_tuple)
|`(tactic|show 287)=>`(tactic|refine ZAA (ZAn hz rfl (x := .ref TI) rfl (ZAA (ZAw hTI rfl ?_))))
|`(tactic|show 288)=>`(tactic|exact PySem.F.slot_list_append)
|`(tactic|show 289)=>`(tactic|have f1 := hf i1 (by simp))
|`(tactic|show 290)=>`(tactic|refine Yi ?_ ?_ ?_ ?_)
|`(tactic|show 291)=>`(tactic|have hu := YS hr)
|`(tactic|show 292)=>`(tactic|exact z_str)
|`(tactic|show 293)=>`(tactic|refine Yp ?_)
|`(tactic|show 294)=>`(tactic|exact (Zc (by decide)))
|`(tactic|show 295)=>`(tactic|exact PySem.F.plainAttrs_list)
|`(tactic|show 296)=>`(tactic|refine je_M (T := "list") (id := "list.append") ?_ ?_ ?_ ?_ ?_ ?_ ?_)
|`(tactic|show 297)=>`(tactic|exact ZC)
|`(tactic|show 298)=>`(tactic|exact ⟨o, e, fun v z => by rw [d] at z; cases z⟩)
|`(tactic|show 299)=>`(tactic|rw [show its.toArray.any (eqU x) = its.any (eqU x) by simp, Vm r fs])
|`(tactic|show 300)=>`(tactic|refine YT ?_ ?_ ?_ ?_ ?_ ?_ ?_ ?_)
local macro_rules
|`(tactic|show 301)=>`(tactic|show wpAny _ _ (field (.ref z) 3 >>= _) _ _ _)
|`(tactic|show 302)=>`(tactic|exact sc.nd)
|`(tactic|show 303)=>`(tactic|exact z_range)
|`(tactic|show 304)=>`(tactic|rcases hc with rfl | rfl | rfl | rfl | rfl)
|`(tactic|show 305)=>`(tactic|obtain ⟨h1, h2, ⟨u0, v0, h3⟩, h4, h5⟩ := st)
|`(tactic|show 306)=>`(tactic|exact Yz)
|`(tactic|show 307)=>`(tactic|refine Zj ?_)
|`(tactic|show 308)=>`(tactic|obtain ⟨i, j, rfl, rfl, q⟩ := h)
|`(tactic|show 309)=>`(tactic|exact Zv)
|`(tactic|show 310)=>`(tactic|show wpAny _ _ (Builtin.SmallTypes.ownedTupleIsFree (.ref z) >>= _) _ _ _)
|`(tactic|show 311)=>`(tactic|show wpAny _ _ (field (.ref z) 2 >>= _) _ _ _)
|`(tactic|show 312)=>`(tactic|have ei : (List.range n)[i] = i := by simp)
|`(tactic|show 313)=>`(tactic|first | exact Or.inl rfl | exact Or.inr rfl)
|`(tactic|show 314)=>`(tactic|refine ZAA (ZAn hz rfl (x := .bool false) rfl ?_))
|`(tactic|show 315)=>`(tactic|have hu8 := Yx hr)
|`(tactic|show 316)=>`(tactic|exact YO)
|`(tactic|show 317)=>`(tactic|obtain ⟨z, hd, xs, rel, dd⟩ := Yah I.hok e)
|`(tactic|show 318)=>`(tactic|exact I.fpOk (ZAI _) (I.hok.fresh (ZAI _)))
|`(tactic|show 319)=>`(tactic|exact Zz)
|`(tactic|show 320)=>`(tactic|have e : b = it := by simpa using hb)
local macro_rules
|`(tactic|show 321)=>`(tactic|refine Y7 ?_ ?_ ?_ ?_)
|`(tactic|show 322)=>`(tactic|exact z_isinstance)
|`(tactic|show 323)=>`(tactic|have f2 := hf i2 (by simp))
|`(tactic|show 324)=>`(tactic|have hT : s.TypeIs (.ref z) "zip" := ⟨_, hz, rfl⟩)
|`(tactic|show 325)=>`(tactic|refine ⟨?_, ?_, ?_⟩)
|`(tactic|show 326)=>`(tactic|exact PySem.F.type_list_append)
|`(tactic|show 327)=>`(tactic|have hi' : i < n := by simpa using hi)
|`(tactic|show 328)=>`(tactic|exact (hr.mono (by decide)))
|`(tactic|show 329)=>`(tactic|rcases hc with rfl | rfl | rfl | rfl <;> assumption)
|`(tactic|show 330)=>`(tactic|intro X hP hw hK hc i pins s σ H E I hf st hg)
|`(tactic|show 331)=>`(tactic|exact Z3)
|`(tactic|show 332)=>`(tactic|exact Yk)
|`(tactic|show 333)=>`(tactic|refine YJ ?_ ?_ ?_ ?_ ?_)
|`(tactic|show 334)=>`(tactic|exact ZD)
|`(tactic|show 335)=>`(tactic|exact YV)
|`(tactic|show 336)=>`(tactic|exact F__law_cell_at)
|`(tactic|show 337)=>`(tactic|intro C s₀ H₀ ex)
|`(tactic|show 338)=>`(tactic|refine YY ?_ ?_ ?_ ?_)
|`(tactic|show 339)=>`(tactic|have e : b = s.heap.objs.size := by simpa using hb)
|`(tactic|show 340)=>`(tactic|refine Vf ?_ ?_)
local macro_rules
|`(tactic|show 341)=>`(tactic|exact YZ)
|`(tactic|show 342)=>`(tactic|refine Yy (ps := ["_law_script", "_law_k"]) (k := 1) ?_ ?_ ?_ ?_)
|`(tactic|show 343)=>`(tactic|exact z_len)
local macro_rules|`(tactic|show $n:num)=>do
 let some l:=("178 128;283 129;186 293;328 151 148;181 306;150 0;321 210;181 316;159 167;14 185;151 313;265 80;330 176;33 150;178 279;215 307;3 153;82 335 32 292 309;148 162;269 297 132;188 180;148 159;178 81;191 263;142 216;148 157;175 153;294 84 265;83 134;151 86;4 159;10 266;151 322 332 151;148 161;150 150;2 230;186 279;85 148;233 17;141 270;184 308 23;177 2;89 278;88 130 130 264;334 295;276 141;148 153;159 159;87 133;268 277;267 304;267 329;282 280;164 143;299 174;186 81;272 265;141 45;324 225;339 149 318;284 164;150 159;153 162;165 93;165 2;146 189;268 273 317;188 327 312;136 21;92 285 298;11 36;91 4;3 162;0 173;0 6;12 305;12 193;311 314 301 287 310;210 162 157;281 289 323;302 10;333 262 151;200 300;186 271;337 325;338 131;286 319;0 15;340 151;7 181;21 21;186 128;320 149;35 177;194 2;155 143;233 82;141 216;151 151;210 153;179 167;153 159;165 186;145 147;145 275;160 169;94 138;48 26;135 11;135 27;47 194;46 140;90 90;28 139;25 150;24 142;19 137;133 37;34 274 11;18 150;18 5;16 150;14 17;7 6;148 224 150;6 157;6 161;6 162;290 80;291 315;272 11;151 303;151 343 331;150 22;296 44 288 326 341;150 274;342 336 16;148 197;243 177;224 148;34 2".splitOn ";")[n.getNat]?|Lean.Macro.throwUnsupported
 let a:=(l.splitOn " ").toArray.map fun s=>Lean.Syntax.mkNumLit s
 `(tactic|($[show $a:num];*))
set_option hygiene true
abbrev VSP := PySem.Value -> PySem.Shared -> Prop
abbrev LAO := List (PySem.Addr × PySem.Obj)
abbrev SOV := PySem.Str -> Option PySem.Value
open PySem.W (Frag fnOf nsIn)
section
open PySem PySem.Spec PyProof.Rows
def ZAA := @wpAny_bind
def ZAB := @List.getElem?_eq_some_iff
def ZAC := @wpAny_pure
def ZAD := @Heap.get?_push_of_some
def ZAE := @if_neg
def ZAF := @if_pos
def ZAG := @Heap.lt_size
def ZAH := @Heap.get?_push_size
def ZAI := @Nat.le_refl
def ZAJ := @List.length_append
def ZAK := @List.length_map
def ZAL := @List.getElem?_set_ne
def ZAM := @List.mem_cons_self
def ZAN := @Nat.ne_of_lt
def ZAO := @Bool.false_ne_true
def ZAP := @Nat.lt_of_lt_of_le
def ZAQ := @List.mem_cons_of_mem
def ZAR := @List.getElem?_set_self
def ZAS := @decide_eq_false
def ZAT := @List.getElem?_eq_getElem
def ZAU := @List.map_append
def ZAV := @Nat.le_trans
def ZAW := @List.take_succ_eq_append_getElem
def ZAX := @List.map_cons
def ZAY := @List.mem_map
def ZAZ := @List.getElem?_map
def ZAa := @decide_eq_true
def ZAb := @List.getElem_mem
def ZAc := @List.mem_cons
def ZAd := @List.mem_singleton
def ZAe := @List.mem_append_right
def ZAf := @Heap.size_push
def ZAg := @List.length_singleton
def ZAh := @List.mem_append
def ZAi := @wpAny_holding
def ZAj := @wpAny_call_entry
def ZAk := @Bool.and_eq_true
def ZAl := @List.size_toArray
def ZAm := @List.length_take
def ZAn := @wpAny_field
def ZAo := @List.take_length
def ZAq := @Heap.get?_update_other
def ZAr := @List.foldl_cons
def ZAs := @Ne.symm
def ZAt := @List.idxOf_lt_length_of_mem
def ZAu := @wpAny_newObj_type
def ZAv := @Nat.lt_succ_of_lt
def ZAw := @wpAny_seqItems
def ZAx := @Nat.lt_succ_self
def ZAy := @List.getElem?_append_left
def ZAz := @List.getElem?_eq_none_iff
def ZA0 := @Int.toNat_natCast
def ZA1 := @List.getElem?_eq_none
def ZA2 := @List.length_cons
def ZA3 := @List.map_map
def ZA4 := @List.length_range
def ZA5 := @List.take_append_drop
def ZA6 := @Nat.ne_of_gt
def ZA7 := @List.all_eq_true
def ZA8 := @wpAny_mono
def ZA9 := @List.mem_of_getElem?
def ZBA := @of_decide_eq_true
def ZBB := @List.append_assoc
def ZBC := @List.take_of_length_le
def ZBD := @List.lookup_cons
def ZBE := @wpAny_Call_Name_kw
def ZBF := @Heap.get?_update_self
def ZBG := @List.mem_range
def ZBH := @List.mem_append_left
def ZBI := @congrArg
def ZBJ := @Bool.and_eq_true_iff
def ZBK := @Nat.lt_irrefl
def ZBL := @List.all_cons
def ZBM := @List.any_cons
def ZBN := @Nat.zero_le
def ZBO := @wpAny_passesOwn
def ZBP := @Array.getElem?_toList
def ZBQ := @List.set_getElem_self
def ZBR := @List.getElem?_append_right
def ZBS := @wpAny_attempt
def ZBT := @wpAny_setState_of
def ZBU := @Bool.not_false
def ZBV := @Nat.le_of_lt
def ZBW := @wpAny_typeOf
def ZBX := @wpAny_askSetting
def ZBY := @List.flatMap_append
def ZBZ := @List.map_congr_left
def ZBa := @Bool.not_true
def ZBb := @List.find?_cons
def ZBc := @List.find?_eq_none
def ZBd := @List.getElem_idxOf
def ZBe := @Array.getElem?_eq_none
def ZBf := @Option.map_eq_none_iff
def ZBg := @wpAny_truthy_bool
def ZBh := @List.any_eq_false
def ZBi := @List.nodup_append
def ZBj := @List.findIdx_cons
def ZBk := @List.flatMap_cons
def ZBl := @List.foldl_append
def ZBm := @List.length_drop
def ZBn := @wpAny_rule
def ZBo := @wpAny_pyIter_zip
def ZBp := @wpAny_isInstance
def ZBq := @Nat.le_add_right
def ZBr := @List.getElem_map
def ZBs := @List.getD_eq_getElem?_getD
def ZBt := @Value.isStrOf_shape
def ZBu := @List.append_nil
def ZBv := @List.nodup_cons
def ZBw := @List.length_set
def ZBx := @List.idxOf_cons
def ZBy := @Nat.lt_of_le_of_lt
def ZBz := @List.reverse_cons
def ZB0 := @Option.isSome_map
def ZB1 := @wpAny_pyIter_list
def ZB2 := @List.pairwise_map
def ZB3 := @List.sum_cons
def ZB4 := @wpAny_execs_nil
def ZB5 := @List.of_mem_zip
def ZB6 := @wpAny_updateSeq_pair
def ZB7 := @List.nil_append
def ZB8 := @List.mem_of_mem_take
def ZB9 := @wpAny_runValue
def ZCA := @List.mem_filterMap
def ZCB := @decide_eq_true_iff
def ZCC := @List.length_eraseIdx_of_lt
def ZCD := @wpAny_onRaise
def ZCE := @List.take_add_one
def ZCF := @List.idxOf_append
def ZCG := @wpAny_load
def ZCH := @wpAny_letOwnedTupleGo_zip
def ZCI := @Array.getElem?_eq_getElem
def ZCJ := @List.drop_eq_getElem_cons
def ZCK := @List.set_eq_of_length_le
def ZCL := @List.ext_getElem
def ZCM := @wpAny_forIn_list
def ZCN := @List.length_eq_zero_iff
def ZCO := @List.mem_filter
def ZCP := @wpAny_specialOf
def ZCQ := @wpAny_ite_split
def ZCR := @List.length_zip
def ZCS := @Option.map_eq_some_iff
def ZCT := @Nat.le_succ
def ZCU := @wpAny_letGo
def ZCV := @List.drop_of_length_le
def ZCW := @Array.mem_of_getElem?
def ZCX := @List.set_append_right
def ZCY := @Array.mem_toList_iff
def ZCZ := @Nat.not_lt
def ZCa := @Bool.false_or
def ZCb := @wpAny_standAt
def ZCc := @List.map_nil
def ZCd := @Nat.zero_add
def ZCe := @Int.zero_add
end
set_option Elab.async false
set_option linter.all false
set_option maxRecDepth 100000
namespace L2
open PySem PySem.Spec PyProof.Rows
abbrev Key := Sum Int Str
def Ynj : Key -> Value -> Bool
 | .inl k, v => Value.isInt k v
 | .inr x, v => Value.isStrOf x v
def Ypx (w : World) : Key -> Int
 | .inl k => hashInt k
 | .inr x => hashStr w x
theorem Yw : ∀ {k : Key} {v : Value}, Ynj k v = true -> (∃ i t, k = Sum.inl i /\ v = Value.int i t) \/ (∃ x t, k = Sum.inr x /\ v = Value.str x t)
 | .inl i, v, h => by
  obtain ⟨t, e⟩ := Value.isInt_shape (k := i) (v := v) h
  exact .inl ⟨i, t, rfl, e⟩
 | .inr x, v, h => by
  obtain ⟨t, e⟩ := ZBt (x := x) (v := v) h
  exact .inr ⟨x, t, rfl, e⟩
theorem Yet (i : Int) (t : Tok) : Ynj (.inl i) (.int i t) = true := by simp [Ynj, Value.isInt]
theorem Yer (x : Str) (t : Tok) : Ynj (.inr x) (.str x t) = true := by simp [Ynj, Value.isStrOf]
theorem Yjf (a b : Int) : decide ((Sum.inl a : Key) = Sum.inl b) = (a == b) := by
 by_cases e : a = b
 ·subst e; simp
 ·have h : ¬ (Sum.inl a : Key) = Sum.inl b := fun q => e (Sum.inl.inj q)
  rw [ZAS h]
  exact (beq_eq_false_iff_ne.mpr e).symm
theorem Ykg (a b : Str) : decide ((Sum.inr a : Key) = Sum.inr b) = decide (a = b) := by
 by_cases e : a = b
 ·subst e; simp
 ·have h : ¬ (Sum.inr a : Key) = Sum.inr b := fun q => e (Sum.inr.inj q)
  rw [ZAS h, ZAS e]
theorem YjZ (a : Int) (b : Str) : decide ((Sum.inl a : Key) = Sum.inr b) = false := ZAS (fun q => nomatch q)
theorem YjX (a : Str) (b : Int) : decide ((Sum.inr a : Key) = Sum.inl b) = false := ZAS (fun q => nomatch q)
def Ylv (prog : Program) (w : World) : PySem.KeyKind prog w Key where
 is := Ynj
 hash := Ypx w
 inj := fun v a b ha hb => by
  rcases Yw ha with ⟨i, t, rfl, rfl⟩ | ⟨x, t, rfl, rfl⟩
  ·rcases Yw hb with ⟨j, u, rfl, e⟩ | ⟨y, u, rfl, e⟩
   ·injection e with e1 _; rw [e1]
   ·exact nomatch e
  ·rcases Yw hb with ⟨j, u, rfl, e⟩ | ⟨y, u, rfl, e⟩
   ·exact nomatch e
   ·injection e with e1 _; rw [e1]
 byValue := fun k v h => by
  rcases Yw h with ⟨i, t, rfl, rfl⟩ | ⟨x, t, rfl, rfl⟩ <;> rfl
 pyHash := fun hv h => by
  rcases Yw hv with ⟨i, t, rfl, rfl⟩ | ⟨x, t, rfl, rfl⟩
  ·exact wpAny_pyHash_int h
  ·exact wpAny_pyHash_str h
 eqBool := fun hu hv h => by
  rcases Yw hu with ⟨i, t, rfl, rfl⟩ | ⟨x, t, rfl, rfl⟩
  ·rcases Yw hv with ⟨j, u, rfl, rfl⟩ | ⟨y, u, rfl, rfl⟩
   ·rw [Yjf] at h; exact wpAny_eqBool_int h
   ·rw [YjZ] at h; exact SeqAt.EqAt.int_str i t y u _ _ _ _ h
  ·rcases Yw hv with ⟨j, u, rfl, rfl⟩ | ⟨y, u, rfl, rfl⟩
   ·rw [YjX] at h; exact SeqAt.EqAt.str_int x t j u _ _ _ _ h
   ·rw [Ykg] at h; exact wpAny_eqBool_str h
 «strs» := fun k x t v h => by
  rcases Yw h with ⟨i, u, rfl, e⟩ | ⟨y, u, rfl, e⟩
  ·exact nomatch e
  ·injection e with e1 _
   subst e1
   cases v <;> rfl
theorem Ycs (prog : Program) (w : World) (i : Int) (t : Tok) : (Ylv prog w).is (.inl i) (.int i t) = true := Yet i t
theorem Yce (prog : Program) (w : World) (x : Str) (t : Tok) : (Ylv prog w).is (.inr x) (.str x t) = true := Yer x t
end L2
namespace L2
open PySem PySem.Spec PyProof.Rows
variable {a : Addr} {b : Addr} {h : Heap}
inductive V where
 | non | bl (b : Bool) | int (i : Int) | str (x : Str) | byt (b : Array UInt8) | flt (b : UInt64) | ref (a : Addr) | ty (n : String)
 deriving DecidableEq
def RelV : V -> Value -> Prop
 | .non, u => u = Value.none
 | .bl b, u => u = Value.bool b
 | .int i, u => ∃ t, u = Value.int i t
 | .str x, u => ∃ t, u = Value.str x t
 | .byt b, u => ∃ t, u = Value.bytes b t
 | .flt b, u => ∃ t, u = Value.float b t
 | .ref a, u => u = Value.ref a
 | .ty n, u => u = Value.type n
abbrev Vals : List V -> List Value -> Prop := Paired RelV
theorem Vals.length {xs : List V} {us : List Value} (r : Vals xs us) : xs.length = us.length := Paired.length r
theorem Vals.get : ∀ {xs : List V} {us : List Value} {i : Nat} {x : V}, Vals xs us -> xs[i]? = some x -> ∃ u, us[i]? = some u /\ RelV x u
 | _, _, _, _, .nil, e => by simp at e
 | _, _, 0, _, .cons r _, e => by simp at e; subst e; exact ⟨_, rfl, r⟩
 | _, _, i + 1, x, .cons _ t, e => by
  obtain ⟨u, h1, h2⟩ := Vals.get (i := i) (x := x) t (by simpa using e)
  exact ⟨u, by simpa using h1, h2⟩
theorem Vals.set {x : V} {u : Value} (r : RelV x u) : ∀ {xs : List V} {us : List Value} (i : Nat), Vals xs us -> Vals (xs.set i x) (us.set i u)
 | _, _, _, .nil => .nil
 | _, _, 0, .cons _ t => .cons r t
 | _, _, i + 1, .cons q t => .cons q (Vals.set r i t)
theorem Vals.append : ∀ {xs ys : List V} {us ws : List Value}, Vals xs us -> Vals ys ws -> Vals (xs ++ ys) (us ++ ws)
 | _, _, _, _, .nil, s => s
 | _, _, _, _, .cons r t, s => .cons r (Vals.append t s)
theorem Vals.take : ∀ {xs : List V} {us : List Value} (n : Nat), Vals xs us -> Vals (xs.take n) (us.take n)
 | _, _, 0, _ => .nil
 | _, _, _ + 1, .nil => .nil
 | _, _, n + 1, .cons r t => .cons r (Vals.take n t)
theorem Vals.drop : ∀ {xs : List V} {us : List Value} (n : Nat), Vals xs us -> Vals (xs.drop n) (us.drop n)
 | _, _, 0, r => r
 | _, _, _ + 1, .nil => .nil
 | _, _, n + 1, .cons _ t => Vals.drop n t
def YmY : Option V -> Option Value -> Prop
 | some v, some u => RelV v u
 | none, none => True
 | _, _ => False
def KV {κ : Type} : List (κ × V) -> List (κ × Value) -> Prop := Paired fun (p : κ × V) (q : κ × Value) => p.1 = q.1 /\ RelV p.2 q.2
def kV : Key -> V
 | .inl i => .int i
 | .inr x => .str x
inductive HO where
 /-- a list -/
 | lst (xs : List V)
 /-- a tuple (never changes) -/
 | tup (xs : List V)
 /-- a dict whose keys are ints and texts; one whose keys are tuples of ints and texts (the empty one is both) -/
 | dK (kvs : List (Key × V)) | dT (kvs : List (List Key × V))
 /-- a set of ints: its members, its size -/
 | set (S : Int -> Bool) (n : Nat)
 /-- an instance of the class at C, its dict at dx, its attributes -/
 | ins (C dx : Addr) (fs : List (Str × V))
 /-- the dict of the instance at x -/
 | own (x : Addr)
 /-- the dict of an exception -/
 | xd (fs : List (Str × V))
 /-- a bound method, f of x -/
 | met (f x : Addr)
 /-- a range object lo, lo + 1, .. below hi -/
 | rng (lo hi : Int)
 /-- a thing that is known to the object (the script; a dict while a loop walks it): read, never written while it is so -/
 | frz (o : Obj) (u : HO)
 /-- a code object's table -/
 | tbl (ps : Array Value)
 /-- any other thing, by what is true of its one object (a def of one's own: SetO a S n := HO.ext fun h => ..) -/
 | ext (φ : Heap -> Prop)
abbrev Hp := Addr -> Option HO
def upd (H : Hp) (a : Addr) (o : HO) : Hp := fun b => if b = a then some o else H b
theorem Yn {H : Hp} {o : HO} : upd H a o a = some o := by unfold upd; rw [if_pos rfl]
theorem Yf {H : Hp} {o : HO} (h : b ≠ a) : upd H a o b = H b := by unfold upd; rw [if_neg h]
theorem YkS {H : Hp} {o u : HO} (h : H a = some o) (h' : H b = some u) (d : o ≠ u) : a ≠ b := by
 intro e; subst e; rw [h] at h'; exact d (Option.some.inj h')
theorem Ye {H : Hp} {o : HO} (h : H a = some o) (h' : H b = none) : a ≠ b := by
 intro e; subst e; rw [h] at h'; cases h'
section
variable (P : Program) (w : World)
def YlV (H : Hp) (h : Heap) (a : Addr) : HO -> Prop
 | .lst xs => xs.length <= sizeLine /\ ∃ (its : List Value) (n : Nat), Vals xs its /\ h.get? a = some { cls := .type "list", data := .seq its.toArray n }
 | .tup xs => xs.length <= sizeLine /\ ∃ its : List Value, Vals xs its /\ IsTup h a its.toArray
 | .dK kvs => kvs.length <= sizeLine /\ (a == sysModules) = false /\ ∃ vs, KV kvs vs /\ h.DictOf (Ylv P w) a vs
 | .dT kvs => kvs.length <= sizeLine /\ (a == sysModules) = false /\ ∃ xs : List (List Key × Addr × Value),
  Paired (fun (p : List Key × V) (q : List Key × Addr × Value) => p.1 = q.1 /\ H q.2.1 = some (.tup (p.1.map kV)) /\ RelV p.2 q.2.2) kvs xs /\
  ∃ o es ep, h.get? a = some o /\ o.ExactDict /\ o.data = .dict es ep /\ es.toList = xs.map (entryOfKey (tupleKind (Ylv P w))) /\ (xs.map (·.1)).Nodup
 | .set S n => h.SetOf (intKind P w) a S n
 | .ins C dx fs => H dx = some (.own a) /\ fs.length <= 1000 /\ dx ≠ a /\ h.get? a = some (PySem.W.instObj C dx) /\
  ∃ mA, h.Ns1 dx mA /\ (∀ f, YmY (fs.lookup f) (mA f)) /\ PySem.Within mA (fs.map (·.1))
 | .own _ => ∃ o, h.get? a = some o
 | .xd fs => ∃ mA, h.Ns1 a mA /\ ∀ f, YmY (fs.lookup f) (mA f)
 | .rng lo hi => ∃ t u v, h.get? a = some { cls := .type "range", data := .fields #[.int lo t, .int hi u, .int 1 v] }
 | .frz o u => h.get? a = some o /\ YlV H h a u
 | .tbl ps => h.get? a = some { cls := .none, data := .fields ps }
 | .met f x => h.get? a = some (PySem.W.methodObj (.ref f) (.ref x))
 | .ext φ => φ h /\ (∃ o, h.get? a = some o) /\ ∀ h1 h2 : Heap, φ h1 -> (∀ o, h1.get? a = some o -> h2.get? a = some o) -> φ h2
def HOk (H : Hp) (h : Heap) : Prop := ∀ a o, H a = some o -> YlV P w H h a o
end
section
variable {P : Program} {w : World} {H H' : Hp} {h' : Heap} {o : HO}
theorem YlV.lt (x : YlV P w H h a o) : a < h.objs.size := by
 cases o with
 | lst xs => obtain ⟨_, _, _, _, e⟩ := x; exact ZAG e
 | tup xs => obtain ⟨_, _, _, p⟩ := x; exact p.lt
 | dK kvs => obtain ⟨_, _, _, _, o, _, _, e, _⟩ := x; exact ZAG e
 | dT kvs => obtain ⟨_, _, _, _, o, _, _, e, _⟩ := x; exact ZAG e
 | set S n => obtain ⟨o, _, _, _, e, _⟩ := x; exact ZAG e
 | ins C dx fs => obtain ⟨_, _, _, e, _⟩ := x; exact ZAG e
 | own y => obtain ⟨_, e⟩ := x; exact ZAG e
 | xd fs => obtain ⟨_, ⟨_, _, _, e, _⟩, _⟩ := x; exact ZAG e
 | rng lo hi => obtain ⟨_, _, _, e⟩ := x; exact ZAG e
 | frz ob u => obtain ⟨e, _⟩ := x; exact ZAG e
 | tbl ps => exact ZAG (show h.get? a = some _ from x)
 | met f y => exact ZAG (show h.get? a = some _ from x)
 | ext φ => obtain ⟨_, ⟨_, e⟩, _⟩ := x; exact ZAG e
theorem Paired.mapP {α β : Type} {F G : α -> β -> Prop} : ∀ {l₁ : List α} {l₂ : List β}, Paired F l₁ l₂ -> (∀ a b, F a b -> G a b) -> Paired G l₁ l₂
 | _, _, .nil, _ => .nil
 | _, _, .cons r t, f => .cons (f _ _ r) (Paired.mapP t f)
theorem YlV.stay (x : YlV P w H h a o) (k : ∀ b u, (b = a \/ H b = some (.own a)) -> h.get? b = some u -> h'.get? b = some u)
 (ho : ∀ b, H b = some (.own a) -> H' b = some (.own a)) (ht : ∀ b xs, H b = some (.tup xs) -> H' b = some (.tup xs)) : YlV P w H' h' a o := by
 induction o with
 | lst xs => obtain ⟨z, its, n, r, e⟩ := x; exact ⟨z, its, n, r, k _ _ (.inl rfl) e⟩
 | tup xs => obtain ⟨z, its, r, ob, e, c⟩ := x; exact ⟨z, its, r, ob, k _ _ (.inl rfl) e, c⟩
 | dK kvs => obtain ⟨z, y, vs, r, ob, es, ep, e, c⟩ := x; exact ⟨z, y, vs, r, ob, es, ep, k _ _ (.inl rfl) e, c⟩
 | dT kvs =>
  obtain ⟨z, y, xs, r, ob, es, ep, e, c⟩ := x
  exact ⟨z, y, xs, Paired.mapP r fun p q z => ⟨z.1, ht _ _ z.2.1, z.2.2⟩, ob, es, ep, k _ _ (.inl rfl) e, c⟩
 | set S n => obtain ⟨ob, es, ep, t, e, c⟩ := x; exact ⟨ob, es, ep, t, k _ _ (.inl rfl) e, c⟩
 | ins C dx fs =>
  obtain ⟨d, z, ne, e, mA, ⟨od, es, ep, e2, c⟩, r⟩ := x
  exact ⟨ho _ d, z, ne, k _ _ (.inl rfl) e, mA, ⟨od, es, ep, k _ _ (.inr d) e2, c⟩, r⟩
 | own y => obtain ⟨ob, e⟩ := x; exact ⟨ob, k _ _ (.inl rfl) e⟩
 | xd fs => obtain ⟨mA, ⟨od, es, ep, e, c⟩, r⟩ := x; exact ⟨mA, ⟨od, es, ep, k _ _ (.inl rfl) e, c⟩, r⟩
 | rng lo hi => obtain ⟨t, u, v, e⟩ := x; exact ⟨t, u, v, k _ _ (.inl rfl) e⟩
 | frz ob u ih => obtain ⟨e, q⟩ := x; exact ⟨k _ _ (.inl rfl) e, ih q⟩
 | tbl ps =>
  have e : h.get? a = some { cls := .none, data := .fields ps } := x
  show h'.get? a = some { cls := .none, data := .fields ps }
  exact k a _ (.inl rfl) e
 | met f y =>
  have e : h.get? a = some (PySem.W.methodObj (.ref f) (.ref y)) := x
  show h'.get? a = some (PySem.W.methodObj (.ref f) (.ref y))
  exact k a _ (.inl rfl) e
 | ext φ => obtain ⟨p, ⟨o, e⟩, st⟩ := x; exact ⟨st _ _ p fun o q => k _ _ (.inl rfl) q, ⟨o, k _ _ (.inl rfl) e⟩, st⟩
theorem HOk.lt (x : HOk P w H h) (e : H a = some o) : a < h.objs.size := (x a o e).lt
theorem HOk.fresh (x : HOk P w H h) (e : h.objs.size <= a) : H a = none := by
 cases q : H a with
 | none => rfl
 | some u => exact absurd (ZAP (x.lt q) e) (ZBK _)
theorem HOk.kept (x : HOk P w H h) (k : ∀ b u, h.get? b = some u -> h'.get? b = some u) : HOk P w H h' := fun a o e =>
 (x a o e).stay (fun b u _ q => k b u q) (fun _ q => q) fun _ _ q => q
theorem HOk.laid (x : HOk P w H h) (k : ∀ b u, h.get? b = some u -> h'.get? b = some u) (hp : h.objs.size <= a) (new : YlV P w (upd H a o) h' a o) : HOk P w (upd H a o) h' := fun b u e => by
 have hn := x.fresh hp
 show 206
 ·subst hb; rw [Yn] at e; cases e; exact new
 ·rw [Yf hb] at e
  exact (x b u e).stay (fun c v _ q => k c v q) (fun c q => by rw [Yf (Ye q hn)]; exact q) fun c xs q => by rw [Yf (Ye q hn)]; exact q
end
def Rd (H : Hp) (a : Addr) (u : HO) : Prop := H a = some u \/ ∃ o, H a = some (.frz o u)
theorem Rd.ok {P : Program} {w : World} {H : Hp} {u : HO} (r : Rd H a u) (x : HOk P w H h) : YlV P w H h a u := by
 rcases r with r | ⟨o, r⟩
 ·exact x a u r
 ·obtain ⟨_, q⟩ := x a _ r
  exact q
def Mut : Option HO -> Prop
 | some (.lst _) => True
 | some (.dK _) => True
 | some (.dT _) => True
 | some (.set _ _) => True
 | some (.ins _ _ _) => True
 | some (.ext _) => True
 | _ => False
section
variable {P : Program} {w : World} {H : Hp} {h' : Heap} {x e : Addr} {o' : HO}
theorem HOk.write (ok : HOk P w H h) (mu : Mut (H x)) (he : e = x \/ H e = some (.own x)) (k : ∀ b u, b ≠ e -> h.get? b = some u -> h'.get? b = some u) (heo : ∃ u, h'.get? e = some u)
 (new : YlV P w (upd H x o') h' x o') : HOk P w (upd H x o') h' := fun b u q => by
 have nown : ∀ c y, H c = some (.own y) -> c ≠ x := fun c y r z => by subst z; rw [r] at mu; exact mu
 have ntup : ∀ c xs, H c = some (.tup xs) -> c ≠ x := fun c xs r z => by subst z; rw [r] at mu; exact mu
 by_cases hb : b = x
 ·subst hb; rw [Yn] at q; cases q; exact new
 ·rw [Yf hb] at q
  by_cases hbe : b = e
  ·have q' : H b = some (.own x) := by
    rcases he with z | z
    ·exact absurd (hbe.trans z) hb
    ·rw [hbe]; exact z
   rw [q] at q'; cases q'
   obtain ⟨v, hv⟩ := heo
   exact ⟨v, by rw [hbe]; exact hv⟩
  ·refine (ok b u q).stay (fun c v hc r => k c v ?_ r) (fun c r => by rw [Yf (nown c b r)]; exact r) fun c xs r => by rw [Yf (ntup c xs r)]; exact r
   rcases hc with rfl | hc
   ·exact hbe
   ·rintro rfl
    rcases he with z | z
    ·exact nown c b hc z
    ·rw [hc] at z; cases z; exact hb rfl
end
structure Un (fs ex : List Addr) (H H' : Hp) (h h' : Heap) : Prop where
 keep : ∀ b o, h.get? b = some o -> H b = none -> b ∉ fs -> b ∉ ex -> h'.get? b = some o
 slot : ∀ b o, h.get? b = some o -> H b = none -> b ∈ fs -> b ∉ ex -> ∃ sl, h'.get? b = some { o with slots := sl }
 free : ∀ b o, h.get? b = some o -> H b = none -> b ∉ ex -> H' b = none
 there : ∀ b o, h.get? b = some o -> b ∉ ex -> ∃ o', h'.get? b = some o'
 tups : ∀ b xs, H b = some (.tup xs) -> H' b = some (.tup xs)
 frzs : ∀ b o u, H b = some (.frz o u) -> H' b = some (.frz o u)
 tbls : ∀ b ps, H b = some (.tbl ps) -> ∃ more, H' b = some (.tbl (ps ++ more))
section
variable {fs fs' ex ex' : List Addr} {H H1 H2 : Hp} {h1 h2 h' : Heap} {x e : Addr} {o : HO}
theorem Un.any (u : Un fs ex H H1 h h1) {ob : Obj} (q : h.get? b = some ob) (n : H b = none) (hx : b ∉ ex) : ∃ sl, h1.get? b = some { ob with slots := sl } := by
 by_cases hb : b ∈ fs
 ·exact u.slot b ob q n hb hx
 ·exact ⟨ob.slots, u.keep b ob q n hb hx⟩
theorem Un.trans (a : Un fs ex H H1 h h1) (b : Un fs ex H1 H2 h1 h2) : Un fs ex H H2 h h2 where
 keep := fun c ob q n hc hx => b.keep c ob (a.keep c ob q n hc hx) (a.free c ob q n hx) hc hx
 slot := fun c ob q n hc hx => by
  obtain ⟨sl, e1⟩ := a.slot c ob q n hc hx
  obtain ⟨sl', e2⟩ := b.slot c _ e1 (a.free c ob q n hx) hc hx
  exact ⟨sl', e2⟩
 free := fun c ob q n hx => by
  obtain ⟨o', e1⟩ := a.there c ob q hx
  exact b.free c o' e1 (a.free c ob q n hx) hx
 there := fun c ob q hx => by
  obtain ⟨o', e1⟩ := a.there c ob q hx
  exact b.there c o' e1 hx
 tups := fun c xs q => b.tups c xs (a.tups c xs q)
 frzs := fun c ob xs q => b.frzs c ob xs (a.frzs c ob xs q)
 tbls := fun c ps q => by
  obtain ⟨m1, e1⟩ := a.tbls c ps q
  obtain ⟨m2, e2⟩ := b.tbls c _ e1
  exact ⟨m1 ++ m2, by rw [e2, Array.append_assoc]⟩
theorem Un.kept (k : ∀ b u, h.get? b = some u -> h'.get? b = some u) : Un fs ex H H h h' :=
 ⟨fun b ob q _ _ _ => k b ob q, fun b ob q _ _ _ => ⟨ob.slots, k b ob q⟩, fun _ _ _ n _ => n, fun b ob q _ => ⟨ob, k b ob q⟩, fun _ _ q => q, fun _ _ _ q => q, fun _ ps q => ⟨#[], by rw [q]; simp⟩⟩
theorem Un.refl : Un fs ex H H h h := Un.kept fun _ _ q => q
theorem Un.laid (k : ∀ b u, h.get? b = some u -> h'.get? b = some u) (hp : h.objs.size <= a) (hn : H a = none) : Un fs ex H (upd H a o) h h' where
 keep := fun b u q _ _ _ => k b u q
 slot := fun b u q _ _ _ => ⟨u.slots, k b u q⟩
 free := fun b u q n _ => by rw [Yf (ZAN (ZAP (ZAG q) hp))]; exact n
 there := fun b u q _ => ⟨u, k b u q⟩
 tups := fun b xs q => by rw [Yf (Ye q hn)]; exact q
 frzs := fun b u xs q => by rw [Yf (Ye q hn)]; exact q
 tbls := fun b ps q => ⟨#[], by rw [Yf (Ye q hn), q]; simp⟩
theorem Un.write (mu : Mut (H x)) (he : e = x \/ H e = some (.own x)) (k : ∀ b u, b ≠ e -> h.get? b = some u -> h'.get? b = some u) (heo : ∃ u, h'.get? e = some u) : Un fs ex H (upd H x o) h h' := by
 have hx : ∀ b, H b = none -> b ≠ x := fun b n z => by subst z; rw [n] at mu; exact mu
 have hb : ∀ b, H b = none -> b ≠ e := fun b n z => by
  subst z
  rcases he with r | r
  ·exact hx b n r
  ·rw [n] at r; cases r
 have hm : ∀ b u, H b = some u -> ¬ Mut (some u) -> b ≠ x := fun b u q nm z => by subst z; rw [q] at mu; exact nm mu
 refine ⟨fun b u q n _ _ => k b u (hb b n) q, fun b u q n _ _ => ⟨u.slots, k b u (hb b n) q⟩, fun b u q n _ => by rw [Yf (hx b n)]; exact n, fun b u q _ => ?_,
  fun b xs q => by rw [Yf (hm b _ q fun z => z)]; exact q, fun b u xs q => by rw [Yf (hm b _ q fun z => z)]; exact q, fun b ps q => ⟨#[], by rw [Yf (hm b _ q fun z => z), q]; simp⟩⟩
 by_cases hbe : b = e
 ·subst hbe; exact heo
 ·exact ⟨u, k b u hbe q⟩
theorem Un.mono (u : Un fs ex H H1 h h1) (hs : ∀ b ∈ fs, b ∈ fs') (hx : ∀ b ∈ ex, b ∈ ex') : Un fs' ex' H H1 h h1 :=
 ⟨fun b ob q n hb he => u.keep b ob q n (fun z => hb (hs b z)) fun z => he (hx b z), fun _ _ q n _ he => u.any q n fun z => he (hx _ z), fun b ob q n he => u.free b ob q n fun z => he (hx b z), fun b ob q he => u.there b ob q fun z => he (hx b z), u.tups, u.frzs, u.tbls⟩
end
def trk (h : Heap) (H : Hp) : List Addr := (List.range h.objs.size).filter fun a => (H a).isSome
def YnB (h : Heap) (H : Hp) : Heap := PySem.W.hideAll h (trk h H)
theorem YeL (h : Heap) (H : Hp) : (YnB h H).objs.size = h.objs.size := PySem.W.hideAll_size _ _
theorem Yg7 {H : Hp} {o : Obj} (e : h.get? b = some o) (n : H b = none) : (YnB h H).get? b = some o :=
 PySem.W.hideAll_get _ e fun hm => by
  have q : (H b).isSome = true := (ZCO.mp hm).2
  rw [n] at q; simp at q
theorem YhD {H : Hp} {o : Obj} (e : (YnB h H).get? b = some o) : h.get? b = some o /\ H b = none := by
 have e' : h.get? b = some o := PySem.W.of_hideAll (trk h H) e
 refine ⟨e', ?_⟩
 cases q : H b with
 | none => rfl
 | some x =>
  have hm : b ∈ trk h H := List.mem_filter.mpr ⟨List.mem_range.mpr (Heap.lt_size e'), by simp [q]⟩
  have z : (YnB h H).get? b = none := PySem.W.hideAll_none (trk h H) hm
  rw [z] at e; cases e
def Yoz (g h : Heap) (L : Addr) : List (Addr × Obj) := (List.range h.objs.size).filterMap fun a => if a = L \/ (g.get? a).isSome = true then none else (h.get? a).map fun o => (a, o)
def rest (g h : Heap) (L d : Addr) : List (Addr × Obj) := (Yoz g h L).filter fun p => decide (p.1 ≠ d)
end L2
namespace L2
open PySem PySem.Spec PyProof.Rows
variable {t' : Nat}
structure Mod (K : Frag) (mg : SOV) (base : Heap) : Prop where
 kin : K.In base
 glob : base.Ns mainGlobals mg
 blt : ∃ mb, base.Ns builtinsNs mb /\ ∀ x : Str, x ≠ "__name__" -> mb x = bootBuiltins x
 nolimit : base.NoLimit
structure Cx where
 prog : Program
 w : World
 K : Frag
 mg : Str -> Option Value
 base : Heap
 A : Around
 N : List Str
 s₀ : Shared
 H₀ : Hp
 env : Env
 outer : List Env
 stack : List Env
 ex : List Addr
 fn : Str -> Bool
 calm : Bool
 pn : List (Addr × Obj)
 xe : Value -> Shared -> Prop
def frs (l : List Env) : List Addr := l.filterMap (·.frame)
abbrev Cx.fs (X : Cx) : List Addr := frs X.outer
def Vis (sc : Scope) (x : Str) : Prop := sc.names.lookup x = some .local \/ sc.names.lookup x = some .cell \/ sc.names.lookup x = some .free
def Loc (sc : Scope) (x : Str) : Prop := sc.names.lookup x = some .local \/ sc.names.lookup x = some .cell
def Look (env : Env) (h : Heap) (m : SOV) (x : Str) (u : Value) : Prop :=
 (env.kindOf x = some .local /\ m x = some u) \/ ((env.kindOf x = some .cell \/ env.kindOf x = some .free) /\ ∃ c, env.cells.lookup x = some c /\ h.IsCell c (some u))
structure Cx.Ok (X : Cx) : Prop where
 mod : Mod X.K X.mg X.base
 kind : X.env.scope.kind = .function
 glob : X.env.globals = mainGlobals
 blt : X.env.builtins = builtinsNs
 above : X.s₀.heap.objs.size <= X.env.locals
 inj : ∀ x y c, X.env.cells.lookup x = some c -> X.env.cells.lookup y = some c -> x = y
 has : ∀ x, (X.env.kindOf x = some .cell \/ X.env.kindOf x = some .free) -> ∃ c, X.env.cells.lookup x = some c
 cab : ∀ x c, X.fn x = true -> X.env.cells.lookup x = some c -> X.s₀.heap.objs.size <= c
 hd : X.calm = true -> X.A.handled = none
 frames : X.A.frames = some X.stack
 stk : X.stack = X.outer \/ (X.stack = X.env :: X.outer /\ X.env.frame = some X.env.locals)
 exf : ∀ b ∈ X.ex, b ≠ X.env.locals /\ ∀ x c, X.env.cells.lookup x = some c -> c ≠ b
 bs : ∀ b o, X.base.get? b = some o -> X.s₀.heap.get? b = some o /\ X.H₀ b = none
 bsz : X.base.objs.size <= X.s₀.heap.objs.size
 noex : ∀ b o, X.base.get? b = some o -> b ∉ X.ex
 exfs : ∀ b ∈ X.ex, b ∉ X.fs
 funs : X.s₀.heap.FunFrames X.base X.outer
 frf : ∀ b ∈ X.fs, X.H₀ b = none
structure Inv (X : Cx) (pins : LAO) (σ : List (Option V)) (H : Hp) (s : Shared) : Prop where
 ok : X.Ok
 os : s.os = X.s₀.os
 bare : AllBare s.gens
 base : Un X.fs X.ex X.H₀ H X.s₀.heap s.heap
 loc : ∃ m, s.heap.Ns X.env.locals m /\ ∀ (i : Nat) (x : Str) (v : V), X.N[i]? = some x -> σ[i]? = some (some v) -> Vis X.env.scope x -> ∃ u, RelV v u /\ Look X.env s.heap m x u
 cell : ∀ x c, X.env.cells.lookup x = some c -> ∃ v, s.heap.IsCell c v
 free : H X.env.locals = none
 freeC : ∀ x c, X.env.cells.lookup x = some c -> H c = none
 pin : ∀ p ∈ X.pn ++ pins, s.heap.get? p.1 = some p.2 /\ H p.1 = none /\ p.1 ≠ X.env.locals /\ p.1 ∉ X.fs /\ ∀ v, p.2.data ≠ .cell v
 hok : HOk X.prog X.w H s.heap
 len : σ.length = X.N.length
section
variable {X : Cx} {pins : LAO} {σ : List (Option V)} {H H' : Hp} {s : Shared} {h' : Heap}
theorem Cx.Ok.nofr (ok : X.Ok) {b : Addr} {o : Obj} (e : X.base.get? b = some o) : b ∉ X.fs := fun hb => by
 have := (ok.funs.mem hb).1
 rw [e] at this; cases this
theorem Inv.bs (I : Inv X pins σ H s) : ∀ b o, X.base.get? b = some o -> s.heap.get? b = some o /\ H b = none := fun b o e =>
 ⟨I.base.keep b o (I.ok.bs b o e).1 (I.ok.bs b o e).2 (I.ok.nofr e) (I.ok.noex b o e), I.base.free b o (I.ok.bs b o e).1 (I.ok.bs b o e).2 (I.ok.noex b o e)⟩
theorem Inv.bk (I : Inv X pins σ H s) : ∀ b o, X.base.get? b = some o -> s.heap.get? b = some o := fun b o e => (I.bs b o e).1
theorem Inv.mod (I : Inv X pins σ H s) : Mod X.K X.mg X.base := I.ok.mod
theorem Inv.kIn (I : Inv X pins σ H s) : X.K.In s.heap := I.ok.mod.kin.keeps I.bk
theorem Inv.nolimit (I : Inv X pins σ H s) : s.heap.NoLimit := I.ok.mod.nolimit.keeps I.bk
theorem Inv.lt (I : Inv X pins σ H s) : X.env.locals < s.heap.objs.size := let ⟨_, hn, _⟩ := I.loc; hn.lt
theorem Inv.sz (I : Inv X pins σ H s) : X.s₀.heap.objs.size <= s.heap.objs.size := ZAV I.ok.above (ZBV I.lt)
theorem Inv.nofs (I : Inv X pins σ H s) {a : Addr} (h : s.heap.objs.size <= a) : a ∉ X.fs := fun hb => by
 obtain ⟨_, o, ho, _⟩ := I.ok.funs.mem hb
 exact absurd (ZAP (ZAG ho) (ZAV I.sz h)) (ZBK _)
theorem Inv.cne (I : Inv X pins σ H s) : ∀ x c, X.env.cells.lookup x = some c -> c ≠ X.env.locals := fun x c e z => by
 obtain ⟨v, o, ho, hd⟩ := I.cell x c e
 obtain ⟨m, ⟨o', es, ep, ho', hd', _⟩, _⟩ := I.loc
 rw [z, ho'] at ho; cases ho; rw [hd'] at hd; cases hd
theorem Inv.funs (I : Inv X pins σ H s) : s.heap.FunFrames X.base X.outer := by
 have all : ∀ (l : List Env), (∀ b ∈ frs l, b ∈ X.fs) -> X.s₀.heap.FunFrames X.base l -> s.heap.FunFrames X.base l := by
  intro l
  induction l with
  | nil => intro _ _; trivial
  | cons env r ih =>
   intro hs hl
   obtain ⟨hk, ⟨L, o, hf, hn, ho, hd⟩, hr⟩ := hl
   have hL : L ∈ X.fs := hs L (by unfold frs; rw [List.filterMap_cons, hf]; exact List.mem_cons_self)
   obtain ⟨sl, e⟩ := I.base.slot L o ho (I.ok.frf L hL) hL fun z => I.ok.exfs L z hL
   exact ⟨hk, ⟨L, _, hf, hn, e, hd⟩, ih (fun b hb => hs b (by unfold frs; rw [List.filterMap_cons, hf]; exact List.mem_cons_of_mem _ hb)) hr⟩
 exact all X.outer (fun _ hb => hb) I.ok.funs
theorem Inv.stack (I : Inv X pins σ H s) : s.heap.FunFrames X.base X.stack := by
 rcases I.ok.stk with e | ⟨e, hf⟩
 ·rw [e]; exact I.funs
 ·rw [e]
  obtain ⟨m, hn, _⟩ := I.loc
  refine .cons (by rw [I.ok.kind]; decide) hf hn ?_ I.funs
  exact Heap.get?_none_of_le (ZAV I.ok.bsz I.ok.above)
theorem Inv.stkSub (I : Inv X pins σ H s) : ∀ b ∈ frs X.stack, b ∈ X.env.locals :: X.fs := fun b hb => by
 rcases I.ok.stk with e | ⟨e, hf⟩
 ·rw [e] at hb; exact ZAQ _ hb
 ·rw [e] at hb
  unfold frs at hb
  rw [List.filterMap_cons, hf] at hb
  exact hb
theorem Inv.stkFree (I : Inv X pins σ H s) : ∀ b ∈ frs X.stack, H b = none := fun b hb => by
 rcases ZAc.mp (I.stkSub b hb) with e | hb
 ·rw [e]; exact I.free
 ·obtain ⟨_, o, ho, _⟩ := I.ok.funs.mem hb
  exact I.base.free b o ho (I.ok.frf b hb) fun z => I.ok.exfs b z hb
theorem Inv.step {g' : Array GenState} {d' : Drawn} {ch : List Addr} (I : Inv X pins σ H s)
 (hch : ∀ b ∈ ch, (b ∈ X.ex \/ X.s₀.heap.objs.size <= b) /\ b ≠ X.env.locals /\ (∀ x c, X.env.cells.lookup x = some c -> c ≠ b) /\ ∀ p ∈ X.pn ++ pins, p.1 ≠ b)
 (keep : ∀ b o, b ≠ X.env.locals -> b ∉ X.fs -> b ∉ ch -> s.heap.get? b = some o -> H b = none -> h'.get? b = some o)
 (slot : ∀ b o, b ≠ X.env.locals -> b ∈ X.fs -> b ∉ ch -> s.heap.get? b = some o -> H b = none -> ∃ sl, h'.get? b = some { o with slots := sl }) (free : ∀ b o, b ∉ ch -> s.heap.get? b = some o -> H b = none -> H' b = none)
 (there : ∀ b o, b ∉ ch -> s.heap.get? b = some o -> ∃ o', h'.get? b = some o')
 (tups : ∀ b xs, H b = some (.tup xs) -> H' b = some (.tup xs)) (frzs : ∀ b o u, H b = some (.frz o u) -> H' b = some (.frz o u)) (tbls : ∀ b ps, H b = some (.tbl ps) -> ∃ more, H' b = some (.tbl (ps ++ more)))
 (ns : ∀ m, s.heap.Ns X.env.locals m -> h'.Ns X.env.locals m) (hok : HOk X.prog X.w H' h') (hg : AllBare g') :
 Inv X pins σ H' { s with heap := h', gens := g', drawn := d', toks := t' } := by
 have neL : ∀ b o, X.s₀.heap.get? b = some o -> b ≠ X.env.locals := fun b o e => ZAN (ZAP (ZAG e) I.ok.above)
 have neC : ∀ b o, X.s₀.heap.get? b = some o -> b ∉ X.ex -> b ∉ ch := fun b o e hx hb => by
  rcases (hch b hb).1 with z | z
  ·exact hx z
  ·exact absurd (ZAP (ZAG e) z) (ZBK _)
 have cellK : ∀ x c, X.env.cells.lookup x = some c -> ∀ v, s.heap.IsCell c v -> h'.IsCell c v := fun x c e v ⟨o, ho, hd⟩ => by
  have nch : c ∉ ch := fun z => (hch c z).2.2.1 x c e rfl
  by_cases hc : c ∈ X.fs
  ·obtain ⟨sl, q⟩ := slot c o (I.cne x c e) hc nch ho (I.freeC x c e)
   exact ⟨_, q, hd⟩
  ·exact ⟨o, keep c o (I.cne x c e) hc nch ho (I.freeC x c e), hd⟩
 refine ⟨I.ok, I.os, hg, ⟨fun b o e n hb hx => ?_, fun b o e n hb hx => ?_, fun b o e n hx => ?_, fun b o e hx => ?_, fun b xs e => tups b xs (I.base.tups b xs e), fun b o xs e => frzs b o xs (I.base.frzs b o xs e), fun b ps e => ?_⟩, ?_, fun x c e => ?_, ?_, fun x c e => ?_, fun p hp => ?_, hok, I.len⟩
 ·exact keep b o (neL b o e) hb (neC b o e hx) (I.base.keep b o e n hb hx) (I.base.free b o e n hx)
 ·show 220
  obtain ⟨sl', e2⟩ := slot b _ (neL b o e) hb (neC b o e hx) e1 (I.base.free b o e n hx)
  exact ⟨sl', e2⟩
 ·show 209
  exact free b o' (neC b o e hx) e1 (I.base.free b o e n hx)
 ·show 209
  exact there b o' (neC b o e hx) e1
 ·obtain ⟨m1, e1⟩ := I.base.tbls b ps e
  obtain ⟨m2, e2⟩ := tbls b _ e1
  exact ⟨m1 ++ m2, by rw [e2, Array.append_assoc]⟩
 ·obtain ⟨m, hn, hl⟩ := I.loc
  refine ⟨m, ns m hn, fun i x v e1 e2 e3 => ?_⟩
  obtain ⟨u, r, l⟩ := hl i x v e1 e2 e3
  refine ⟨u, r, ?_⟩
  rcases l with l | ⟨k, c, e, z⟩
  ·exact .inl l
  ·exact .inr ⟨k, c, e, cellK x c e _ z⟩
 ·obtain ⟨v, z⟩ := I.cell x c e
  exact ⟨v, cellK x c e v z⟩
 ·obtain ⟨m, ⟨o, _, _, ho, _⟩, _⟩ := I.loc
  exact free _ o (fun z => (hch _ z).2.1 rfl) ho I.free
 ·obtain ⟨v, o, ho, hd⟩ := I.cell x c e
  exact free c o (fun z => (hch c z).2.2.1 x c e rfl) ho (I.freeC x c e)
 ·show 219
  have nch : p.1 ∉ ch := fun z => (hch p.1 z).2.2.2 p hp rfl
  exact ⟨keep p.1 p.2 ne nf nch e n, free p.1 p.2 nch e n, ne, nf, d⟩
theorem Inv.un (I : Inv X pins σ H s) (u : Un X.fs [] H H' s.heap h') (hok : HOk X.prog X.w H' h') : Inv X pins σ H' { s with heap := h', toks := t' } := by
 obtain ⟨m, ⟨o, es, ep, ho, r⟩, _⟩ := id I.loc
 obtain ⟨sl, hL⟩ := u.any ho I.free (by simp)
 exact I.step (g' := s.gens) (d' := s.drawn) (ch := []) (fun _ z => nomatch z) (fun b o _ hb _ e n => u.keep b o e n hb (by simp)) (fun b o _ hb _ e n => u.slot b o e n hb (by simp)) (fun b o _ e n => u.free b o e n (by simp)) (fun b o _ e => u.there b o e (by simp)) u.tups u.frzs u.tbls (fun m' hm => by
  obtain ⟨o', es', ep', ho', r'⟩ := hm
  rw [ho] at ho'; cases ho'
  exact ⟨_, es', ep', hL, r'⟩) hok I.bare
theorem Inv.call {g' : Array GenState} {d' : Drawn} {ch : List Addr} (I : Inv X pins σ H s) (u : Un (frs X.stack) ch H H' s.heap h') (hok : HOk X.prog X.w H' h') (hg : AllBare g')
 (hch : ∀ b ∈ ch, (b ∈ X.ex \/ X.s₀.heap.objs.size <= b) /\ b ≠ X.env.locals /\ (∀ x c, X.env.cells.lookup x = some c -> c ≠ b) /\ ∀ p ∈ X.pn ++ pins, p.1 ≠ b) :
 Inv X pins σ H' { s with heap := h', gens := g', drawn := d', toks := t' } := by
 obtain ⟨m, ⟨o, es, ep, ho, r⟩, _⟩ := id I.loc
 obtain ⟨sl, hL⟩ := u.any ho I.free fun z => (hch _ z).2.1 rfl
 exact I.step (ch := ch) hch (fun b o hL hb hc e n => u.keep b o e n (fun z => (ZAc.mp (I.stkSub b z)).elim hL hb) hc) (fun b o _ _ hc e n => u.any e n hc) (fun b o hc e n => u.free b o e n hc) (fun b o hc e => u.there b o e hc) u.tups u.frzs u.tbls (fun m' hm => by
  obtain ⟨o', es', ep', ho', r'⟩ := hm
  rw [ho] at ho'; cases ho'
  exact ⟨_, es', ep', hL, r'⟩) hok hg
theorem Inv.turned {it : Addr} (I : Inv X pins σ H s) (k : ∀ b o, b ≠ it -> s.heap.get? b = some o -> h'.get? b = some o) (hn : H it = none) (hL : it ≠ X.env.locals)
 (h1 : it ∈ X.ex \/ X.s₀.heap.objs.size <= it) (h2 : ∀ x c, X.env.cells.lookup x = some c -> c ≠ it) (h3 : ∀ p ∈ X.pn ++ pins, p.1 ≠ it) : Inv X pins σ H { s with heap := h', toks := t' } := by
 have nit : ∀ b u, H b = some u -> b ≠ it := fun b u e z => by rw [z, hn] at e; cases e
 refine I.step (g' := s.gens) (d' := s.drawn) (ch := [it]) (fun b hb => ?_) (fun b o _ _ hc e _ => k b o (fun z => hc (by simp [z])) e) (fun b o _ _ hc e _ => ⟨o.slots, k b o (fun z => hc (by simp [z])) e⟩) (fun _ _ _ _ n => n)
  (fun b o hc e => ⟨o, k b o (fun z => hc (by simp [z])) e⟩) (fun _ _ e => e) (fun _ _ _ e => e) (fun b ps e => ⟨#[], by rw [e]; simp⟩) (fun m hm => ?_) (fun b u e => ?_) I.bare
 ·show 92
  exact ⟨h1, hL, h2, h3⟩
 ·obtain ⟨o, es, ep, ho, r⟩ := hm
  exact ⟨o, es, ep, k _ o (ZAs hL) ho, r⟩
 ·refine (I.hok b u e).stay (fun c v hc q => k c v ?_ q) (fun _ q => q) fun _ _ q => q
  rcases hc with z | z
  ·rw [z]; exact nit b u e
  ·exact nit c _ z
theorem Inv.tok (I : Inv X pins σ H s) (t : Nat) : Inv X pins σ H { s with toks := t } := I.un (h' := s.heap) (t' := t) Un.refl I.hok
theorem Inv.kept (I : Inv X pins σ H s) (k : ∀ b u, s.heap.get? b = some u -> h'.get? b = some u) : Inv X pins σ H { s with heap := h', toks := t' } := I.un (Un.kept k) (I.hok.kept k)
theorem Inv.laid {a : Addr} {o : HO} (I : Inv X pins σ H s) (k : ∀ b u, s.heap.get? b = some u -> h'.get? b = some u) (hp : s.heap.objs.size <= a) (new : YlV X.prog X.w (upd H a o) h' a o) :
 Inv X pins σ (upd H a o) { s with heap := h', toks := t' } := I.un (Un.laid k hp (I.hok.fresh hp)) (I.hok.laid k hp new)
theorem Inv.write {x e : Addr} {o : HO} (I : Inv X pins σ H s) (mu : Mut (H x)) (he : e = x \/ H e = some (.own x)) (k : ∀ b u, b ≠ e -> s.heap.get? b = some u -> h'.get? b = some u) (heo : ∃ u, h'.get? e = some u)
 (new : YlV X.prog X.w (upd H x o) h' x o) : Inv X pins σ (upd H x o) { s with heap := h', toks := t' } := I.un (Un.write mu he k heo) (I.hok.write mu he k heo new)
theorem Inv.pins_of {pins' : LAO} (I : Inv X pins σ H s) (h : ∀ p ∈ pins', s.heap.get? p.1 = some p.2 /\ H p.1 = none /\ p.1 ≠ X.env.locals /\ p.1 ∉ X.fs /\ ∀ v, p.2.data ≠ .cell v) : Inv X pins' σ H s :=
 ⟨I.ok, I.os, I.bare, I.base, I.loc, I.cell, I.free, I.freeC, fun p hp => (ZAh.mp hp).elim (fun z => I.pin p (ZBH _ z)) (h p), I.hok, I.len⟩
theorem Yau {N : List Str} (hN : N.Nodup) {i j : Nat} {x : Str} (a : N[i]? = some x) (b : N[j]? = some x) : i = j := by
 obtain ⟨h1, e1⟩ := ZAB.mp a
 obtain ⟨h2, e2⟩ := ZAB.mp b
 exact (List.getElem_inj hN).mp (e1.trans e2.symm)
theorem Ya7 {M : Model} {A : Around} {E : VSP} {i : Nat} {x : Str} {v : V} {u : Value} {Q : Unit -> Shared -> Prop} (I : Inv X pins σ H s) (hN : X.N.Nodup) (hi : X.N[i]? = some x) (hx : Loc X.env.scope x) (r : RelV v u)
 (h : ∀ s', Inv X pins (σ.set i (some v)) H s' -> (∃ a, Heap.SameBut a s.heap s'.heap /\ (a = X.env.locals \/ X.env.cells.lookup x = some a)) -> Q () s') (hf : X.fn x = true \/ X.env.scope.names.lookup x = some .local := by first | exact .inl rfl | exact .inr rfl | assumption) : wpAny M A (storeName X.env x u) Q E s := by
 obtain ⟨m, hn, hl⟩ := id I.loc
 have hcls : (X.env.scope.kind == .class || (X.env.scope.kind == .module && X.env.locals != X.env.globals)) = false := by rw [I.ok.kind]; rfl
 have hiσ : i < σ.length := by rw [I.len]; exact (ZAB.mp hi).1
 have cne := I.cne
 have tracked : ∀ {a : Addr} {h' : Heap}, (∃ o, s.heap.get? a = some o /\ H a = none) -> Heap.SameBut a s.heap h' -> HOk X.prog X.w H h' := fun {a h'} ha hs b ob e => by
  obtain ⟨_, _, hfree⟩ := ha
  refine (I.hok b ob e).stay (fun c w' hc q => (hs.2 c ?_).trans q) (fun _ q => q) fun _ _ q => q
  rintro rfl
  rcases hc with rfl | hc
  ·rw [hfree] at e; cases e
  ·rw [hfree] at hc; cases hc
 rcases hx with hk | hk
 ·refine wpAny_storeName_local hk hn (fun h' hn' hs => ?_) hcls
  obtain ⟨oL, _, _, hoL, _⟩ := id hn
  refine h _ ⟨I.ok, I.os, I.bare, ⟨fun b o e n hb hx => ?_, fun b o e n hb hx => ?_, I.base.free, fun b o e hx => ?_, I.base.tups, I.base.frzs, I.base.tbls⟩, ⟨_, hn', fun j y v' e1 e2 e3 => ?_⟩, fun y c e => ?_, I.free, I.freeC, fun p hp => ?_, tracked ⟨oL, hoL, I.free⟩ hs, by simpa using I.len⟩ ⟨_, hs, .inl rfl⟩
  ·exact (hs.2 b (ZAN (ZAP (ZAG e) I.ok.above))).trans (I.base.keep b o e n hb hx)
  ·show 220
   exact ⟨sl, (hs.2 b (ZAN (ZAP (ZAG e) I.ok.above))).trans e1⟩
  ·show 209
   exact ⟨o', (hs.2 b (ZAN (ZAP (ZAG e) I.ok.above))).trans e1⟩
  ·by_cases hj : j = i
   ·subst hj
    rw [hi] at e1; cases e1
    rw [ZAR hiσ] at e2
    cases e2
    exact ⟨u, r, .inl ⟨hk, by simp⟩⟩
   ·rw [ZAL (ZAs hj)] at e2
    obtain ⟨u', r', q⟩ := hl j y v' e1 e2 e3
    refine ⟨u', r', ?_⟩
    rcases q with ⟨k, e⟩ | ⟨k, c, e, z⟩
    ·refine .inl ⟨k, ?_⟩
     have : y ≠ x := fun e => hj (Yau hN e1 (e ▸ hi))
     simp [this, e]
    ·exact .inr ⟨k, c, e, z.sameBut hs (cne y c e)⟩
  ·obtain ⟨w', z⟩ := I.cell y c e
   exact ⟨w', z.sameBut hs (cne y c e)⟩
  ·show 219
   exact ⟨(hs.2 p.1 ne).trans e, n, ne, nf, d⟩
 ·have hfn : X.fn x = true := by
   rcases hf with z | z
   ·exact z
   ·rw [z] at hk; cases hk
  obtain ⟨c, hc⟩ := I.ok.has x (.inl hk)
  obtain ⟨w', z⟩ := I.cell x c hc
  refine wpAny_storeName_cell I.ok.kind hk hc z (fun h' hc' hs => ?_)
  obtain ⟨oc, hoc, hocd⟩ := id z
  refine h { s with heap := h' } ⟨I.ok, I.os, I.bare, ⟨fun b o e n hb hx => ?_, fun b o e n hb hx => ?_, I.base.free, fun b o e hx => ?_, I.base.tups, I.base.frzs, I.base.tbls⟩, ⟨m, hn.sameBut hs (Ne.symm (cne x c hc)), fun j y v' e1 e2 e3 => ?_⟩, fun y c' e => ?_, I.free, I.freeC, fun p hp => ?_, tracked ⟨oc, hoc, I.freeC x c hc⟩ hs, by simpa using I.len⟩ ⟨c, hs, .inr hc⟩
  ·exact (hs.2 b (ZAN (ZAP (ZAG e) (I.ok.cab x c hfn hc)))).trans (I.base.keep b o e n hb hx)
  ·show 220
   exact ⟨sl, (hs.2 b (ZAN (ZAP (ZAG e) (I.ok.cab x c hfn hc)))).trans e1⟩
  ·show 209
   exact ⟨o', (hs.2 b (ZAN (ZAP (ZAG e) (I.ok.cab x c hfn hc)))).trans e1⟩
  ·by_cases hj : j = i
   ·subst hj
    rw [hi] at e1; cases e1
    rw [ZAR hiσ] at e2
    cases e2
    exact ⟨u, r, .inr ⟨.inl hk, c, hc, hc'⟩⟩
   ·rw [ZAL (ZAs hj)] at e2
    obtain ⟨u', r', q⟩ := hl j y v' e1 e2 e3
    refine ⟨u', r', ?_⟩
    rcases q with q | ⟨k, c', e, z'⟩
    ·exact .inl q
    ·refine .inr ⟨k, c', e, z'.sameBut hs ?_⟩
     rintro rfl
     exact hj (Yau hN e1 (I.ok.inj _ _ _ e hc ▸ hi))
  ·by_cases hcc : c' = c
   ·subst hcc; exact ⟨_, hc'⟩
   ·obtain ⟨w2, z2⟩ := I.cell y c' e
    exact ⟨w2, z2.sameBut hs hcc⟩
  ·show 219
   refine ⟨(hs.2 p.1 ?_).trans e, n, ne, nf, d⟩
   intro q
   rw [q, hoc] at e
   have q' : oc = p.2 := Option.some.inj e
   exact d w' (by rw [<- q']; exact hocd)
theorem Ych {M : Model} {A : Around} {E : VSP} {i : Nat} {x : Str} {v : V} {u : Value} {Q : Unit -> Shared -> Prop} (I : Inv X pins σ H s) (hN : X.N.Nodup) (hi : X.N[i]? = some x) (hx : Loc X.env.scope x) (r : RelV v u)
 (h : ∀ s', Inv X pins (σ.set i (some v)) H s' -> Q () s') (hf : X.fn x = true \/ X.env.scope.names.lookup x = some .local := by first | exact .inl rfl | exact .inr rfl | assumption) : wpAny M A (storeName X.env x u) Q E s :=
 Ya7 I hN hi hx r (fun s' I' _ => h s' I') hf
theorem Inv.call' {s' : Shared} {ch : List Addr} (I : Inv X pins σ H s) (ho : s'.os = s.os) (u : Un (frs X.stack) ch H H' s.heap s'.heap) (hok : HOk X.prog X.w H' s'.heap) (hg : AllBare s'.gens)
 (hch : ∀ b ∈ ch, (b ∈ X.ex \/ X.s₀.heap.objs.size <= b) /\ b ≠ X.env.locals /\ (∀ x c, X.env.cells.lookup x = some c -> c ≠ b) /\ ∀ p ∈ X.pn ++ pins, p.1 ≠ b) : Inv X pins σ H' s' := by
 obtain ⟨h', g', d', t', o'⟩ := s'
 have e : o' = s.os := ho
 subst e
 exact I.call (g' := g') (t' := t') (d' := d') u hok hg hch
end
abbrev XK := Value -> Option Addr -> Hp -> Prop
abbrev St := List (Option V)
abbrev VK := V -> Hp -> Prop
abbrev TE := St -> Hp -> VK -> Prop
abbrev TT := St -> Hp -> (Bool -> Hp -> Prop) -> Prop
abbrev TA := St -> Hp -> (List V -> Hp -> Prop) -> Prop
structure Ends where
 nx : St -> Hp -> Prop
 rt : VK
 bk : St -> Hp -> Prop := fun _ _ => False
 ct : St -> Hp -> Prop := fun _ _ => False
abbrev TS := Ends -> St -> Hp -> Prop
def EP (X : Cx) (pins : LAO) (σ : St) (Q : VK) (u : Value) (s' : Shared) : Prop := ∃ v H', Inv X pins σ H' s' /\ RelV v u /\ Q v H'
def TP (X : Cx) (pins : LAO) (σ : St) (Q : Bool -> Hp -> Prop) (b : Bool) (s' : Shared) : Prop := ∃ H', Inv X pins σ H' s' /\ Q b H'
def AP (X : Cx) (pins : LAO) (σ : St) (Q : List V -> Hp -> Prop) (us : List Value) (s' : Shared) : Prop := ∃ vs H', Inv X pins σ H' s' /\ Vals vs us /\ Q vs H'
def SP (X : Cx) (pins : LAO) (D : Ends) (f : Flow) (s' : Shared) : Prop :=
 match f with
 | .next => ∃ σ' H', Inv X pins σ' H' s' /\ D.nx σ' H'
 | .brk => ∃ σ' H', Inv X pins σ' H' s' /\ D.bk σ' H'
 | .cont => ∃ σ' H', Inv X pins σ' H' s' /\ D.ct σ' H'
 | .ret u => ∃ v σ' H', Inv X pins σ' H' s' /\ RelV v u /\ D.rt v H'
def PE (X : Cx) (e : Expr) (t : TE) : Prop :=
 ∀ (pins : LAO) (s : Shared) (σ : St) (H : Hp) (Q : VK), Inv X pins σ H s -> t σ H Q -> wpAny (model X.prog X.w) X.A (eval e X.env) (EP X pins σ Q) X.xe s
def PT (X : Cx) (e : Expr) (t : TT) : Prop :=
 ∀ (pins : LAO) (s : Shared) (σ : St) (H : Hp) (Q : Bool -> Hp -> Prop), Inv X pins σ H s -> t σ H Q -> wpAny (model X.prog X.w) X.A (isTrue e X.env (eval e X.env)) (TP X pins σ Q) X.xe s
def PW (X : Cx) (e : Expr) (t : TT) : Prop :=
 ∀ (whole : Sem Value) (pins : LAO) (s : Shared) (σ : St) (H : Hp) (Q : Bool -> Hp -> Prop), Inv X pins σ H s -> t σ H Q -> wpAny (model X.prog X.w) X.A (isTrue e X.env whole) (TP X pins σ Q) X.xe s
theorem PW.pt {X : Cx} {e : Expr} {t : TT} (h : PW X e t) : PT X e t := h _
def PA (X : Cx) (es : List Expr) (t : TA) : Prop :=
 ∀ (pos : Pos) (pins : LAO) (s : Shared) (σ : St) (H : Hp) (Q : List V -> Hp -> Prop), Inv X pins σ H s -> t σ H Q -> wpAny (model X.prog X.w) X.A (spliced (backTo pos (starEach es X.env))) (AP X pins σ Q) X.xe s
def PS (X : Cx) (st : Stmt) (t : TS) : Prop :=
 ∀ (pins : LAO) (s : Shared) (σ : St) (H : Hp) (D : Ends), Inv X pins σ H s -> t D σ H -> wpAny (model X.prog X.w) X.A (exec st X.env) (SP X pins D) X.xe s
def PSs (X : Cx) (st : List Stmt) (t : TS) : Prop :=
 ∀ (pins : LAO) (s : Shared) (σ : St) (H : Hp) (D : Ends), Inv X pins σ H s -> t D σ H -> wpAny (model X.prog X.w) X.A (execs st X.env) (SP X pins D) X.xe s
theorem thn {α : Type} {t : Sem α} {Q Q' : α -> Shared -> Prop} {M : Model} {A : Around} {E : VSP} {s : Shared} (h : wpAny M A t Q E s) (hQ : ∀ a s, Q a s -> Q' a s) : wpAny M A t Q' E s := ZA8 h hQ fun _ _ x => x
end L2
namespace L2
open PySem PySem.Spec PyProof.Rows
variable {pos : Pos} {x : Str}
section
variable {X : Cx}
theorem bin {a b : Expr} {ta tb : TE} (ha : PE X a ta) (hb : PE X b tb) {pins : LAO} {s : Shared} {σ : St} {H : Hp} {R : V -> V -> Hp -> Prop} (I : Inv X pins σ H s) (h : ta σ H fun x H1 => tb σ H1 fun y H2 => R x y H2)
 {α : Type} {Q : α -> Shared -> Prop} {f : Value -> Value -> Sem α}
 (hf : ∀ v u s2 x y H2, Inv X pins σ H2 s2 -> RelV x v -> RelV y u -> R x y H2 -> wpAny (model X.prog X.w) X.A (f v u) Q X.xe s2) :
 wpAny (model X.prog X.w) X.A (eval a X.env) (fun v s₁ => wpAny (model X.prog X.w) X.A (eval b X.env) (fun u s₂ => wpAny (model X.prog X.w) X.A (f v u) Q X.xe s₂) X.xe s₁) X.xe s := by
 refine thn (ha pins s σ H _ I h) fun v s1 ⟨x, H1, I1, r1, q1⟩ => ?_
 refine thn (hb pins s1 σ H1 _ I1 q1) fun u s2 ⟨y, H2, I2, r2, q2⟩ => ?_
 exact hf v u s2 x y H2 I2 r1 r2 q2
def YoQ (i : Nat) : TE := fun σ H Q => ∃ v, σ[i]? = some (some v) /\ Q v H
def tC (v : V) : TE := fun _ H Q => Q v H
theorem Yhe {i : Nat} (hN : X.N[i]? = some x) (hv : Vis X.env.scope x) (hd : (x == ("__debug__" : Str)) = false := by decide) (hcd : (x == ("__classdict__" : Str)) = false := by decide) : PE X (.Name x pos) (YoQ i) := by
 show 163
 obtain ⟨v, e, h⟩ := h
 obtain ⟨m, hn, hl⟩ := I.loc
 obtain ⟨u, r, l⟩ := hl i x v hN e hv
 have fin : EP X pins σ Q u s := ⟨v, H, I, r, h⟩
 rcases l with ⟨hk, hm⟩ | ⟨hk, c, hc, hcell⟩
 ·exact wpAny_Name (wpAny_loadName_local I.ok.kind hk hn hm fin) hd
 ·rcases hk with hk | hk
  ·exact wpAny_Name (wpAny_loadName_cell I.ok.kind hk hc hcell fin) hd
  ·exact wpAny_Name (wpAny_loadName_free I.ok.kind hk hc hcell fin hcd) hd
theorem YjJ {i j pos} : PE X (.Constant (.int i) j pos) (tC (.int i)) := fun _ _ _ H _ I h => wpAny_Constant_int ⟨.int i, H, I.tok _, ⟨_, rfl⟩, h⟩
theorem YkB {b j pos} : PE X (.Constant (.bool b) j pos) (tC (.bl b)) := fun _ _ _ H _ I h => Constant_bool ⟨.bl b, H, I, rfl, h⟩
theorem Yks {j pos} : PE X (.Constant .none j pos) (tC .non) := fun _ _ _ H _ I h => Constant_none ⟨.non, H, I, rfl, h⟩
theorem Yj1 {x j pos} : PE X (.Constant (.str x) j pos) (tC (.str x)) := fun _ _ _ H _ I h => Calls.Constant_str ⟨.str x, H, I.tok _, ⟨_, rfl⟩, h⟩
def Gl (X : Cx) (x : Str) : Prop := X.env.kindOf x = some .globalImplicit
theorem YhE {E : VSP} {pins : LAO} {s : Shared} {σ : St} {H : Hp} {u : Value} {Q : VSP} (I : Inv X pins σ H s) (hg : Gl X x) (hm : X.mg x = some u) (h : Q u s)
 (hd : (x == ("__debug__" : Str)) = false := by decide) : wpAny (model X.prog X.w) X.A (eval (.Name x pos) X.env) Q E s :=
 Calls.Name_function_global I.ok.kind hg (Calls.loadGlobal_global (by rw [I.ok.glob]; exact I.mod.glob.keeps I.bk) hm h) hd
theorem Z5 {E : VSP} {pins : LAO} {s : Shared} {σ : St} {H : Hp} {u : Value} {Q : VSP} (I : Inv X pins σ H s) (hg : Gl X x) (hm : X.mg x = none) (hv : bootBuiltins x = some u) (h : Q u s)
 (hn : x ≠ "__name__" := by decide) (hd : (x == ("__debug__" : Str)) = false := by decide) : wpAny (model X.prog X.w) X.A (eval (.Name x pos) X.env) Q E s := by
 obtain ⟨mb, h1, h2⟩ := I.mod.blt
 exact Calls.Name_function_global I.ok.kind hg (Calls.loadGlobal_builtin (by rw [I.ok.glob]; exact I.mod.glob.keeps I.bk) hm (by rw [I.ok.blt]; exact h1.keeps I.bk) ((h2 x hn).trans hv) h) hd
theorem Yie {v : V} {u : Value} (hg : Gl X x) (hm : X.mg x = none) (hv : bootBuiltins x = some u) (r : RelV v u) (hn : x ≠ "__name__" := by decide) (hd : (x == ("__debug__" : Str)) = false := by decide) : PE X (.Name x pos) (tC v) :=
 fun _ _ _ H _ I h => Z5 I hg hm hv ⟨v, H, I, r, h⟩ hn hd
variable {a b : Expr} {ta tb : TE}
variable {tA tB' : TT} {rest : List Expr}
def YpI (t u : TT) : TT := fun σ H Q => t σ H fun c H1 => if c = true then u σ H1 Q else Q false H1
def tOr (t u : TT) : TT := fun σ H Q => t σ H fun c H1 => if c = true then Q true H1 else u σ H1 Q
def YpE (t : TT) : TT := fun σ H Q => t σ H fun c H1 => Q (!c) H1
theorem YhW (ha : PT X a tA) : PW X (.BoolOp .And [a] pos) tA := by
 show 234
 refine isTrue_and (thn (ha pins s σ H Q I h) fun c s1 e => ?_)
 cases c with
 | true => exact isTrue_and_nil e
 | false => exact e
theorem YjT (ha : PT X a tA) : PW X (.BoolOp .Or [a] pos) tA := by
 show 234
 refine isTrue_or (thn (ha pins s σ H Q I h) fun c s1 e => ?_)
 cases c with
 | false => exact isTrue_or_nil e
 | true => exact e
theorem Yko (ha : PT X a tA) (hb : PW X (.BoolOp .And (b :: rest) pos) tB') : PW X (.BoolOp .And (a :: b :: rest) pos) (YpI tA tB') := by
 show 234
 refine isTrue_and (thn (ha pins s σ H _ I h) fun c s1 ⟨H1, I1, q1⟩ => ?_)
 cases c with
 | true => exact hb wh pins s1 σ H1 Q I1 q1
 | false => exact ⟨H1, I1, q1⟩
theorem YkR (ha : PT X a tA) (hb : PW X (.BoolOp .Or (b :: rest) pos) tB') : PW X (.BoolOp .Or (a :: b :: rest) pos) (tOr tA tB') := by
 show 234
 refine isTrue_or (thn (ha pins s σ H _ I h) fun c s1 ⟨H1, I1, q1⟩ => ?_)
 cases c with
 | true => exact ⟨H1, I1, q1⟩
 | false => exact hb wh pins s1 σ H1 Q I1 q1
theorem Ykm (ha : PT X a tA) : PT X (.UnaryOp .Not a pos) (YpE tA) := by
 show 163
 exact isTrue_not (ha pins s σ H (fun c H1 => Q (!c) H1) I h)
def Ypq (ta tb : TE) : TE := fun σ H Q => ta σ H fun x H1 => ∃ c, x = .bl c /\ if c = true then tb σ H1 Q else Q (.bl false) H1
theorem YjA {op} {t : TE} (h : PE X a t) : PE X (.BoolOp op [a] pos) t := fun pins s σ H Q I hw => BoolOp_one (h pins s σ H Q I hw)
theorem Yjp (ha : PE X a ta) (hb : PE X (.BoolOp .And (b :: rest) pos) tb) : PE X (.BoolOp .And (a :: b :: rest) pos) (Ypq ta tb) := by
 show 163
 refine BoolOp_and (thn (ha pins s σ H _ I h) fun v s1 ⟨x, H1, I1, r1, q1⟩ => ?_)
 obtain ⟨c, rfl, q1⟩ := q1
 cases r1
 refine ZBg ?_
 cases c with
 | true => exact hb pins s1 σ H1 Q I1 q1
 | false => exact ⟨.bl false, H1, I1, rfl, q1⟩
def tIf (t : TT) (ta tb : TE) : TE := fun σ H Q => t σ H fun c H1 => if c = true then ta σ H1 Q else tb σ H1 Q
theorem YgE {c : Expr} (hc : PT X c tA) (ha : PE X a ta) (hb : PE X b tb) : PE X (.IfExp c a b pos) (tIf tA ta tb) := by
 show 163
 refine wpAny_IfExp (thn (hc pins s σ H _ I h) fun d s1 ⟨H1, I1, q1⟩ => ?_)
 cases d with
 | true => exact ha pins s1 σ H1 Q I1 q1
 | false => exact hb pins s1 σ H1 Q I1 q1
end
end L2
namespace L2
open PySem PySem.Spec PyProof.Rows
variable {H : Hp} {K : Frag} {pins : LAO} {s : Shared} {tg : Expr} {σ : St}
def SqL (K : Frag) (H : Hp) (a : Addr) (xs : List V) : Prop :=
 Rd H a (.lst xs) \/
  ∃ (o : Obj) (its : Array Value) (n : Nat), K.lookup a = some o /\ o.cls = .type "list" /\ o.dict = none /\ o.data = .seq its n /\ its.size <= sizeLine /\ Vals xs its.toList
def SqT (K : Frag) (H : Hp) (a : Addr) (xs : List V) : Prop :=
 Rd H a (.tup xs) \/
  ∃ (o : Obj) (its : Array Value) (n : Nat), K.lookup a = some o /\ o.cls = .type "tuple" /\ o.data = .seq its n /\ its.size <= sizeLine /\ Vals xs its.toList
def YpQ : Value -> Option V
 | .none => some .non
 | .bool b => some (.bl b)
 | .int i _ => some (.int i)
 | .str x _ => some (.str x)
 | .bytes b _ => some (.byt b)
 | .float b _ => some (.flt b)
 | .ref a => some (.ref a)
 | .type n => some (.ty n)
 | _ => none
theorem RelV.abs {x : V} {u : Value} (r : RelV x u) : YpQ u = some x := by
 cases x with
 | non => cases r; rfl
 | bl _ => cases r; rfl
 | int _ => show 205
 | str _ => show 205
 | byt _ => show 205
 | flt _ => show 205
 | ref _ => cases r; rfl
 | ty _ => cases r; rfl
theorem RelV.inj {x y : V} {u : Value} (r : RelV x u) (q : RelV y u) : x = y := Option.some.inj (r.abs.symm.trans q.abs)
theorem Vals.inj : ∀ {xs ys : List V} {us : List Value}, Vals xs us -> Vals ys us -> xs = ys
 | _, _, _, .nil, .nil => rfl
 | _, _, _, .cons r t, .cons r' t' => by rw [r.inj r', Vals.inj t t']
section
variable {X : Cx} {a : Addr} {xs ys : List V}
theorem SqL.of (h : H a = some (.lst xs)) : SqL K H a xs := .inl (.inl h)
theorem SqT.of (h : H a = some (.tup xs)) : SqT K H a xs := .inl (.inl h)
theorem Inv.list (I : Inv X pins σ H s) (h : SqL X.K H a xs) : ∃ its : List Value, Vals xs its /\ PlainL s.heap a its.toArray /\ xs.length <= sizeLine := by
 rcases h with h | ⟨o, its, n, hk, hc, hd, hs, hz, r⟩
 ·obtain ⟨z, its, n, r, e⟩ := h.ok I.hok
  exact ⟨its, r, ⟨_, n, e, rfl, rfl, rfl⟩, z⟩
 ·refine ⟨its.toList, r, ⟨o, n, I.kIn a o hk, hc, hd, by simpa using hs⟩, ?_⟩
  have e := r.length
  simp only [Array.length_toList] at e
  omega
theorem Inv.tuple (I : Inv X pins σ H s) (h : SqT X.K H a xs) : ∃ its : List Value, Vals xs its /\ IsTup s.heap a its.toArray /\ xs.length <= sizeLine := by
 rcases h with h | ⟨o, its, n, hk, hc, hs, hz, r⟩
 ·obtain ⟨z, its, r, p⟩ := h.ok I.hok
  exact ⟨its, r, p, z⟩
 ·refine ⟨its.toList, r, ⟨o, I.kIn a o hk, hc, n, by simpa using hs⟩, ?_⟩
  have e := r.length
  simp only [Array.length_toList] at e
  omega
theorem Inv.list_inj (I : Inv X pins σ H s) (h : SqL X.K H a xs) (h' : SqL X.K H a ys) : xs = ys := by
 obtain ⟨its, r, ⟨o, n, e, _, _, d⟩, _⟩ := I.list h
 obtain ⟨its', r', ⟨o', n', e', _, _, d'⟩, _⟩ := I.list h'
 rw [e] at e'; cases e'
 rw [d] at d'
 injection d' with d1 _
 have : its = its' := by simpa using congrArg Array.toList d1
 subst this
 exact r.inj r'
theorem Inv.tuple_inj (I : Inv X pins σ H s) (h : SqT X.K H a xs) (h' : SqT X.K H a ys) : xs = ys := by
 obtain ⟨its, r, ⟨o, e, _, n, d⟩, _⟩ := I.tuple h
 obtain ⟨its', r', ⟨o', e', _, n', d'⟩, _⟩ := I.tuple h'
 rw [e] at e'; cases e'
 rw [d] at d'
 injection d' with d1 _
 have : its = its' := by simpa using congrArg Array.toList d1
 subst this
 exact r.inj r'
end
abbrev Cx.wish (X : Cx) (E : VSP) : Cx := { X with xe := E }
abbrev Cx.nox (X : Cx) : Cx := X.wish fun _ _ => False
theorem Cx.Ok.wish {X : Cx} (ok : X.Ok) (E : VSP) : (X.wish E).Ok :=
 ⟨ok.mod, ok.kind, ok.glob, ok.blt, ok.above, ok.inj, ok.has, ok.cab, ok.hd, ok.frames, ok.stk, ok.exf, ok.bs, ok.bsz, ok.noex, ok.exfs, ok.funs, ok.frf⟩
theorem Cx.Ok.unwish {X : Cx} {E : VSP} (ok : (X.wish E).Ok) : X.Ok :=
 ⟨ok.mod, ok.kind, ok.glob, ok.blt, ok.above, ok.inj, ok.has, ok.cab, ok.hd, ok.frames, ok.stk, ok.exf, ok.bs, ok.bsz, ok.noex, ok.exfs, ok.funs, ok.frf⟩
section
variable {X : Cx} {E : VSP}
theorem Inv.wish (I : Inv X pins σ H s) (E : VSP) : Inv (X.wish E) pins σ H s := ⟨I.ok.wish E, I.os, I.bare, I.base, I.loc, I.cell, I.free, I.freeC, I.pin, I.hok, I.len⟩
theorem Inv.unwish (I : Inv (X.wish E) pins σ H s) : Inv X pins σ H s := ⟨I.ok.unwish, I.os, I.bare, I.base, I.loc, I.cell, I.free, I.freeC, I.pin, I.hok, I.len⟩
theorem SP.unwish {D : Ends} {f : Flow} {s' : Shared} (h : SP (X.wish E) pins D f s') : SP X pins D f s' := by
 cases f with
 | next => obtain ⟨σ', H', I, q⟩ := h; exact ⟨σ', H', I.unwish, q⟩
 | brk => obtain ⟨σ', H', I, q⟩ := h; exact ⟨σ', H', I.unwish, q⟩
 | cont => obtain ⟨σ', H', I, q⟩ := h; exact ⟨σ', H', I.unwish, q⟩
 | ret u => obtain ⟨v, σ', H', I, r, q⟩ := h; exact ⟨v, σ', H', I.unwish, r, q⟩
theorem PSs.nox {st : List Stmt} {t : TS} (h : PSs X.nox st t) : PSs X st t := fun pins s σ H D I hw =>
 ZA8 (h pins s σ H D (I.wish _) hw) (fun _ _ q => q.unwish) fun _ _ z => False.elim z
end
section
variable {X : Cx} {st : Stmt} {rest : List Stmt} {t u : TS} {e : Expr} {te : TE} {pos : Pos}
def Ypj : TS := fun D σ H => D.nx σ H
def YpO (t u : TS) : TS := fun D σ H => t { D with nx := u D } σ H
theorem YiA : PSs X [] Ypj := fun _ _ σ H _ I h => ZB4 ⟨σ, H, I, h⟩
theorem Ygc (h1 : PS X st t) (h2 : PSs X rest u) : PSs X (st :: rest) (YpO t u) := by
 show 183
 refine wpAny_execs_cons (thn (h1 pins s σ H { D with nx := u D } I h) fun f s1 q => ?_)
 cases f with
 | next =>
  obtain ⟨σ', H', I', q⟩ := q
  exact h2 pins s1 σ' H' D I' q
 | ret v => exact q
 | brk => exact q
 | cont => exact q
theorem YiC (h1 : PS X st t) : PSs X [st] t := by
 show 183
 refine wpAny_execs_cons (thn (h1 pins s σ H D I h) fun f s1 q => ?_)
 cases f with
 | next => exact ZB4 q
 | ret v => exact q
 | brk => exact q
 | cont => exact q
theorem Inv.quiet (I : Inv X pins σ H s) : interactive X.env = false := by simp [interactive, I.ok.kind]
def Yo5 (te : TE) : TS := fun D σ H => te σ H fun _ H1 => D.nx σ H1
theorem Yih (he : PE X e te) (hs : swapsWith e none pos.line X.env = pure false := by rfl) : PS X (.Expr e pos) (Yo5 te) := by
 show 183
 exact wpAny_Expr_any (thn (he pins s σ H _ I h) fun v s1 ⟨x, H1, I1, r1, q1⟩ => ⟨σ, H1, I1, q1⟩) I.quiet hs
def YpR (te : TE) : TS := fun D σ H => te σ H D.rt
theorem Ykp (he : PE X e te) : PS X (.Return (some e) pos) (YpR te) := by
 show 183
 exact wpAny_Return_some (thn (he pins s σ H _ I h) fun v s1 ⟨x, H1, I1, r1, q1⟩ => ⟨x, σ, H1, I1, r1, q1⟩)
def YpP (c : TT) (t u : TS) : TS := fun D σ H => c σ H fun b H1 => if b = true then t D σ H1 else u D σ H1
theorem Ykz {c : Expr} {a b : List Stmt} {tc : TT} (hc : PT X c tc) (ha : PSs X a t) (hb : PSs X b u) : PS X (.If c a b pos) (YpP tc t u) := by
 show 183
 refine wpAny_If (thn (hc pins s σ H _ I h) fun d s1 ⟨H1, I1, q1⟩ => ?_)
 cases d with
 | true => exact ha pins s1 σ H1 D I1 q1
 | false => exact hb pins s1 σ H1 D I1 q1
end
abbrev TG := V -> St -> Hp -> (St -> Hp -> Prop) -> Prop
abbrev TGs := List V -> St -> Hp -> (St -> Hp -> Prop) -> Prop
def PG (X : Cx) (target : Expr) (t : TG) : Prop :=
 ∀ (pins : LAO) (s : Shared) (σ : St) (H : Hp) (v : V) (u : Value) (Q : St -> Hp -> Prop), Inv X pins σ H s -> RelV v u -> t v σ H Q ->
  wpAny (model X.prog X.w) X.A (assign target X.env u) (fun _ s' => ∃ σ' H', Inv X pins σ' H' s' /\ Q σ' H') X.xe s
def PGs (X : Cx) (ts : List Expr) (t : TGs) : Prop :=
 ∀ (pins : LAO) (s : Shared) (σ : St) (H : Hp) (vs : List V) (us : List Value) (Q : St -> Hp -> Prop), Inv X pins σ H s -> Vals vs us -> t vs σ H Q ->
  wpAny (model X.prog X.w) X.A (assignInOrder ((assignEach ts X.env).map (·.2)) us) (fun _ s' => ∃ σ' H', Inv X pins σ' H' s' /\ Q σ' H') X.xe s
abbrev Ypy := V -> V -> V -> Hp -> (Hp -> Prop) -> Prop
def YpJ (X : Cx) (t : Ypy) : Prop :=
 ∀ (pins : LAO) (s : Shared) (σ : St) (H : Hp) (o i v : V) (ov iv u : Value) (Q : Hp -> Prop), Inv X pins σ H s -> RelV o ov -> RelV i iv -> RelV v u -> t o i v H Q ->
  wpAny (model X.prog X.w) X.A (setItem ov iv u) (fun _ s' => ∃ H', Inv X pins σ H' s' /\ Q H') X.xe s
section
variable {X : Cx} {pos : Pos}
def YoM (i : Nat) : TG := fun v σ H Q => Q (σ.set i (some v)) H
theorem Yin {i : Nat} {x : Str} (hN : X.N.Nodup) (hi : X.N[i]? = some x) (hx : Loc X.env.scope x) (hf : X.fn x = true \/ X.env.scope.names.lookup x = some .local := by first | exact .inl rfl | exact .inr rfl | assumption) : PG X (.Name x pos) (YoM i) := by
 intro pins s σ H v u Q I r h
 exact wpAny_assign_Name (Ych I hN hi hx r (fun s' I' => ⟨_, H, I', h⟩) hf)
def YpC : TGs := fun vs σ H Q => vs = [] /\ Q σ H
def Ypk (t : TG) (u : TGs) : TGs := fun vs σ H Q => ∃ v r, vs = v :: r /\ t v σ H fun σ' H' => u r σ' H' Q
theorem YhP : PGs X [] YpC := by
 intro pins s σ H vs us Q I r h
 obtain ⟨e, h⟩ := h
 subst e
 cases r
 exact assignInOrder_nil ⟨σ, H, I, h⟩
theorem Ygx {e : Expr} {es : List Expr} {t : TG} {u : TGs} (h1 : PG X e t) (h2 : PGs X es u)
 (hs : (assignEach (e :: es) X.env).map (·.2) = assign e X.env :: (assignEach es X.env).map (·.2) := by rfl) : PGs X (e :: es) (Ypk t u) := by
 intro pins s σ H vs us Q I r h
 obtain ⟨v, vr, e1, h⟩ := h
 subst e1
 cases r with
 | cons r rr =>
  rw [hs]
  refine assignInOrder_cons (thn (h1 pins s σ H _ _ _ I r h) fun _ s1 ⟨σ1, H1, I1, q1⟩ => ?_)
  exact h2 pins s1 σ1 H1 _ _ Q I1 rr q1
def YpM (K : Frag) (n : Nat) (t : TGs) : TG := fun v σ H Q => ∃ a xs, v = .ref a /\ SqT K H a xs /\ xs.length = n /\ t xs σ H Q
theorem YjG {es : List Expr} {k : Nat} {t : TGs} {n : Nat} (hc : X.calm = true) (h : PGs X es t)
 (hn : (assignEach es X.env).length = n := by rfl) (hst : (assignEach es X.env).findIdx? (·.1) = none := by rfl) : PG X (.Tuple es k pos) (YpM X.K n t) := by
 intro pins s σ H v u Q I r hw
 obtain ⟨a, xs, e1, hq, hl, hw⟩ := hw
 subst e1
 cases r
 obtain ⟨its, rv, ht, hz⟩ := I.tuple hq
 refine assign_Tuple_tuple (I.ok.hd hc) ht (by simp [hn, <- hl, rv.length]) hst fun h' hx => ?_
 have I1 : Inv X pins σ H { s with heap := h' } := I.kept (t' := s.toks) fun b o e => hx b o (ZAN (ZAG e)) e
 exact h pins _ σ H xs _ Q I1 (by simpa using rv) hw
def YpA (te : TE) (g : TG) : TS := fun D σ H => te σ H fun x H1 => g x σ H1 D.nx
theorem YjL {i : Nat} {x : Str} {e : Expr} {te : TE} {pos' : Pos} (hN : X.N.Nodup) (hi : X.N[i]? = some x) (hx : Loc X.env.scope x) (he : PE X e te) (hs : swapsWith e (some (.Name x pos')) pos.line X.env = pure false := by rfl) (hf : X.fn x = true \/ X.env.scope.names.lookup x = some .local := by first | exact .inl rfl | exact .inr rfl | assumption) :
 PS X (.Assign [.Name x pos'] e pos) (YpA te (YoM i)) := by
 show 183
 refine wpAny_Assign_Name (thn (he pins s σ H _ I h) fun v s1 ⟨y, H1, I1, r1, q1⟩ => ?_) hs
 exact Ych I1 hN hi hx r1 (fun s2 I2 => ⟨_, H1, I2, q1⟩) hf
end
section
variable {X : Cx} {pos : Pos}
def YoO (c : TT) (tb : TS) : TS := fun D σ H => ∃ W : Nat -> St -> Hp -> Prop, (∃ m, W m σ H) /\ ∀ m σ H, W m σ H ->
 c σ H fun b H1 => if b = true then ∃ N : St -> Hp -> Prop, (∀ σ' H', N σ' H' -> ∃ m', m' < m /\ W m' σ' H') /\ tb { D with nx := N, ct := N, bk := D.nx } σ H1 else D.nx σ H1
theorem Yga {c : Expr} {body : List Stmt} {tc : TT} {tb : TS} (hp : PassesOwn (model X.prog X.w) X.A X.env X.xe) (hc : PT X c tc) (hb : PSs X body tb) : PS X (.While c body [] pos) (YoO tc tb) := by
 show 183
 obtain ⟨W, ⟨m0, w0⟩, turn⟩ := h
 refine wpAny_While (codeAny_whileLoop (fun n s' => ∃ σ' H', Inv X pins σ' H' s' /\ W n σ' H') ?_ m0 ⟨σ, H, I, w0⟩)
 rintro n s1 ⟨σ1, H1, I1, w1⟩
 refine ZBO hp (thn (hc pins s1 σ1 H1 _ I1 (turn n σ1 H1 w1)) fun b s2 ⟨H2, I2, q2⟩ => ?_)
 cases b with
 | true =>
  obtain ⟨N, hN, q2⟩ := q2
  rw [ZAF rfl]
  refine ZBO hp (thn (hb pins s2 σ1 H2 _ I2 q2) fun f s3 q3 => ?_)
  cases f with
  | next =>
   obtain ⟨σ3, H3, I3, n3⟩ := q3
   obtain ⟨m', hm, w3⟩ := hN σ3 H3 n3
   exact ⟨m', hm, σ3, H3, I3, w3⟩
  | cont =>
   obtain ⟨σ3, H3, I3, n3⟩ := q3
   obtain ⟨m', hm, w3⟩ := hN σ3 H3 n3
   exact ⟨m', hm, σ3, H3, I3, w3⟩
  | brk => exact q3
  | ret v => exact q3
 | false =>
  rw [ZAE ZAO]
  exact ZB4 ⟨σ1, H2, I2, q2⟩
end
structure It where
 go : Nat -> Hp -> Prop
 yld : Nat -> Hp -> V -> Hp -> Prop
 stop : Nat -> Hp -> Prop
def Ymx (X : Cx) (pins : LAO) (H : Hp) (b : Addr) : Prop :=
 H b = none /\ b ≠ X.env.locals /\ b ∉ X.fs /\ (b ∈ X.ex \/ X.s₀.heap.objs.size <= b) /\ (∀ x c, X.env.cells.lookup x = some c -> c ≠ b) /\ ∀ p ∈ X.pn ++ pins, p.1 ≠ b
theorem Inv.fpOk {X : Cx} {H' : Hp} {b : Addr} (I : Inv X pins σ H s) (hb : s.heap.objs.size <= b) (hn : H' b = none) : Ymx X pins H' b := by
 refine ⟨hn, ZA6 (ZAP I.lt hb), I.nofs hb, .inr (ZAV I.sz hb), fun x c e z => ?_, fun p hp z => ?_⟩
 ·obtain ⟨v, q⟩ := I.cell x c e
  exact absurd (ZAP q.lt (by rw [z]; exact hb)) (ZBK _)
 ·exact absurd (ZAP (ZAG (I.pin p hp).1) (by rw [z]; exact hb)) (ZBK _)
structure Turn (P : Program) (w : World) (K : Frag) (tg : Expr) (J : It) (fp : List Addr) (it : Addr) (tn : Nat -> Heap -> Prop) : Prop where
 mem : it ∈ fp
 obj : ∀ i h, tn i h -> ∀ b ∈ fp, ∃ o, h.get? b = some o /\ ∀ v, o.data ≠ .cell v
 keep : ∀ i h h', tn i h -> (∀ b ∈ fp, ∀ o, h.get? b = some o -> h'.get? b = some o) -> tn i h'
 item : ∀ (X : Cx), X.prog = P -> X.w = w -> X.K = K -> X.calm = true -> ∀ (i : Nat) (pins : LAO) (s : Shared) (σ : St) (H : Hp) (E : VSP), Inv X pins σ H s -> (∀ b ∈ fp, Ymx X pins H b) -> tn i s.heap -> J.go i H ->
  wpAny (model P w) X.A (pyNext (.ref it)) (fun r s1 => ∃ u, r = some u /\
   wpAny (model P w) X.A (letOwnedTupleGo tg (.ref it) u) (fun _ s2 => ∃ x H', Inv X pins σ H' s2 /\ RelV x u /\ J.yld i H x H' /\ tn (i + 1) s2.heap /\ ∀ b ∈ fp, H' b = none) E s1) E s
 done : ∀ (X : Cx), X.prog = P -> X.w = w -> X.K = K -> X.calm = true -> ∀ (i : Nat) (pins : LAO) (s : Shared) (σ : St) (H : Hp) (E : VSP), Inv X pins σ H s -> (∀ b ∈ fp, Ymx X pins H b) -> tn i s.heap -> J.stop i H ->
  wpAny (model P w) X.A (pyNext (.ref it)) (fun r s1 => r = none /\ Inv X pins σ H s1) E s
 self : ∀ (A : Around) (i : Nat) (s : Shared) (Q : VSP) (E : VSP), tn i s.heap -> Q (.ref it) s -> wpAny (model P w) A (pyIter (.ref it)) Q E s
abbrev TI := St -> Hp -> (It -> Hp -> Prop) -> Prop
def PIE (X : Cx) (pins : LAO) (σ : St) (tg : Expr) (R : It -> Hp -> Prop) (itv : Value) (s2 : Shared) : Prop :=
 ∃ (it : Addr) (fp : List Addr) (tn : Nat -> Heap -> Prop) (J : It) (H' : Hp), itv = .ref it /\ Inv X pins σ H' s2 /\ Turn X.prog X.w X.K tg J fp it tn /\ tn 0 s2.heap /\ (∀ b ∈ fp, Ymx X pins H' b) /\ R J H'
def PI (X : Cx) (tg iter : Expr) (wi : TI) : Prop :=
 ∀ (pins : LAO) (s : Shared) (σ : St) (H : Hp) (R : It -> Hp -> Prop), Inv X pins σ H s -> wi σ H R ->
  wpAny (model X.prog X.w) X.A (eval iter X.env) (fun v s1 => wpAny (model X.prog X.w) X.A (pyIter v) (PIE X pins σ tg R) X.xe s1) X.xe s
theorem Yci {M : Model} {A : Around} {E : VSP} {it : Addr} {u : Value} {o : Obj} {n : String} {vs : Array Value} {Q : Unit -> Shared -> Prop} (ho : s.heap.get? it = some o) (hc : o.cls = .type n) (hd : o.data = .fields vs)
 (hn : ["enumerate", "zip", "dict_itemiterator", "dict_reverseitemiterator", "odict_iterator", "itertools.zip_longest", "itertools.pairwise"].contains n = false) (hQ : Q () s) : wpAny M A (letOwnedTupleGo tg (.ref it) u) Q E s := by
 unfold letOwnedTupleGo
 cases tg <;> first
  | exact ZAC hQ
  | (cases u <;> first
   | exact ZAC hQ
   | (refine ZAA (ZCG ho ?_)
      rw [hc, hd]
      show wpAny M A (if (["enumerate", "zip", "dict_itemiterator", "dict_reverseitemiterator", "odict_iterator", "itertools.zip_longest", "itertools.pairwise"].contains n && vs[0]? == some (rawInt _)) = true then _ else _) Q E s
      rw [ZAE (by intro h; rw [hn, Bool.false_and] at h; cases h)]
      exact ZAC hQ))
def Itl (K : Frag) (a : Addr) : It :=
 ⟨fun i H => ∃ xs x, SqL K H a xs /\ xs[i]? = some x, fun i H x H' => H' = H /\ ∀ xs, SqL K H a xs -> xs[i]? = some x, fun i H => ∃ xs, SqL K H a xs /\ xs.length <= i⟩
def Itt (K : Frag) (a : Addr) : It :=
 ⟨fun i H => ∃ xs x, SqT K H a xs /\ xs[i]? = some x, fun i H x H' => H' = H /\ ∀ xs, SqT K H a xs -> xs[i]? = some x, fun i H => ∃ xs, SqT K H a xs /\ xs.length <= i⟩
def Itr (lo : Int) (n : Nat) : It := ⟨fun i _ => i < n, fun i H x H' => H' = H /\ x = .int (lo + i), fun i _ => n <= i⟩
theorem Ye8 {P : Program} {w : World} (a it : Addr) : Turn P w K tg (Itl K a) [it] it (fun i h => h.IsListIter it a i) where
 mem := by simp
 obj := fun i h st b hb => by
  show 69
 keep := fun i h h' st k => st.at fun o e => k it (by simp) o e
 item := by
  show 12
  obtain ⟨xs, x, hq, hx⟩ := hg
  obtain ⟨its, rv, p, hz⟩ := I.list hq
  obtain ⟨u, hu, ru⟩ := rv.get hx
  show 193
  refine wpAny_pyNext_list_item st p.isList (x := u) (by simpa using hu) fun h' st' sb => ?_
  have I1 : Inv X pins σ H { s with heap := h' } := I.turned (t' := s.toks) (fun b o hb e => (sb.2 b hb).trans e) f0 f1 f3 f4 f5
  obtain ⟨o, e, c, d⟩ := id st'
  exact ⟨u, rfl, Yci (s := { s with heap := h' }) e c d (by decide) ⟨x, H, I1, ru, ⟨rfl, fun ys hy => by rw [I.list_inj hy hq]; exact hx⟩, st', fun b hb => (hf b hb).1⟩⟩
 done := by
  show 12
  obtain ⟨xs, hq, hx⟩ := hg
  obtain ⟨its, rv, p, hz⟩ := I.list hq
  show 193
  show 187
  exact wpAny_pyNext_list_end (I.ok.hd hc) st p.isList (by simp; omega) fun h' eb => ⟨rfl, I.turned (t' := s.toks) (fun b o hb e => eb b o hb e) f0 f1 f3 f4 f5⟩
 self := fun _ _ _ _ _ st h => wpAny_pyIter_listiter st h
theorem YcW {P : Program} {w : World} (a it : Addr) : Turn P w K tg (Itt K a) [it] it (fun i h => h.IsTupleIter it a i) where
 mem := by simp
 obj := fun i h st b hb => by
  show 69
 keep := fun i h h' st k => st.at fun o e => k it (by simp) o e
 item := by
  show 12
  obtain ⟨xs, x, hq, hx⟩ := hg
  obtain ⟨its, rv, p, hz⟩ := I.tuple hq
  obtain ⟨u, hu, ru⟩ := rv.get hx
  show 193
  refine wpAny_pyNext_tuple_item st (show s.heap.IsTuple a its.toArray from p) (x := u) (by simpa using hu) fun h' st' sb => ?_
  have I1 : Inv X pins σ H { s with heap := h' } := I.turned (t' := s.toks) (fun b o hb e => (sb.2 b hb).trans e) f0 f1 f3 f4 f5
  obtain ⟨o, e, c, d⟩ := id st'
  exact ⟨u, rfl, Yci (s := { s with heap := h' }) e c d (by decide) ⟨x, H, I1, ru, ⟨rfl, fun ys hy => by rw [I.tuple_inj hy hq]; exact hx⟩, st', fun b hb => (hf b hb).1⟩⟩
 done := by
  show 12
  obtain ⟨xs, hq, hx⟩ := hg
  obtain ⟨its, rv, p, hz⟩ := I.tuple hq
  show 193
  show 187
  exact wpAny_pyNext_tuple_end (I.ok.hd hc) st (show s.heap.IsTuple a its.toArray from p) (by simp; omega) fun h' eb => ⟨rfl, I.turned (t' := s.toks) (fun b o hb e => eb b o hb e) f0 f1 f3 f4 f5⟩
 self := fun _ _ _ _ _ st h => wpAny_pyIter_tupleiter st h
theorem Ydf {P : Program} {w : World} (it : Addr) (lo : Int) (n : Nat) : Turn P w K tg (Itr lo n) [it] it (fun i h => IsRangeIter h it (lo + (i : Nat) * 1) ((n : Int) - (i : Nat)) 1) where
 mem := by simp
 obj := fun i h st b hb => by
  show 92
  exact ⟨_, st, fun v z => by
   have z' : Data.fields _ = Data.cell v := z
   cases z'⟩
 keep := fun i h h' st k => k it (by simp) _ st
 item := by
  show 76
  have W := Walks.range (prog := X.prog) (w := X.w) (I.ok.hd hc) it lo 1 n
  refine W.item i s _ _ hg st fun v h' tk hv st' kk => ?_
  obtain ⟨t, rfl⟩ := hv
  have I1 : Inv X pins σ H { s with heap := h', toks := tk } := I.turned (fun b o hb e => kk b o (by simpa using hb) e) f0 f1 f3 f4 f5
  refine ⟨_, rfl, Yci (s := { s with heap := h', toks := tk }) (n := "range_iterator") st' rfl rfl (by decide) ⟨.int (lo + i), H, I1, ⟨t, ?_⟩, ⟨rfl, rfl⟩, st', fun b hb => (hf b hb).1⟩⟩
  rw [Int.mul_one]
 done := by
  show 76
  exact wpAny_pyNext_range_end (I.ok.hd hc) st (by have : n <= i := hg; omega) fun h' eb => ⟨rfl, I.turned (t' := s.toks) (fun b o hb e => eb b o hb e) f0 f1 f3 f4 f5⟩
 self := fun _ _ _ _ _ st h => wpAny_pyIter_rangeiter st h
end L2
namespace L2
open PySem PySem.Spec PyProof.Rows
section
variable {X : Cx} {tg : Expr}
theorem Yfw {pins : LAO} {σ : St} {H : Hp} {s : Shared} {R : It -> Hp -> Prop} {E : VSP} {lo hi : Int} {t u v : Tok} {tk : Nat} (I : Inv X pins σ H s) (h1 : -(2 ^ 62) <= lo) (h2 : lo < 2 ^ 62) (h3 : -(2 ^ 62) <= hi) (h4 : hi < 2 ^ 62)
 (q : R (Itr lo (hi - lo).toNat) H) : wpAny (model X.prog X.w) X.A (pyIter (.ref s.heap.objs.size)) (PIE X pins σ tg R) E { s with heap := s.heap.push { cls := .type "range", data := .fields #[.int lo t, .int hi u, .int 1 v] }, toks := tk } := by
 refine wpAny_pyIter_range (IsRange.new ..) (small_one h1 h2 h3 h4) ?_
 have I1 : Inv X pins σ H { s with heap := s.heap.push { cls := .type "range", data := .fields #[.int lo t, .int hi u, .int 1 v] }, toks := tk } := I.kept fun b o e => ZAD _ e
 refine ⟨(s.heap.push { cls := .type "range", data := .fields #[.int lo t, .int hi u, .int 1 v] }).objs.size, [(s.heap.push { cls := .type "range", data := .fields #[.int lo t, .int hi u, .int 1 v] }).objs.size], _, _, H, rfl,
  I1.kept (t' := tk) fun b o e => ZAD _ e, Ydf _ lo (hi - lo).toNat, ?_, fun b hb => ?_, q⟩
 ·have e1 : lo + ((0 : Nat) : Int) * 1 = lo := by simp
  have e2 : (((hi - lo).toNat : Nat) : Int) - ((0 : Nat) : Int) = Builtin.Range.rangeSize lo hi 1 := by rw [rangeSize_one]; split <;> omega
  show IsRangeIter _ _ (lo + ((0 : Nat) : Int) * 1) ((((hi - lo).toNat : Nat) : Int) - ((0 : Nat) : Int)) 1
  rw [e1, e2]
  exact ZAH _ rfl
 ·have e : b = (s.heap.push { cls := .type "range", data := .fields #[.int lo t, .int hi u, .int 1 v] }).objs.size := by simpa using hb
  subst e
  exact I1.fpOk (ZAI _) (I1.hok.fresh (ZAI _))
def Ypc (ta : TA) : TI := fun σ H R => ta σ H fun vs H1 => ∃ j : Int, vs = [.int j] /\ -(2 ^ 62) <= j /\ j < 2 ^ 62 /\ R (Itr 0 j.toNat) H1
theorem YeO {a : Expr} {ta : TA} {p pos : Pos} (hg : Gl X "range") (hm : X.mg "range" = none) (ha : PA X [a] ta) (hs : starEach [a] X.env = [(false, eval a X.env)] := by rfl) : PI X tg (.Call (.Name "range" p) [a] [] pos) (Ypc ta) := by
 intro pins s σ H R I h
 refine Call_ (Z5 I hg hm boot_range (PyProof.Rows.callWith_type1 (thn (ha pos pins s σ H _ I h) fun us s1 ⟨vs, H1, I1, r1, q1⟩ => ?_) hs rfl))
 obtain ⟨j, e, q1, q2, q⟩ := q1
 subst e
 cases r1 with
 | cons r rr =>
  cases rr
  show 228
  exact call_range_1 (Yfw I1 (by omega) (by omega) q1 q2 (by simpa using q))
def YpV (wi : TI) (g : TG) (tb : TS) : TS := fun D σ H => wi σ H fun J H1 => ∃ W : Nat -> Nat -> St -> Hp -> Prop, (∃ m, W 0 m σ H1) /\ ∀ i m σ H, W i m σ H ->
 (J.stop i H /\ D.nx σ H) \/ (J.go i H /\ ∃ N : St -> Hp -> Prop, (∀ σ' H', N σ' H' -> ∃ m', m' < m /\ W (i + 1) m' σ' H') /\ ∀ x H', J.yld i H x H' -> g x σ H' fun σ2 H2 => tb { D with nx := N, ct := N, bk := D.nx } σ2 H2)
def Yni (fp : List Addr) (h : Heap) : List (Addr × Obj) := fp.filterMap fun b => (h.get? b).map fun o => (b, o)
theorem Ws {fp : List Addr} {h : Heap} {b : Addr} {o : Obj} (hb : b ∈ fp) (e : h.get? b = some o) : (b, o) ∈ Yni fp h := ZCA.mpr ⟨b, hb, by rw [e]; rfl⟩
theorem YeR {fp : List Addr} {h : Heap} {p : Addr × Obj} (hp : p ∈ Yni fp h) : p.1 ∈ fp /\ h.get? p.1 = some p.2 := by
 obtain ⟨b, hb, e⟩ := ZCA.mp hp
 cases q : h.get? b with
 | none => show 196
 | some o =>
  rw [q] at e
  have e' : (b, o) = p := Option.some.inj e
  subst e'
  exact ⟨hb, q⟩
theorem Inv.pinned {pins : LAO} {σ : St} {H : Hp} {s : Shared} {fp : List Addr} (I : Inv X pins σ H s) (hf : ∀ b ∈ fp, Ymx X pins H b) (ho : ∀ b ∈ fp, ∃ o, s.heap.get? b = some o /\ ∀ v, o.data ≠ .cell v) : Inv X (pins ++ Yni fp s.heap) σ H s :=
 I.pins_of fun p hp => (ZAh.mp hp).elim (fun z => I.pin p (ZAe _ z)) fun z => by
  obtain ⟨hb, e⟩ := YeR z
  obtain ⟨f0, f1, f2, _⟩ := hf p.1 hb
  obtain ⟨o, e', d⟩ := ho p.1 hb
  rw [e] at e'; cases e'
  exact ⟨e, f0, f1, f2, d⟩
theorem Inv.unpinned {pins pl : LAO} {σ : St} {H : Hp} {s : Shared} (I : Inv X (pins ++ pl) σ H s) : Inv X pins σ H s := I.pins_of fun p hp => I.pin p (ZAe _ (ZBH _ hp))
theorem Ykf {iter : Expr} {body : List Stmt} {wi : TI} {g : TG} {tb : TS} {pos : Pos} (hp : PassesOwn (model X.prog X.w) X.A X.env X.xe) (hc : X.calm = true) (hi : PI X tg iter wi) (hg : PG X tg g) (hb : PSs X body tb)
 (hs : ∀ x, foldedSetIterable iter X.env x = pure x := by intro _; rfl) : PS X (.For tg iter body [] pos) (YpV wi g tb) := by
 show 183
 refine wpAny_For (thn (hi pins s σ H _ I h) fun v s1 h1 => thn h1 fun itv s2 h2 => ?_) hs
 obtain ⟨it, fp, tn, J, H2, e, I2, T, st2, f2, W, ⟨m0, w0⟩, turn⟩ := h2
 subst e
 have stat : ∀ {H' : Hp}, (∀ b ∈ fp, H' b = none) -> ∀ b ∈ fp, Ymx X pins H' b := fun hn b hb => ⟨hn b hb, (f2 b hb).2⟩
 refine codeAny_forLoop_any (fun n s' => ∃ i σ' H', Inv X pins σ' H' s' /\ tn i s'.heap /\ (∀ b ∈ fp, H' b = none) /\ W i n σ' H') ?_ m0 ⟨0, σ, H2, I2, st2, fun b hb => (f2 b hb).1, w0⟩
 rintro n s3 ⟨i, σ3, H3, I3, st3, fr3, w3⟩
 rcases turn i n σ3 H3 w3 with ⟨stop, qn⟩ | ⟨go, N, hN, step⟩
 ·refine ZBO hp (thn (T.done X rfl rfl rfl hc i pins s3 σ3 H3 X.xe I3 (stat fr3) st3 stop) fun r s4 ⟨hr, I4⟩ => ?_)
  subst hr
  exact ZB4 ⟨σ3, H3, I4, qn⟩
 ·refine ZBO hp (thn (T.item X rfl rfl rfl hc i pins s3 σ3 H3 X.xe I3 (stat fr3) st3 go) fun r s4 ⟨u, hr, h4⟩ => ?_)
  subst hr
  refine ZBO hp (thn h4 fun _ s5 ⟨x, H5, I5, r5, y5, st5, fr5⟩ => ?_)
  have I5' := I5.pinned (stat fr5) (T.obj _ _ st5)
  refine ZBO hp (thn (hg _ s5 σ3 H5 x u _ I5' r5 (step x H5 y5)) fun _ s6 ⟨σ6, H6, I6, q6⟩ => ?_)
  refine ZBO hp (thn (hb _ s6 σ6 H6 _ I6 q6) fun f s7 q7 => ?_)
  have again : ∀ {σ7 : St} {H7 : Hp}, Inv X (pins ++ Yni fp s5.heap) σ7 H7 s7 -> N σ7 H7 -> ∃ m, m < n /\ ∃ i σ' H', Inv X pins σ' H' s7 /\ tn i s7.heap /\ (∀ b ∈ fp, H' b = none) /\ W i m σ' H' := fun {σ7 H7} I7 n7 => by
   obtain ⟨m', hm, w7⟩ := hN σ7 H7 n7
   refine ⟨m', hm, i + 1, σ7, H7, I7.unpinned, T.keep _ _ _ st5 fun b hb o e => (I7.pin (b, o) (ZAe _ (ZAe _ (Ws hb e)))).1, fun b hb => ?_, w7⟩
   obtain ⟨o, e, d⟩ := T.obj _ _ st5 b hb
   exact (I7.pin (b, o) (ZAe _ (ZAe _ (Ws hb e)))).2.1
  cases f with
  | next => obtain ⟨σ7, H7, I7, n7⟩ := q7; exact again I7 n7
  | cont => obtain ⟨σ7, H7, I7, n7⟩ := q7; exact again I7 n7
  | brk => obtain ⟨σ7, H7, I7, q7⟩ := q7; exact ⟨σ7, H7, I7.unpinned, q7⟩
  | ret v => obtain ⟨x7, σ7, H7, I7, r7, q7⟩ := q7; exact ⟨x7, σ7, H7, I7.unpinned, r7, q7⟩
end
end L2
namespace L2
open PySem PySem.Spec PyProof.Rows
variable {f : Value -> Value -> Sem Value} {op : CmpOp}
abbrev R2 := V -> V -> Hp -> VK -> Prop
def OpR (X : Cx) (f : Value -> Value -> Sem Value) (r : R2) : Prop :=
 ∀ (pins : LAO) (s : Shared) (σ : St) (H : Hp) (x y : V) (v u : Value) (Q : VK), Inv X pins σ H s -> RelV x v -> RelV y u -> r x y H Q ->
  wpAny (model X.prog X.w) X.A (f v u) (EP X pins σ Q) X.xe s
def Yl2 (X : Cx) (f : Value) (r : List V -> Hp -> VK -> Prop) : Prop :=
 ∀ (pins : LAO) (s : Shared) (σ : St) (H : Hp) (xs : List V) (us : List Value) (Q : VK), Inv X pins σ H s -> Vals xs us -> r xs H Q ->
  wpAny (model X.prog X.w) X.A (call f us) (EP X pins σ Q) X.xe s
def YpU (X : Cx) (r : V -> Hp -> (Bool -> Hp -> Prop) -> Prop) : Prop :=
 ∀ (pins : LAO) (s : Shared) (σ : St) (H : Hp) (x : V) (v : Value) (Q : Bool -> Hp -> Prop), Inv X pins σ H s -> RelV x v -> r x H Q ->
  wpAny (model X.prog X.w) X.A (truthy v) (TP X pins σ Q) X.xe s
def tOp (r : R2) (ta tb : TE) : TE := fun σ H Q => ta σ H fun x H1 => tb σ H1 fun y H2 => r x y H2 Q
def rI (C : Int -> Int -> Prop) (g : Int -> Int -> V) : R2 := fun x y H Q => ∃ i j, x = .int i /\ y = .int j /\ C i j /\ Q (g i j) H
def rI0 (g : Int -> Int -> V) : R2 := fun x y H Q => ∃ i j, x = .int i /\ y = .int j /\ Q (g i j) H
section
variable {X : Cx} {a b c : Expr} {ta tb tc : TE} {pos : Pos}
theorem YoY (ha : PE X a ta) (hb : PE X b tb) {pins : LAO} {s : Shared} {σ : St} {H : Hp} {R : V -> V -> Hp -> Prop} (I : Inv X pins σ H s)
 (h : ta σ H fun x H1 => tb σ H1 fun y H2 => R x y H2) {Q : VSP}
 (hf : ∀ v u s2 x y H2, Inv X pins σ H2 s2 -> RelV x v -> RelV y u -> R x y H2 -> wpAny (model X.prog X.w) X.A (f v u) Q X.xe s2) :
 wpAny (model X.prog X.w) X.A (eval a X.env) (fun v s₁ => wpAny (model X.prog X.w) X.A (eval b X.env) (fun u s₂ => wpAny (model X.prog X.w) X.A (f v u) Q X.xe s₂) X.xe s₁) X.xe s := by
 refine thn (ha pins s σ H _ I h) fun v s1 ⟨x, H1, I1, r1, q1⟩ => ?_
 refine thn (hb pins s1 σ H1 _ I1 q1) fun u s2 ⟨y, H2, I2, r2, q2⟩ => ?_
 exact hf v u s2 x y H2 I2 r1 r2 q2
theorem YkI {op : Operator} {r : R2} (ho : OpR X (binaryOp op) r) (ha : PE X a ta) (hb : PE X b tb) : PE X (.BinOp a op b pos) (tOp r ta tb) := by
 show 163
 exact wpAny_BinOp (YoY ha hb I h fun v u s2 x y H2 I2 rx ry q => ho pins s2 σ H2 x y v u Q I2 rx ry q)
theorem opI {C : Int -> Int -> Prop} {g : Int -> Int -> Int}
 (rule : ∀ (i j : Int) (t u : Tok) (s : Shared) (Q : VSP) (E : VSP), C i j -> Q (.int (g i j) s.toks) { s with toks := s.toks + 1 } -> wpAny (model X.prog X.w) X.A (f (.int i t) (.int j u)) Q E s) :
 OpR X f (rI C fun i j => .int (g i j)) := by
 show 184
 obtain ⟨i, j, rfl, rfl, hc, q⟩ := h
 show 23
 exact rule i j t t' s _ _ hc ⟨.int (g i j), H, I.tok _, ⟨_, rfl⟩, q⟩
theorem Yph {g : Int -> Int -> Int}
 (rule : ∀ (i j : Int) (t u : Tok) (s : Shared) (Q : VSP) (E : VSP), Q (.int (g i j) s.toks) { s with toks := s.toks + 1 } -> wpAny (model X.prog X.w) X.A (f (.int i t) (.int j u)) Q E s) :
 OpR X f (rI0 fun i j => .int (g i j)) := by
 show 40
 exact rule i j t t' s _ _ ⟨.int (g i j), H, I.tok _, ⟨_, rfl⟩, q⟩
theorem Yo7 {g : Int -> Int -> Bool}
 (rule : ∀ (i j : Int) (t u : Tok) (s : Shared) (Q : VSP) (E : VSP), Q (.bool (g i j)) s -> wpAny (model X.prog X.w) X.A (f (.int i t) (.int j u)) Q E s) :
 OpR X f (rI0 fun i j => .bl (g i j)) := by
 show 40
 exact rule i j t t' s _ _ ⟨.bl (g i j), H, I, rfl, q⟩
def YpH (i j : Int) : Prop := 0 < j /\ j < 1073741824
def Yo0 (i j : Int) : Prop := (-(2 ^ 64) < i /\ i < 2 ^ 64) \/ (-(2 ^ 64) < j /\ j < 2 ^ 64)
theorem Yo0.ok {i j : Int} (h : Yo0 i j) : IntMulOk i j := by
 rcases h with ⟨h1, h2⟩ | ⟨h1, h2⟩
 ·exact .of_left (intBits_le_64 h1 h2)
 ·exact .of_right (intBits_le_64 h1 h2)
theorem Ykr : OpR X (binaryOp .Add) (rI0 fun i j => .int (i + j)) := Yph fun _ _ _ _ _ _ _ q => add_int q
theorem Yi5 : OpR X (binaryOp .Sub) (rI0 fun i j => .int (i - j)) := Yph fun _ _ _ _ _ _ _ q => sub_int q
theorem Yjz : OpR X (binaryOp .Mult) (rI Yo0 fun i j => .int (i * j)) := opI fun _ _ _ _ _ _ _ hc q => mul_int q hc.ok
theorem YhH : OpR X (binaryOp .FloorDiv) (rI YpH fun i j => .int (i / j)) := opI fun i j _ _ _ _ _ hc q => by
 have h1 : (0 : Int) < j := hc.1
 have h2 : j < 1073741824 := hc.2
 exact floordiv_int (by omega) (by rw [Int.fdiv_eq_ediv_of_nonneg i (by omega)]; exact q) (.inl (PyProof.noPylong_small (by omega)))
theorem YjU : OpR X (binaryOp .Mod) (rI (fun _ j => 0 < j) fun i j => .int (i % j)) := opI fun i j _ _ _ _ _ hc q => by
 have h1 : (0 : Int) < j := hc
 exact mod_int' (by omega) (by rw [Int.fmod_eq_emod_of_nonneg i (by omega)]; exact q)
end
section
variable {X : Cx} {a b c : Expr} {ta tb tc : TE} {pos : Pos}
theorem Ybq {pins : LAO} {σ : St} {H : Hp} {s : Shared} {Q : VK} {k k' : Bool} (I : Inv X pins σ H s) (q : Q (.bl k) H) (e : k = k') : EP X pins σ Q (.bool k') s := by
 subst e
 exact ⟨.bl k, H, I, rfl, q⟩
theorem YkK : OpR X (compareOp .Lt) (rI0 fun i j => .bl (decide (i < j))) := Yo7 fun _ _ _ _ _ _ _ q => lt_int q
theorem Yk1 : OpR X (compareOp .LtE) (rI0 fun i j => .bl (decide (i <= j))) := Yo7 fun _ _ _ _ _ _ _ q => le_int q
theorem YeE : OpR X (compareOp .Lt) (fun x y H Q => ∃ i j, x = .str i /\ y = .str j /\ Q (.bl (decide (i.cps.toList < j.cps.toList))) H) := by
 show 40
 exact lt_str (Ybq I q rfl)
theorem Ye1 : OpR X (compareOp .In) (fun x y H Q => ∃ i j, x = .str i /\ y = .str j /\ Q (.bl (!(Builtin.Str.occurrences j i 0 j.length 1).isEmpty)) H) := by
 show 40
 exact in_str (Ybq I q rfl)
theorem Yjn : OpR X (compareOp .Is) (fun x y H Q => y = .non /\ Q (.bl (decide (x = .non))) H) := by
 show 184
 obtain ⟨rfl, q⟩ := h
 cases ry
 refine is_none_gen (Ybq I q ?_)
 cases x <;> first
  | (cases rx; rfl)
  | (obtain ⟨t, rfl⟩ := rx; rfl)
theorem Ybx : OpR X (compareOp .NotIn) (fun x y H Q => ∃ i j, x = .str i /\ y = .str j /\ Q (.bl (!(!(Builtin.Str.occurrences j i 0 j.length 1).isEmpty))) H) := by
 show 40
 exact notIn_str (Ybq I q rfl)
theorem nomark (b : Expr) (h : op ≠ .In := by decide) (h2 : op ≠ .NotIn := by decide) : behindInMarks op b = false := by
 have e1 : (op == CmpOp.In) = false := by cases op <;> first | rfl | exact absurd rfl h
 have e2 : (op == CmpOp.NotIn) = false := by cases op <;> first | rfl | exact absurd rfl h2
 cases b <;> simp [behindInMarks, e1, e2]
theorem YiL {r : R2} (ho : OpR X (compareOp op) r) (ha : PE X a ta) (hb : PE X b tb) (hm : behindInMarks op b = false) : PE X (.Compare a [op] [b] pos) (tOp r ta tb) := by
 show 163
 exact wpAny_Compare1 (YoY ha hb I h fun v u s2 x y H2 I2 rx ry q => ho pins s2 σ H2 x y v u Q I2 rx ry q) hm
def YoI (t : TE) : TT := fun σ H Q => t σ H fun x H' => ∃ k, x = .bl k /\ Q k H'
theorem YhY {r : R2} (ho : OpR X (compareOp op) r) (ha : PE X a ta) (hb : PE X b tb) (hm : behindInMarks op b = false) : PT X (.Compare a [op] [b] pos) (YoI (tOp r ta tb)) := by
 show 163
 refine wpAny_isTrue_Compare1 (thn (ha pins s σ H _ I h) fun v s1 ⟨x, H1, I1, r1, q1⟩ => thn (hb pins s1 σ H1 _ I1 q1) fun u s2 ⟨y, H2, I2, r2, q2⟩ =>
  thn (ho pins s2 σ H2 x y v u _ I2 r1 r2 q2) fun c s3 ⟨z, H3, I3, r3, k, e, q3⟩ => ?_) hm
 subst e
 cases r3
 exact ZBg ⟨H3, I3, q3⟩
def Yom (r r' : R2) (ta tb tc : TE) : TE := fun σ H Q => ta σ H fun x H1 => tb σ H1 fun y H2 => r x y H2 fun z H3 => ∃ k, z = .bl k /\
 (if k = true then tc σ H3 fun w' H4 => r' y w' H4 Q else Q (.bl false) H3)
theorem YgI {op' : CmpOp} {r r' : R2} (ho : OpR X (compareOp op) r) (ho' : OpR X (compareOp op') r') (ha : PE X a ta) (hb : PE X b tb) (hc : PE X c tc)
 (hm : lastMarks [op, op'] [b, c] = false := by with_unfolding_all rfl) : PE X (.Compare a [op, op'] [b, c] pos) (Yom r r' ta tb tc) := by
 show 163
 refine Compare_chain (thn (ha pins s σ H _ I h) fun v s1 ⟨x, H1, I1, r1, q1⟩ => chain_link (thn (hb pins s1 σ H1 _ I1 q1) fun u s2 ⟨y, H2, I2, r2, q2⟩ =>
  thn (ho pins s2 σ H2 x y v u _ I2 r1 r2 q2) fun d s3 ⟨z, H3, I3, r3, k, e, q3⟩ => ?_)) hm
 subst e
 cases r3
 refine ZBg ?_
 cases k with
 | false => exact ite_ff ⟨.bl false, H3, I3, rfl, q3⟩
 | true => exact ite_tt (chain_last (thn (hc pins s3 σ H3 _ I3 q3) fun w' s4 ⟨z', H4, I4, r4, q4⟩ => ho' pins s4 σ H4 y z' u w' Q I4 r2 r4 q4))
def YoT (K : Frag) (x : V) (H : Hp) (k : Bool) : Prop :=
 match x with
 | .non => k = false
 | .bl b => k = b
 | .int i => k = (i != 0)
 | .str y => y.length <= sizeLine /\ k = ((y.length : Int) != 0)
 | .byt y => y.size <= sizeLine /\ k = ((y.size : Int) != 0)
 | .ref p => (∃ xs, SqL K H p xs /\ k = !xs.isEmpty) \/ (∃ xs, SqT K H p xs /\ k = !xs.isEmpty) \/ ∃ kvs, H p = some (.dK kvs) /\ k = !kvs.isEmpty
 | _ => False
theorem Yc1 {κ : Type} {kvs : List (κ × V)} {vs : List (κ × Value)} (r : KV kvs vs) : (!vs.isEmpty) = !kvs.isEmpty := by
 cases r <;> rfl
theorem Yam {xs : List V} {its : List Value} (r : Vals xs its) : (!its.toArray.isEmpty) = !xs.isEmpty := by
 cases r <;> simp
theorem line63 : (sizeLine : Nat) < 2 ^ 63 := by rw [sizeLine_eq]; decide
theorem YjE : YpU X (fun x H Q => ∃ k, YoT X.K x H k /\ Q k H) := by
 intro pins s σ H x v Q I rx h
 obtain ⟨k, e, q⟩ := h
 have hl := line63
 have hs : sizeLine = 16777216 := sizeLine_eq
 cases x with
 | non =>
  cases rx
  have e' : k = false := e
  subst e'
  exact truthy_none ⟨H, I, q⟩
 | bl b =>
  cases rx
  have e' : k = b := e
  subst e'
  exact ZBg ⟨H, I, q⟩
 | int i =>
  show 191
  have e' : k = (i != 0) := e
  subst e'
  exact PySem.P.truthy_int ⟨H, I, q⟩
 | str y =>
  show 191
  obtain ⟨hy, e'⟩ : y.length <= sizeLine /\ k = ((y.length : Int) != 0) := e
  subst e'
  exact PySem.P.truthy_str (by omega) ⟨H, I.tok _, q⟩
 | byt y =>
  show 191
  obtain ⟨hy, e'⟩ : y.size <= sizeLine /\ k = ((y.size : Int) != 0) := e
  subst e'
  exact PySem.W.truthy_bytes (by omega) ⟨H, I.tok _, q⟩
 | ref p =>
  cases rx
  have e' : (∃ xs, SqL X.K H p xs /\ k = !xs.isEmpty) \/ (∃ xs, SqT X.K H p xs /\ k = !xs.isEmpty) \/ ∃ kvs, H p = some (.dK kvs) /\ k = !kvs.isEmpty := e
  rcases e' with ⟨xs, hx, e'⟩ | ⟨xs, hx, e'⟩ | ⟨kvs, hx, e'⟩
  ·subst e'
   obtain ⟨its, r, pl, hz⟩ := I.list hx
   have hlen := r.length
   exact wpAny_truthy_list pl.isList (by simp only [List.size_toArray]; omega) ⟨H, I.tok _, by rw [Yam r]; exact q⟩
  ·subst e'
   obtain ⟨its, r, pl, hz⟩ := I.tuple hx
   have hlen := r.length
   exact truthy_tuple pl (by simp only [List.size_toArray]; omega) ⟨H, I.tok _, by rw [Yam r]; exact q⟩
  ·subst e'
   obtain ⟨hz, hS, vs, r, m⟩ : kvs.length <= sizeLine /\ (p == sysModules) = false /\ ∃ vs, KV kvs vs /\ s.heap.DictOf (Ylv X.prog X.w) p vs := I.hok p _ hx
   have hlen : kvs.length = vs.length := Paired.length r
   exact wpAny_truthy_dict hS m (by omega) ⟨H, I.tok _, by rw [Yc1 r]; exact q⟩
 | _ => exact (show False from e).elim
theorem YgC (ha : PE X a ta) (he : ∀ whole, isTrue a X.env whole = (do let v <- whole; standAt a.pos; holding [v] (truthy v))) :
 PT X a (fun σ H Q => ta σ H fun x H' => ∃ k, YoT X.K x H' k /\ Q k H') := by
 show 163
 exact isTrue_plain (thn (ha pins s σ H _ I h) fun v s1 ⟨x, H1, I1, r1, q1⟩ => YjE pins s1 σ H1 x v Q I1 r1 q1) (he _)
theorem Yde : OpR X (binaryOp .Add) (fun x y H Q => ∃ i j, x = .str i /\ y = .str j /\ i.length + j.length <= sizeLine /\ Q (.str (i ++ j)) H) := by
 show 184
 obtain ⟨i, j, rfl, rfl, hz, q⟩ := h
 show 23
 exact add_str (fun t' tk => ⟨.str (i ++ j), H, I.tok _, ⟨_, rfl⟩, q⟩) hz
theorem vals1 {x : V} {us : List Value} (r : Vals [x] us) : ∃ u, us = [u] /\ RelV x u := by
 cases r with
 | cons r1 r2 => cases r2; exact ⟨_, rfl, r1⟩
theorem vals2 {x y : V} {us : List Value} (r : Vals [x, y] us) : ∃ u w', us = [u, w'] /\ RelV x u /\ RelV y w' := by
 cases r with
 | cons r1 r2 =>
  cases r2 with
  | cons r3 r4 => cases r4; exact ⟨_, _, rfl, r1, r3⟩
theorem Yeq (hc : X.calm = true) : Yl2 X (.builtin "min") (fun xs H Q => ∃ i j, xs = [.int i, .int j] /\ Q (.int (if j < i then j else i)) H) := by
 show 221
 obtain ⟨i, j, rfl, q⟩ := h
 obtain ⟨u, w', rfl, ⟨t, rfl⟩, ⟨t', rfl⟩⟩ := vals2 r
 refine min_two_ints (I.ok.hd hc) fun h' tk k => ⟨_, H, I.kept k, ?_, q⟩
 by_cases hj : j < i
 ·rw [ZAF hj, ZAF hj]; exact ⟨_, rfl⟩
 ·rw [ZAE hj, ZAE hj]; exact ⟨_, rfl⟩
end
end L2
namespace L2
open PySem PySem.Spec PyProof.Rows
variable {C : Addr} {dx : Addr}
structure Ypm (h : Heap) (x dx C : Addr) (mA : SOV) : Prop where
 obj : h.get? x = some (PySem.W.instObj C dx)
 ns : h.Ns1 dx mA
 ne : dx ≠ x
theorem Yfb {h : Heap} {mA : SOV} (n : h.Ns1 dx mA) : ∃ od, h.get? dx = some od /\ ∀ name, PySem.W.lookIn name od = some (mA name) := by
 obtain ⟨o, es, ep, ho, hd, hk, _, hm⟩ := n
 refine ⟨o, ho, fun name => ?_⟩
 have e := hm name
 unfold nsFind findBy at e
 rw [<- Array.find?_toList] at e
 unfold PySem.W.lookIn
 rw [hd]
 show 103
 ·rename_i y q
  rw [q] at e
  exact ZBI some e
 ·rename_i q
  rw [q] at e
  have a : es.toList.any (·.refKey) = false := by
   rw [ZBh]
   intro y hy
   obtain ⟨z, t, hkey⟩ := hk y (ZCY.mp hy)
   simp [DictEntry.refKey, hkey]
  have a' : ¬ es.toList.any (·.refKey) = true := by rw [a]; exact ZAO
  rw [ZAE a']
  exact ZBI some e
theorem Ypm.look {h : Heap} {x : Addr} {mA : SOV} (I : Ypm h x dx C mA) : ∃ od, PySem.W.InstAt h x (PySem.W.instObj C dx) C (some od) /\ ∀ name, PySem.W.lookIn name od = some (mA name) :=
 let ⟨od, ho, hl⟩ := Yfb I.ns
 ⟨od, ⟨I.obj, rfl, rfl, ho⟩, hl⟩
section
variable {prog : Program} {w : World} {A : Around} {E : VSP} {s : Shared} {K : Frag} {x f : Addr} {mA : SOV} {name : Str} {v : Value}
end
theorem YmY.some_of {v : V} {o : Option Value} (r : YmY (some v) o) : ∃ u, o = some u /\ RelV v u := by
 cases o with
 | none => show 217
 | some u => exact ⟨u, rfl, r⟩
section
variable {P : Program} {w : World} {H H' : Hp} {h h' : Heap} {a : Addr} {fs fs' : List (Str × V)}
end
structure Cls (K : Frag) (C : Addr) : Prop where
 pg : PySem.W.plainGet K C Str.empty = true
 hd : PySem.W.hasDictIn K C = true
 po : PySem.W.plainOver K C = true
 sa : PySem.W.findIn K (.ref C) "__setattr__" = some (some (.builtin "object.__setattr__"))
structure Con (K : Frag) (C : Addr) (f : Str) (v : V) (u : Value) : Prop where
 at_ : PySem.W.findIn K (.ref C) f = some (some u)
 rel : RelV v u
 get : PySem.W.specialIn K u "__get__" = some none
 cp : PySem.W.copiedNames.contains f = false
structure Meth (K : Frag) (C : Addr) (m : Str) (f : Addr) : Prop where
 at_ : PySem.W.findIn K (.ref C) m = some (some (.ref f))
 fn : PySem.W.isFn K (.ref f) = true
 kp : PySem.W.keepIn K (.ref f) = true
section
variable {X : Cx} {pins : LAO} {σ : St} {H : Hp} {s : Shared} {a : Addr} {fs : List (Str × V)} {f : Str} {v : V} {A : Around} {E : VSP}
theorem Inv.made (I : Inv X pins σ H s) : Inv X pins σ (upd (upd H s.heap.objs.size (.own (s.heap.objs.size + 1))) (s.heap.objs.size + 1) (.ins C s.heap.objs.size []))
 { s with heap := (s.heap.push PySem.W.emptyDict).push (PySem.W.instObj C s.heap.objs.size) } := by
 have e1 : (s.heap.push PySem.W.emptyDict).get? s.heap.objs.size = some PySem.W.emptyDict := ZAH s.heap rfl
 have e2 : ((s.heap.push PySem.W.emptyDict).push (PySem.W.instObj C s.heap.objs.size)).get? (s.heap.objs.size + 1) = some (PySem.W.instObj C s.heap.objs.size) := by
  have := ZAH (s.heap.push PySem.W.emptyDict) (o := PySem.W.instObj C s.heap.objs.size) rfl
  rwa [ZAf] at this
 have e3 : (s.heap.push PySem.W.emptyDict).Ns s.heap.objs.size (fun _ => none) := ⟨PySem.W.emptyDict, #[], _, e1, rfl, (fun e he => absurd he (by simp)), fun _ => rfl⟩
 have I1 := I.laid (a := s.heap.objs.size) (o := .own (s.heap.objs.size + 1)) (h' := s.heap.push PySem.W.emptyDict) (t' := s.toks) (fun b u q => ZAD _ q) (ZAI _) ⟨_, e1⟩
 refine I1.laid (a := s.heap.objs.size + 1) (o := .ins C s.heap.objs.size []) (t' := s.toks) (fun b u q => ZAD _ q) (Nat.le_of_eq (ZAf _ _)) ?_
 have ne : s.heap.objs.size ≠ s.heap.objs.size + 1 := ZAN (ZAx _)
 refine ⟨by rw [Yf ne, Yn], ZBN _, ne, e2, fun _ => none, (Heap.Ns1.of_empty e3).at fun o q => ZAD _ q, fun _ => True.intro, fun y hy => absurd rfl hy⟩
end
section
variable {X : Cx} {o e value : Expr} {f : Str} {pos pos' tpos : Pos} {ta tv : TE}
end
section
variable {X : Cx} {pins : LAO} {σ : St} {H : Hp} {s : Shared} {A : Around} {E : VSP} {Q : VSP} {c : Value} {b : Bool}
inductive TyOf (K : Frag) (H : Hp) : V -> Value -> Prop where
 | non : TyOf K H .non (.type "NoneType")
 | bl (x : Bool) : TyOf K H (.bl x) (.type "bool")
 | int (i : Int) : TyOf K H (.int i) (.type "int")
 | str (x : Str) : TyOf K H (.str x) (.type "str")
 | flt (x : UInt64) : TyOf K H (.flt x) (.type "float")
 | lst {a : Addr} {xs : List V} (e : H a = some (.lst xs)) : TyOf K H (.ref a) (.type "list")
 | frz {a : Addr} {o : Obj} {xs : List V} (e : H a = some (.frz o (.lst xs))) : TyOf K H (.ref a) (.type "list")
 | tup {a : Addr} {xs : List V} (e : H a = some (.tup xs)) : TyOf K H (.ref a) (.type "tuple")
 | dK {a : Addr} {kvs : List (Key × V)} (e : H a = some (.dK kvs)) : TyOf K H (.ref a) (.type "dict")
 | dT {a : Addr} {kvs : List (List Key × V)} (e : H a = some (.dT kvs)) : TyOf K H (.ref a) (.type "dict")
 | ins {a C dx : Addr} {fs : List (Str × V)} (e : H a = some (.ins C dx fs)) (cl : Cls K C) (ha : PySem.W.findIn K (.ref C) "__class__" = some (some (.builtin "object.__class__")))
  (hn : PySem.W.specialIn K (.builtin "object.__class__") "__get__" = some (some (.builtin "getset_descriptor.__get__"))) (htk : PySem.W.takesIn K (.builtin "object.__class__") = some true)
  (hm : PySem.W.mroIn K C (.type "object") = some true) : TyOf K H (.ref a) (.ref C)
end
end L2
namespace L2
open PySem PySem.Spec PyProof.Rows
variable {A : Around} {K : Frag} {P : Program} {X : Cx} {base : Heap} {f : Addr} {fd : FuncData} {k : Nat} {mg : SOV} {ps : List Str} {w : World}
structure Ymn (k : Nat) (A : Around) : Prop where
 hd : A.handled = none
 dp : A.depth + 3 * k + 5 < recursionLimit
 un : A.units + 16 * k + 200 < cLine
theorem Ymn.mono {j : Nat} (r : Ymn k A) (h : j <= k) : Ymn j A := ⟨r.hd, by have := r.dp; omega, by have := r.un; omega⟩
theorem Ymn.deeper (r : Ymn (k + 1) A) (env : Env) : Ymn k (A.deeper env) :=
 ⟨r.hd, by have := r.dp; show A.depth + 1 + 3 * k + 5 < _; omega, by have := r.un; show A.units + 3 + 16 * k + 200 < _; omega⟩
theorem Ymn.depth (r : Ymn k A) : A.depth < recursionLimit := by have := r.dp; omega
theorem Ymn.units (r : Ymn k A) : A.units + 64 < cLine := by have := r.un; omega
def YpX : TA := fun _ H Q => Q [] H
def Ypf (ta : TE) (tr : TA) : TA := fun σ H Q => ta σ H fun x H1 => tr σ H1 fun xs H2 => Q (x :: xs) H2
section
variable {e : Expr} {es : List Expr} {te : TE} {t : TA} {pos : Pos}
theorem Yad : PA X [] YpX := fun _ _ _ _ H Q I h => Calls.spliced_nil ⟨[], H, I, .nil, h⟩
theorem WW (ha : PE X e te) (hr : PA X es t) (hs : starEach (e :: es) X.env = (false, eval e X.env) :: starEach es X.env := by rfl) : PA X (e :: es) (Ypf te t) := by
 intro pos pins s σ H Q I h
 rw [hs]
 show wpAny _ _ (spliced ((false, eval e X.env) :: backTo pos (starEach es X.env))) _ _ s
 refine Calls.spliced_cons (thn (ha pins s σ H _ I h) fun u s1 ⟨x, H1, I1, r1, q1⟩ => ?_)
 exact thn (hr pos pins s1 σ H1 _ I1 q1) fun us s2 ⟨xs, H2, I2, r2, q2⟩ => ⟨x :: xs, H2, I2, .cons r1 r2, q2⟩
def YpW (t : TA) : TE := fun σ H Q => t σ H fun xs H1 => xs.length <= sizeLine /\ ∀ p, H1 p = none -> Q (.ref p) (upd H1 p (.tup xs))
def YpD (t : TA) : TE := fun σ H Q => t σ H fun xs H1 => xs.length <= sizeLine /\ ∀ p, H1 p = none -> Q (.ref p) (upd H1 p (.lst xs))
theorem YjQ {x1} (h : PA X es t) : PE X (.Tuple es x1 pos) (YpW t) := by
 intro pins s σ H Q I hq
 refine wpAny_Tuple_spliced (thn (h pos pins s σ H _ I hq) fun us s1 ⟨xs, H1, I1, r, z, q⟩ => ⟨by rw [<- r.length]; exact z, ?_⟩)
 have hf : H1 s1.heap.objs.size = none := I1.hok.fresh (ZAI _)
 refine ⟨.ref s1.heap.objs.size, upd H1 s1.heap.objs.size (.tup xs), I1.laid (t' := s1.toks) (fun b u e => ZAD _ e) (ZAI _) ?_, rfl, q _ hf⟩
 exact ⟨z, us, r, ⟨_, ZAH _ rfl, rfl, _, rfl⟩⟩
theorem Yjr (h : PA X es t) : PE X (.List es pos) (YpD t) := by
 intro pins s σ H Q I hq
 refine wpAny_List_spliced (thn (h pos pins s σ H _ I hq) fun us s1 ⟨xs, H1, I1, r, z, q⟩ => ⟨by rw [<- r.length]; exact z, ?_⟩)
 have hf : H1 s1.heap.objs.size = none := I1.hok.fresh (ZAI _)
 refine ⟨.ref s1.heap.objs.size, upd H1 s1.heap.objs.size (.lst xs), I1.laid (t' := s1.toks) (fun b u e => ZAD _ e) (ZAI _) ?_, rfl, q _ hf⟩
 exact ⟨z, us, 0, r, ZAH _ rfl⟩
end
abbrev Sp := List V -> Hp -> VK -> XK -> Prop
abbrev CXT := List Env -> Hp -> Shared -> XK -> Value -> Shared -> Prop
structure YnQ (P : Program) (w : World) (K : Frag) (mg : SOV) (base : Heap) (A : Around) (outer : List Env) (s : Shared) (H : Hp) : Prop where
 frames : A.frames = some outer
 mod : Mod K mg base
 bs : ∀ b o, base.get? b = some o -> s.heap.get? b = some o /\ H b = none
 bsz : base.objs.size <= s.heap.objs.size
 funs : s.heap.FunFrames base outer
 frf : ∀ b ∈ frs outer, H b = none
 hok : HOk P w H s.heap
 bare : AllBare s.gens
def CE (outer : List Env) (P : Program) (w : World) (H : Hp) (s : Shared) (Q : VK) (u : Value) (s' : Shared) : Prop :=
 ∃ v H', s'.os = s.os /\ AllBare s'.gens /\ Un (frs outer) [] H H' s.heap s'.heap /\ HOk P w H' s'.heap /\ RelV v u /\ Q v H'
def CR (CX : CXT) (outer : List Env) (P : Program) (w : World) (H : Hp) (s : Shared) (Q : VK) (E : XK) (r : Result) (s' : Shared) : Prop :=
 match r with
 | .ok (.ret u) => CE outer P w H s Q u s'
 | .ok _ => False
 | .error e => CX outer H s E e s'
structure YmV (P : Program) (w : World) (K : Frag) (mg : SOV) (base : Heap) (CX : CXT) (k : Nat) (f : Addr) (fd : FuncData) (ps : List Str) (sp : Sp) : Prop where
 len : ∀ vs H Q E, sp vs H Q E -> vs.length = ps.length
 run : ∀ (A : Around) (outer : List Env) (s : Shared) (H : Hp) (args : Args) (us : List Value) (vs : List V) (Q : VK) (E : XK), Ymn k A -> YnQ P w K mg base A outer s H -> BindsTo s fd args (ps.zip us) -> Vals vs us -> sp vs H Q E ->
  codeAny (model P w) A (.call (.ref f) args) (CR CX outer P w H s Q E) s
theorem YmV.mono {CX : CXT} {j : Nat} {sp : Sp} (F : YmV P w K mg base CX j f fd ps sp) (h : j <= k) :
 YmV P w K mg base CX k f fd ps sp := ⟨F.len, fun A outer s H args us vs Q E hr => F.run A outer s H args us vs Q E (hr.mono h)⟩
theorem YmV.imp {CX : CXT} {sp sp' : Sp} (F : YmV P w K mg base CX k f fd ps sp)
 (h : ∀ vs H Q E, sp' vs H Q E -> sp vs H Q E) : YmV P w K mg base CX k f fd ps sp' :=
 ⟨fun vs H Q E q => F.len vs H Q E (h _ _ _ _ q), fun A outer s H args us vs Q E hr he hb hv hs => F.run A outer s H args us vs Q E hr he hb hv (h _ _ _ _ hs)⟩
section
variable {pins : LAO} {σ : St} {H : Hp} {s s' : Shared}
theorem Inv.env0 (I : Inv X pins σ H s) : YnQ X.prog X.w X.K X.mg X.base X.A X.stack s H :=
 ⟨I.ok.frames, I.ok.mod, I.bs, ZAV I.ok.bsz I.sz, I.stack, I.stkFree, I.hok, I.bare⟩
theorem Inv.after {Q : VK} {u : Value} (I : Inv X pins σ H s) (h : CE X.stack X.prog X.w H s Q u s') : EP X pins σ Q u s' := by
 obtain ⟨v, H', os, bare, un, hok, r, q⟩ := h
 obtain ⟨hh, g, d, t, os'⟩ := s'
 obtain rfl : os' = s.os := os
 exact ⟨v, H', I.call (h' := hh) (g' := g) (d' := d) (t' := t) (ch := []) un hok bare (fun b z => absurd z (by simp)), r, q⟩
end
def Yo8 (sp : Sp) (dvs : List V) (E : XK) (t : TA) : TE := fun σ H Q => t σ H fun vs H1 => sp (vs ++ dvs) H1 Q E
def Binds (K : Frag) (fd : FuncData) (ps : List Str) (ds : List Value) : Prop :=
 ∀ (s : Shared) (us : List Value), K.In s.heap -> (us ++ ds).length = ps.length -> BindsTo s fd ⟨us, []⟩ (ps.zip (us ++ ds))
theorem Binds.all (h : ∀ us : List Value, us.length = ps.length -> bindArgs fd ⟨us, []⟩ = pure (ps.zip us)) : Binds K fd ps [] := fun s us _ hl => by
 rw [ZBu] at hl ⊢
 exact .of_eq (h us hl)
def YnT (CX : CXT) (X : Cx) (E : XK) : Prop := ∀ (pins : LAO) (σ : St) (H : Hp) (s : Shared) (e : Value) (s' : Shared), Inv X pins σ H s -> CX X.stack H s E e s' -> X.xe e s'
section
variable {CX : CXT} {C : Addr} {sp : Sp} {dvs : List V} {ds : List Value} {E : XK} {x m : Str} {p pos apos : Pos} {e o : Expr} {es : List Expr} {ta : TE} {t : TA}
theorem YjH {pins : LAO} {σ : St} {H : Hp} {s : Shared} {Q : VK} {us : List Value} {vs : List V} (F : YmV X.prog X.w X.K X.mg X.base CX k f fd ps sp) (hr : Ymn k X.A) (hb : Binds X.K fd ps ds) (hd : Vals dvs ds) (hx : YnT CX X E)
 (I : Inv X pins σ H s) (r : Vals vs us) (h : sp (vs ++ dvs) H Q E) : wpAny (model X.prog X.w) X.A (call (.ref f) us) (EP X pins σ Q) X.xe s := by
 have r2 : Vals (vs ++ dvs) (us ++ ds) := r.append hd
 have hl : (us ++ ds).length = ps.length := by rw [<- r2.length]; exact F.len _ _ _ _ h
 refine wpAny_call (codeAny_mono (F.run X.A X.stack s H ⟨us, []⟩ (us ++ ds) (vs ++ dvs) Q E hr I.env0 (hb s us I.kIn hl) r2 h) fun r s' hq => ?_)
 cases r with
 | error e => exact hx pins σ H s e s' I hq
 | ok fl =>
  cases fl with
  | ret u => exact I.after hq
  | next => exact False.elim hq
  | brk => exact False.elim hq
  | cont => exact False.elim hq
theorem Yiy (F : YmV X.prog X.w X.K X.mg X.base CX k f fd ps sp) (hr : Ymn k X.A) (hg : Gl X x) (hm : X.mg x = some (.ref f)) (hk : PySem.W.keepIn X.K (.ref f) = true) (hb : Binds X.K fd ps ds) (hd : Vals dvs ds) (hx : YnT CX X E)
 (ha : PA X (e :: es) t) (hdb : (x == ("__debug__" : Str)) = false := by decide) (he : starEach (e :: es) X.env = (false, eval e X.env) :: starEach es X.env := by rfl) (hpl : (backTo pos (starEach es X.env)).any (·.1) = false := by rfl) :
 PE X (.Call (.Name x p) (e :: es) [] pos) (Yo8 sp dvs E t) := by
 show 163
 refine ZBE (YhE I hg hm ?_ hdb)
 refine PySem.W.callWith_K (h₀ := X.base) I.ok.mod.kin hk (thn (ha pos pins s σ H _ I h) fun us s1 ⟨vs, H1, I1, r, q⟩ => ⟨I1.kIn, ?_⟩) he hpl
 exact YjH F hr hb hd hx I1 r q
structure Mk (K : Frag) (C f : Addr) : Prop where
 makes : PySem.W.makesIn K C = true
 init : PySem.W.findIn K (.ref C) "__init__" = some (some (.ref f))
 fn : PySem.W.isFn K (.ref f) = true
 kp : PySem.W.keepIn K (.ref C) = true
end
section
variable {CX : CXT} {C : Addr} {ks : List Str} {sp : Sp} {E : XK} {x m : Str} {p pos apos kpos : Pos} {e o : Expr} {es : List Expr} {kws : List Keyword} {te ta : TE} {t tk : TA} {nm : Option Str}
structure YpG (K : Frag) (fd : FuncData) (ps ks : List Str) (g : List Value -> List Value -> List Value) (gV : List V -> List V -> List V) : Prop where
 to : ∀ (s : Shared) (us ws : List Value), K.In s.heap -> (g us ws).length = ps.length -> BindsTo s fd ⟨us, ks.zip ws⟩ (ps.zip (g us ws))
 rel : ∀ {vs : List V} {us : List Value} {zs : List V} {ws : List Value}, Vals vs us -> Vals zs ws -> Vals (gV vs zs) (g us ws)
variable {g : List Value -> List Value -> List Value} {gV : List V -> List V -> List V}
end
structure YlC (N P : List Str) (sc : Scope) : Prop where
 kind : sc.kind = .function
 co : sc.isCoroutine = false
 gen : sc.isGenerator = false
 nd : N.Nodup
 pre : N.take P.length = P
 par : ∀ x ∈ P, sc.names.lookup x = some .local \/ sc.names.lookup x = some .cell
 nofree : ∀ y ∈ sc.names, y.2 ≠ .free
theorem YaY {kindOf : Str -> Option NameKind} {x : Str} : ∀ {binds : List (Str × Value)} {m : SOV}, (∀ v, (x, v) ∉ binds) -> bindL kindOf binds m x = m x
 | [], _, _ => rfl
 | (n, v) :: r, m, h => by
  unfold bindL
  rw [YaY fun w hw => h w (ZAQ _ hw)]
  split
  ·have : x ≠ n := by rintro rfl; exact h v ZAM
   simp [this]
  ·rfl
theorem Ya5 {kindOf : Str -> Option NameKind} {x : Str} : ∀ {binds : List (Str × Value)} {m : SOV}, (∀ v, (x, v) ∉ binds) -> bindC kindOf binds m x = m x
 | [], _, _ => rfl
 | (n, v) :: r, m, h => by
  unfold bindC
  rw [Ya5 fun w hw => h w (ZAQ _ hw)]
  split
  ·rfl
  ·have : x ≠ n := by rintro rfl; exact h v ZAM
   simp [this]
theorem Ybg {kindOf : Str -> Option NameKind} {x : Str} {v : Value} : ∀ {P : List Str} {vs : List Value} {i : Nat} {m : SOV}, P.Nodup -> P[i]? = some x -> vs[i]? = some v -> kindOf x = some .local ->
 bindL kindOf (P.zip vs) m x = some v
 | [], _, _, _, _, h, _, _ => by simp at h
 | _ :: _, [], _, _, _, _, h, _ => by simp at h
 | p :: P, w :: vs, 0, m, nd, h1, h2, hk => by
  simp at h1 h2; subst h1; subst h2
  show bindL kindOf ((p, w) :: P.zip vs) m p = _
  unfold bindL
  rw [YaY fun v hv => (ZBv.mp nd).1 (ZB5 hv).1, ZAF hk]
  simp
 | p :: P, w :: vs, i + 1, m, nd, h1, h2, hk => by
  show bindL kindOf ((p, w) :: P.zip vs) m x = _
  unfold bindL
  exact Ybg (i := i) (List.nodup_cons.mp nd).2 (by simpa using h1) (by simpa using h2) hk
theorem YaW {kindOf : Str -> Option NameKind} {x : Str} {v : Value} : ∀ {P : List Str} {vs : List Value} {i : Nat} {m : SOV}, P.Nodup -> P[i]? = some x -> vs[i]? = some v -> kindOf x ≠ some .local ->
 bindC kindOf (P.zip vs) m x = some v
 | [], _, _, _, _, h, _, _ => by simp at h
 | _ :: _, [], _, _, _, _, h, _ => by simp at h
 | p :: P, w :: vs, 0, m, nd, h1, h2, hk => by
  simp at h1 h2; subst h1; subst h2
  show bindC kindOf ((p, w) :: P.zip vs) m p = _
  unfold bindC
  rw [Ya5 fun v hv => (ZBv.mp nd).1 (ZB5 hv).1, ZAE hk]
  simp
 | p :: P, w :: vs, i + 1, m, nd, h1, h2, hk => by
  show bindC kindOf ((p, w) :: P.zip vs) m x = _
  unfold bindC
  exact YaW (i := i) (List.nodup_cons.mp nd).2 (by simpa using h1) (by simpa using h2) hk
def start (N : List Str) (vs : List V) : St := vs.map some ++ List.replicate (N.length - vs.length) none
def YnL (CX : CXT) (P : Program) (w : World) (K : Frag) (mg : SOV) (base : Heap) (N : List Str) (qual : Str) (scope : Scope) (f : Addr) (cd : Value) (A : Around) (outer : List Env) (s : Shared) (H : Hp) (E : XK) : Cx where
 prog := P
 w := w
 K := K
 mg := mg
 base := base
 A := A.deeper (envOfC qual scope s.heap.objs.size f cd)
 N := N
 s₀ := s
 H₀ := H
 env := envOfC qual scope s.heap.objs.size f cd
 outer := outer
 stack := envOfC qual scope s.heap.objs.size f cd :: outer
 ex := []
 calm := true
 fn := fun _ => true
 pn := []
 xe := fun e s' => wpAny (model P w) (A.deeper (envOfC qual scope s.heap.objs.size f cd)) (leaving (envOfC qual scope s.heap.objs.size f cd) e) (fun _ s'' => CX outer H s E e s'') (fun e' s'' => CX outer H s E e' s'') s'
theorem Yb6 {sc : Scope} {n : Nat} {x : Str} (h : sc.names.lookup x = some .cell) : ∃ c, (cellsFrom n sc.names []).lookup x = some c := by
 have q := PySem.W.cellsFrom_some sc.names n [] (.inl h)
 exact Option.isSome_iff_exists.mp q
theorem Yee {CX : CXT} {N : List Str} {qual : Str} {scope : Scope} {cd : Value} {outer : List Env} {s s1 : Shared} {H : Hp} {E : XK} {us : List Value} {vs : List V}
 (S : YlC N ps scope) (hd : A.handled = none) (e0 : YnQ P w K mg base A outer s H) (hl : vs.length = ps.length) (r : Vals vs us)
 (x : InCallC s s.heap.objs.size (bindL (envOfC qual scope s.heap.objs.size f cd).kindOf (ps.zip us) fun _ => none) (cellsFrom (s.heap.objs.size + 1) scope.names []) (bindC (envOfC qual scope s.heap.objs.size f cd).kindOf (ps.zip us) fun _ => none) s1) :
 Inv (YnL CX P w K mg base N qual scope f cd A outer s H E) [] (start N vs) H s1 := by
 have hpl : ps.length <= N.length := by have := ZBI List.length S.pre; rw [ZAm] at this; omega
 obtain ⟨h1, tk, rfl, hk⟩ := x.done
 have noA : ∀ b : Addr, b ∉ (YnL CX P w K mg base N qual scope f cd A outer s H E).ex := fun b z => absurd (show b ∈ ([] : List Addr) from z) (by simp)
 refine ⟨⟨e0.mod, S.kind, rfl, rfl, ZAI _, fun y z c h1 h2 => ?_, fun y hy => ?_, fun y c _ h => ?_, fun _ => hd, Around.frames_deeper e0.frames, .inr ⟨rfl, rfl⟩, fun b z => absurd z (noA b), e0.bs, e0.bsz, fun b _ _ => noA b, fun b z => absurd z (noA b), e0.funs, e0.frf⟩,
  rfl, e0.bare, Un.kept hk, ⟨_, x.toInCall.ns, fun i y v h1 h2 h3 => ?_⟩, fun y c h => ⟨_, x.cell y c h⟩, e0.hok.fresh (Nat.le_refl _), fun y c h => ?_, fun p hp => absurd (show p ∈ ([] : LAO) from hp) (by simp), e0.hok.kept hk, ?_⟩
 ·exact name_of_addr x.apart (PySem.mem_of_lookup h1) (PySem.mem_of_lookup h2)
 ·have hy : scope.names.lookup y = some .cell \/ scope.names.lookup y = some .free := hy
  rcases hy with hy | hy
  ·exact Yb6 hy
  ·exact absurd rfl (S.nofree _ (PySem.mem_of_lookup hy))
 ·exact ZBV (x.above y c (PySem.mem_of_lookup h))
 ·have hi : i < vs.length := by
   unfold start at h2
   by_cases hi : i < vs.length
   ·exact hi
   ·rw [List.getElem?_append_right (by simpa using hi)] at h2
    rw [List.getElem?_replicate] at h2
    split at h2 <;> cases h2
  have ha : vs[i]? = some v := by
   unfold start at h2
   rw [List.getElem?_append_left (by simpa using hi), List.getElem?_map] at h2
   cases e : vs[i]? with
   | none => rw [e] at h2; cases h2
   | some a => rw [e] at h2; cases h2; rfl
  obtain ⟨u, hu, rv⟩ := r.get ha
  have hp : ps[i]? = some y := by
   rw [<- S.pre, List.getElem?_take_of_lt (by omega)]; exact h1
  have ndP : ps.Nodup := by rw [<- S.pre]; exact S.nd.sublist (List.take_sublist _ _)
  refine ⟨u, rv, ?_⟩
  rcases S.par y (ZA9 hp) with k | k
  ·exact .inl ⟨k, Ybg ndP hp hu k⟩
  ·obtain ⟨c, e⟩ := Yb6 (n := s.heap.objs.size + 1) k
   refine .inr ⟨.inl k, c, e, ?_⟩
   have q := x.cell y c e
   rw [YaW ndP hp hu (by show scope.names.lookup y ≠ _; rw [k]; decide)] at q
   exact q
 ·exact e0.hok.fresh (ZBV (x.above y c (PySem.mem_of_lookup h)))
 ·unfold start
  show _ = N.length
  rw [ZAJ, ZAK, List.length_replicate]
  omega
theorem Yk0 {CX : CXT} {name qual : Str} {params : Arguments} {body : List Stmt} {scope : Scope} {dV kV doc pm cdv ct oc : Value} {an od : Option Addr}
 {osl : Array (Option Value)} {N : List Str} {sp : Sp} (lk : K.lookup f = some ⟨oc, od, .func (fnOf name qual params body scope dV kV doc pm an cdv ct), osl⟩) (hcd : PySem.W.codeIn K cdv qual = true) (S : YlC N ps scope)
 (len : ∀ vs H Q E, sp vs H Q E -> vs.length = ps.length)
 (hbody : ∀ (A : Around) (outer : List Env) (s : Shared) (H : Hp) (vs : List V) (Q : VK) (E : XK), Ymn k (A.deeper (envOfC qual scope s.heap.objs.size f cdv)) -> sp vs H Q E ->
  ∃ t, PSs (YnL CX P w K mg base N qual scope f cdv A outer s H E) body t /\ t { nx := fun _ H' => Q .non H', rt := Q } (start N vs) H) :
 YmV P w K mg base CX (k + 1) f (fnOf name qual params body scope dV kV doc pm an cdv ct) ps sp := by
 refine ⟨len, fun A outer s H args us vs Q E hr e0 hb r hsp => ?_⟩
 have hl := len _ _ _ _ hsp
 have KX : K.In s.heap := e0.mod.kin.keeps fun b o e => (e0.bs b o e).1
 have lim : s.heap.NoLimit := e0.mod.nolimit.keeps fun b o e => (e0.bs b o e).1
 have hkind : ∀ y ∈ ps.zip us, scope.names.lookup y.1 = some .local \/ (scope.names.lookup y.1 = some .cell /\ ((cellsFrom (s.heap.objs.size + 1) scope.names []).lookup y.1).isSome = true) := fun ⟨n, v⟩ hy => by
  rcases S.par n (ZB5 hy).1 with q | q
  ·exact .inl q
  ·exact .inr ⟨q, PySem.W.cellsFrom_some _ _ _ (.inl q)⟩
 refine codeAny_call_function hr.depth (KX _ _ lk) rfl S.co S.gen rfl (PySem.W.codeRec_of KX hcd) (hb _ _ _ _ ?_)
 refine wpAny_newFunctionEnv_cells S.kind hkind fun env he s1 x => ?_
 subst he
 refine ⟨lim.keeps x.toInCall.keep, codeAny_func ?_⟩
 obtain ⟨t, ht, hq⟩ := hbody A outer s H vs Q E (hr.deeper _) hsp
 have I : Inv (YnL CX P w K mg base N qual scope f cdv A outer s H E) [] (start N vs) H s1 := Yee S hr.hd e0 hl r x
 refine ZA8 (ht [] s1 (start N vs) H _ I hq) (fun fl s' hs => ?_) fun e s' hs => hs
 have fin : ∀ {σ' : St} {H' : Hp} {v : V} {u : Value}, Inv (YnL CX P w K mg base N qual scope f cdv A outer s H E) [] σ' H' s' -> RelV v u -> Q v H' -> CE outer P w H s Q u s' :=
  fun {σ' H' v u} J rv q => ⟨v, H', J.os, J.bare, J.base, J.hok, rv, q⟩
 cases fl with
 | ret u =>
  obtain ⟨v, σ', H', J, rv, q⟩ := hs
  exact fin J rv q
 | next =>
  obtain ⟨σ', H', J, q⟩ := hs
  exact fin (v := V.non) (u := Value.none) J rfl q
 | brk =>
  obtain ⟨_, _, _, q⟩ := hs
  exact False.elim q
 | cont =>
  obtain ⟨_, _, _, q⟩ := hs
  exact False.elim q
end L2
namespace L2
open PySem PySem.Spec PyProof.Rows
section
variable {X : Cx} {x : Str} {p pos : Pos} {e : Expr} {es : List Expr} {t : TA} {id T : String} {r : List V -> Hp -> VK -> Prop}
def tCB (r : List V -> Hp -> VK -> Prop) (t : TA) : TE := fun σ H Q => t σ H fun vs H1 => r vs H1 Q
theorem Ycv (hc : Yl2 X (.builtin id) r) (hg : Gl X x) (hm : X.mg x = none) (hv : bootBuiltins x = some (.builtin id)) (ha : PA X (e :: es) t) (hn : x ≠ "__name__" := by decide) (hdb : (x == ("__debug__" : Str)) = false := by decide)
 (he : starEach (e :: es) X.env = (false, eval e X.env) :: starEach es X.env := by rfl) (hpl : (backTo pos (starEach es X.env)).any (·.1) = false := by rfl) : PE X (.Call (.Name x p) (e :: es) [] pos) (tCB r t) := by
 show 163
 refine ZBE (Z5 I hg hm hv ?_ hn hdb)
 exact PyProof.Rows.callWith_builtin1 (thn (ha pos pins s σ H _ I h) fun us s1 ⟨vs, H1, I1, r1, q1⟩ => hc pins s1 σ H1 vs us Q I1 r1 q1) he hpl
theorem VN (hc : Yl2 X (.type T) r) (hg : Gl X x) (hm : X.mg x = none) (hv : bootBuiltins x = some (.type T)) (ha : PA X (e :: es) t) (hn : x ≠ "__name__" := by decide) (hdb : (x == ("__debug__" : Str)) = false := by decide)
 (he : starEach (e :: es) X.env = (false, eval e X.env) :: starEach es X.env := by rfl) (hpl : (backTo pos (starEach es X.env)).any (·.1) = false := by rfl) : PE X (.Call (.Name x p) (e :: es) [] pos) (tCB r t) := by
 show 163
 refine ZBE (Z5 I hg hm hv ?_ hn hdb)
 exact PyProof.Rows.callWith_type1 (thn (ha pos pins s σ H _ I h) fun us s1 ⟨vs, H1, I1, r1, q1⟩ => hc pins s1 σ H1 vs us Q I1 r1 q1) he hpl
end
end L2
namespace HT
open PySem PyProof.Rows
section
open PySem.SeqAt
open PySem.AutoSeq1 (wpAny_loadPart')
open PySem.MeetsSeq PySem.MeetsSeq2 PySem.MeetsSeq3
end
section
variable {prog : Program} {w : World} {A : Around} {E : VSP} {s : Shared}
theorem cat_tup {t b : Addr} {vs ws : List Value} {Q : VSP} (ht : IsTup s.heap t vs.toArray) (hb : IsTup s.heap b ws.toArray) (hv : vs ≠ [])
 (h1 : ws = [] -> Q (.ref t) s) (h2 : ws ≠ [] -> Q (.ref s.heap.objs.size) { s with heap := s.heap.push { cls := .type "tuple", data := .seq (vs ++ ws).toArray } })
 (hsz : vs.length + ws.length <= sizeLine) : wpAny (model prog w) A (binaryOp .Add (.ref t) (.ref b)) Q E s := by
 obtain ⟨⟨cls, dd, data, sl⟩, ho, hc, n, hd⟩ := id ht
 obtain ⟨⟨cls2, dd2, data2, sl2⟩, ho2, hc2, n2, hd2⟩ := id hb
 simp only at hc hd hc2 hd2
 subst hc hd hc2 hd2
 have e : vs.toArray ++ ws.toArray = (vs ++ ws).toArray := by simp
 by_cases hw : ws = []
 ·exact concat_meets ⟨_, ho, rfl⟩ ⟨_, ho2, rfl⟩ noFill_tuple_add seq_tuple_add PySem.F.slot_tuple_add PySem.F.entry_tuple_add (PySem.F.args_tuple_add_2 _ _)
   (tuple_addW1 t b vs.toArray ws.toArray n n2 dd dd2 sl sl2 (by simpa using hv) (by simp [hw])) ⟨ho, ho2, h1 hw⟩
 ·refine concat_meets ⟨_, ho, rfl⟩ ⟨_, ho2, rfl⟩ noFill_tuple_add seq_tuple_add PySem.F.slot_tuple_add PySem.F.entry_tuple_add (PySem.F.args_tuple_add_2 _ _)
   (tuple_addW2 t b vs.toArray ws.toArray n n2 dd dd2 sl sl2 (by simpa using hv) (by simpa using hw) (by rw [List.size_toArray, List.size_toArray]; exact hsz)) ⟨ho, ho2, ?_⟩
  rw [e]
  exact h2 hw
def sIx (n d : Nat) : Option Int -> Nat
 | none => d
 | some v => if v < 0 then (v + (n : Int)).toNat else min v.toNat n
theorem Yj3 (n d : Nat) (hd : d <= n) (o : Option Int) : sIx n d o <= n := by
 cases o with
 | none => exact hd
 | some v =>
  show (if v < 0 then (v + (n : Int)).toNat else min v.toNat n) <= n
  by_cases hv : v < 0
  ·rw [ZAF hv]; omega
  ·rw [ZAE hv]; exact Nat.min_le_right _ _
theorem YdL (v : Int) (n d : Nat) : (if v < 0 then max (v + (n : Int)) 0 else min v (n : Int)) = ((sIx n d (some v) : Nat) : Int) := by
 show (if v < 0 then max (v + (n : Int)) 0 else min v (n : Int)) = (((if v < 0 then (v + (n : Int)).toNat else min v.toNat n) : Nat) : Int)
 by_cases hv : v < 0
 ·simp only [if_pos hv]; omega
 ·simp only [if_neg hv]; omega
theorem YcU (lo hi : Option Int) (n : Nat) : Builtin.Slice.sliceAdjust lo hi 1 (n : Int) = (((sIx n 0 lo : Nat) : Int), ((sIx n n hi : Nat) : Int)) := by
 have h1 : ¬ ((1 : Int) < 0) := by omega
 unfold Builtin.Slice.sliceAdjust
 simp only [h1, if_false]
 refine Prod.ext ?_ ?_
 ·cases lo with
  | none => rfl
  | some v => exact YdL v n 0
 ·cases hi with
  | none => rfl
  | some v => exact YdL v n n
theorem YcS (i j : Nat) : Builtin.Slice.slicePlaces (i : Int) (j : Int) 1 = j - i := by
 unfold Builtin.Slice.slicePlaces
 have h1 : (1 : Int) > 0 := by omega
 simp only [h1, if_true, Int.ediv_one]
 split <;> omega
theorem JM {v : Value} {o : Option Int} {Q : Option Int -> Shared -> Prop} (p : IsPart v o) (h : Q o s) : wpAny (model prog w) A (Builtin.Slice.slicePartIndex v) Q E s := by
 cases p with
 | none => exact slicePart_none h
 | int i t => exact slicePart_int h
theorem sliceApplied_gen {sl : Addr} {vl vu : Value} {lo hi : Option Int} {n : Nat} {Q : Int × Int × Nat -> Shared -> Prop} (hs : s.heap.IsSliceOf sl vl vu .none) (pl : IsPart vl lo) (pu : IsPart vu hi)
 (h : Q (((sIx n 0 lo : Nat) : Int), 1, sIx n n hi - sIx n 0 lo) s) : wpAny (model prog w) A (Builtin.Slice.sliceApplied (.ref sl) (pure (n : Int))) Q E s := by
 obtain ⟨os, hos, hcs, hds⟩ := id hs
 unfold Builtin.Slice.sliceApplied Builtin.Slice.sliceFields
 refine ZAA (ZAA (ZAn hos hds (x := vl) rfl (ZAA (ZAn hos hds (x := vu) rfl (ZAA (ZAn hos hds (x := .none) rfl (ZAC ?_)))))))
 refine ZAA (slicePart_none ?_)
 show wpAny _ _ (if ((1 : Int) == 0) = true then _ else _) _ _ s
 rw [ZAE (by decide)]
 refine ZAA (JM pl (ZAA (JM pu (ZAA (ZAC ?_)))))
 show wpAny _ _ (match Builtin.Slice.sliceAdjust lo hi 1 (n : Int) with | (lo, hi) => pure (lo, (1 : Int), Builtin.Slice.slicePlaces lo hi 1)) _ _ s
 rw [YcU lo hi n]
 show wpAny _ _ (pure (((sIx n 0 lo : Nat) : Int), (1 : Int), Builtin.Slice.slicePlaces ((sIx n 0 lo : Nat) : Int) ((sIx n n hi : Nat) : Int) 1)) _ _ s
 rw [YcS]
 exact ZAC h
theorem Ygt (xs : Array Value) (i k : Nat) : ((List.range k).filterMap fun (m : Nat) => xs[((i : Int) + (m : Int) * 1).toNat]?).toArray = ((xs.toList.drop i).take k).toArray := by
 have e : (fun (m : Nat) => xs[((i : Int) + (m : Int) * 1).toNat]?) = fun m => xs[i + m]? := by
  funext m
  have : ((i : Int) + (m : Int) * 1).toNat = i + m := by omega
  show 164
 rw [e]
 have := pick_run xs i k
 rw [List.filterMap_map] at this
 have e2 : ((fun x => xs[x]?) ∘ fun x => i + x) = fun m => xs[i + m]? := rfl
 rw [e2] at this
 show 164
theorem getItem_tuple_cut {t sl : Addr} {items : Array Value} {vl vu : Value} {lo hi : Option Int} {Q : VSP} (ht : IsTup s.heap t items) (hs : s.heap.IsSliceOf sl vl vu .none) (pl : IsPart vl lo) (pu : IsPart vu hi)
 (hw : ¬ (sIx items.size 0 lo = 0 /\ sIx items.size items.size hi = items.size))
 (h : Q (.ref s.heap.objs.size) { s with heap := s.heap.push { cls := .type "tuple", data := .seq ((items.toList.drop (sIx items.size 0 lo)).take (sIx items.size items.size hi - sIx items.size 0 lo)).toArray } })
 (hsz : items.size <= sizeLine) : wpAny (model prog w) A (getItem (.ref t) (.ref sl)) Q E s := by
 have htake : sizeOk (.seq ((items.toList.drop (sIx items.size 0 lo)).take (sIx items.size items.size hi - sIx items.size 0 lo)).toArray) := by
  show ((items.toList.drop (sIx items.size 0 lo)).take (sIx items.size items.size hi - sIx items.size 0 lo)).toArray.size <= sizeLine
  rw [ZAl, ZAm, ZBm, Array.length_toList]
  omega
 have hj : sIx items.size items.size hi <= items.size := Yj3 _ _ (ZAI _) hi
 obtain ⟨os, hos, hcs, hds⟩ := id hs
 have hTs : s.TypeIs (.ref sl) "slice" := ⟨os, hos, hcs⟩
 unfold getItem
 show 244
 first | refine ZAA (ZAC ?_) | skip
 refine ZAA (wpAny_sequenceKey ht.typeIs (by decide) ?_)
 refine ZAA (wpAny_callSpecial?_slot (name := Str.ofString "__getitem__") ht.typeIs PyProof.Rows.slot_tuple_getitem
  (ZAj PyProof.Rows.slot_tuple_getitem ht.typeIs entry_tuple_getitem ?_ (args_tuple_getitem _ _)))
 show wpAny _ _ (Builtin.Tuple.tupleItemsOf (.ref t) >>= _) _ _ s
 refine ZAA (tupleItemsOf_ ht ?_)
 refine ZAA (ZBW hTs ?_)
 show 223
 refine ZAA (sliceApplied_gen hs pl pu ?_)
 have hno : ¬ ((((sIx items.size 0 lo : Nat) : Int) == 0 && (1 : Int) == 1 && (sIx items.size items.size hi - sIx items.size 0 lo) == items.size) = true) := by
  intro q
  rw [ZAk, ZAk] at q
  have q1 : ((sIx items.size 0 lo : Nat) : Int) = 0 := eq_of_beq q.1.1
  have q2 : sIx items.size items.size hi - sIx items.size 0 lo = items.size := eq_of_beq q.2
  exact hw ⟨by omega, by omega⟩
 show wpAny _ _ (if (((sIx items.size 0 lo : Nat) : Int) == 0 && (1 : Int) == 1 && (sIx items.size items.size hi - sIx items.size 0 lo) == items.size) = true then _ else _) _ _ s
 rw [ZAE hno, Ygt]
 first
  | exact ZAA (m := Builtin.Tuple.tupleExact _) (ZAu (ZAC ⟨_, rfl, ZAC h⟩) htake)
  | exact ZAA (m := Builtin.Tuple.tupleExact _) (ZAu (ZAA (ZAC (ZAC ⟨_, rfl, ZAC h⟩))) htake)
  | exact ZAA (ZAA (m := Builtin.Tuple.tupleExact _) (ZAu (ZAC (ZAC ⟨_, rfl, ZAC h⟩)) htake))
  | exact ZAA (ZAA (m := Builtin.Tuple.tupleExact _) (ZAu (ZAC ⟨_, rfl, ZAC h⟩) htake))
end
end HT
namespace L2
open PySem PySem.Spec PyProof.Rows
abbrev TO := St -> Hp -> (Option Int -> Hp -> Prop) -> Prop
def PO (X : Cx) (e : Option Expr) (t : TO) : Prop :=
 ∀ (pins : LAO) (s : Shared) (σ : St) (H : Hp) (Q : Option Int -> Hp -> Prop), Inv X pins σ H s -> t σ H Q ->
  wpAny (model X.prog X.w) X.A (evalPart e X.env) (fun u s' => ∃ o H', Inv X pins σ H' s' /\ IsPart u o /\ Q o H') X.xe s
def YoE : TO := fun _ H Q => Q none H
def Ype (t : TE) : TO := fun σ H Q => t σ H fun x H1 => ∃ i, x = .int i /\ Q (some i) H1
section
variable {X : Cx} {e : Expr} {te : TE} {lo hi : Option Expr} {tl th : TO} {pos p2 : Pos}
theorem YhK : PO X none YoE := by
 show 163
 rw [evalPart_none]
 exact ZAC ⟨none, H, I, .none, h⟩
theorem Yix (h : PE X e te) : PO X (some e) (Ype te) := by
 intro pins s σ H Q I hw
 rw [evalPart_some]
 refine thn (h pins s σ H _ I hw) fun u s1 ⟨x, H1, I1, r1, q1⟩ => ?_
 obtain ⟨i, rfl, q⟩ := q1
 obtain ⟨t, rfl⟩ := r1
 exact ⟨some i, H1, I1, .int i t, q⟩
def SlR (X : Cx) (r : V -> Option Int -> Option Int -> Hp -> VK -> Prop) : Prop :=
 ∀ (pins : LAO) (s : Shared) (σ : St) (H : Hp) (x : V) (v vl vu : Value) (lo hi : Option Int) (sl : Addr) (Q : VK), Inv X pins σ H s -> RelV x v -> s.heap.IsSliceOf sl vl vu .none -> IsPart vl lo -> IsPart vu hi -> r x lo hi H Q ->
  ∃ T id, typeLookup (.type T) "__getitem__" = pure (some (.builtin id)) /\ s.TypeIs v T /\ wpAny (model X.prog X.w) X.A (getItem v (.ref sl)) (EP X pins σ Q) X.xe s
theorem SlR.or {r r' : V -> Option Int -> Option Int -> Hp -> VK -> Prop} (h : SlR X r) (h' : SlR X r') : SlR X (fun x lo hi H Q => r x lo hi H Q \/ r' x lo hi H Q) := by
 intro pins s σ H x v vl vu lo hi sl Q I rx hs pl pu q
 rcases q with q | q
 ·exact h pins s σ H x v vl vu lo hi sl Q I rx hs pl pu q
 ·exact h' pins s σ H x v vl vu lo hi sl Q I rx hs pl pu q
def tSl (r : V -> Option Int -> Option Int -> Hp -> VK -> Prop) (te : TE) (tl th : TO) : TE := fun σ H Q => te σ H fun x H1 => tl σ H1 fun l H2 => th σ H2 fun u H3 => r x l u H3 Q
theorem Yhb {r : V -> Option Int -> Option Int -> Hp -> VK -> Prop} (hr : SlR X r) (he : PE X e te) (hl : PO X lo tl) (hu : PO X hi th) : PE X (.Subscript e (.Slice lo hi none p2) pos) (tSl r te tl th) := by
 show 163
 refine Subscript_ (thn (he pins s σ H _ I h) fun v s1 ⟨x, H1, I1, r1, q1⟩ => ?_)
 refine wpAny_Slice (thn (hl pins s1 σ H1 _ I1 q1) fun vl s2 ⟨l, H2, I2, pl, q2⟩ => thn (hu pins s2 σ H2 _ I2 q2) fun vu s3 ⟨u, H3, I3, pu, q3⟩ => ?_)
 rw [evalPart_none]
 show 170
 have I4 : Inv X pins σ H3 { s3 with heap := s3.heap.push { cls := .type "slice", data := .fields #[vl, vu, .none] } } := I3.kept (t' := s3.toks) fun b ob q => ZAD _ q
 obtain ⟨T, id, hT, ht, hg⟩ := hr pins { s3 with heap := s3.heap.push { cls := .type "slice", data := .fields #[vl, vu, .none] } } σ H3 x v vl vu l u s3.heap.objs.size Q I4 r1 (Heap.IsSliceOf.new ..) pl pu q3
 show wpAny (model X.prog X.w) X.A (subscriptTail e (.Slice lo hi none p2) v (.ref s3.heap.objs.size)) (EP X pins σ Q) X.xe { s3 with heap := s3.heap.push { cls := .type "slice", data := .fields #[vl, vu, .none] } }
 exact tail_any (ops := [.ref s3.heap.objs.size, v]) ht hT hg (by with_unfolding_all rfl)
def YnP (xs : List V) (lo hi : Option Int) : List V := (xs.drop (HT.sIx xs.length 0 lo)).take (HT.sIx xs.length xs.length hi - HT.sIx xs.length 0 lo)
theorem Jk (xs : List V) (lo hi : Option Int) : (YnP xs lo hi).length <= xs.length := by
 unfold YnP
 rw [ZAm, ZBm]
 omega
def YpF (K : Frag) : V -> Option Int -> Option Int -> Hp -> VK -> Prop := fun x lo hi H Q => ∃ a xs, x = .ref a /\ SqT K H a xs /\
 ¬ (HT.sIx xs.length 0 lo = 0 /\ HT.sIx xs.length xs.length hi = xs.length) /\ ∀ p, H p = none -> Q (.ref p) (upd H p (.tup (YnP xs lo hi)))
theorem Yi1 : SlR X (YpF X.K) := by
 show 232
 obtain ⟨a, xs, rfl, hx, hw, q⟩ := h
 cases rx
 obtain ⟨its, r, ht, hz⟩ := I.tuple hx
 have hlen : its.toArray.size = xs.length := by rw [ZAl]; exact r.length.symm
 refine ⟨"tuple", _, PyProof.Rows.slot_tuple_getitem.lookup, ht.typeIs, ?_⟩
 refine HT.getItem_tuple_cut ht hs pl pu (by rw [hlen]; exact hw) ?_ (by rw [hlen]; exact hz)
 rw [hlen]
 refine ⟨.ref s.heap.objs.size, _, I.laid (t' := s.toks) (o := .tup (YnP xs lo hi)) (fun b ob q => ZAD _ q) (ZAI _) ?_, rfl, q _ (I.hok.fresh (ZAI _))⟩
 exact ⟨ZAV (Jk xs lo hi) hz, _, (r.drop (HT.sIx xs.length 0 lo)).take (HT.sIx xs.length xs.length hi - HT.sIx xs.length 0 lo), IsTup.new _ _⟩
def Yo9 (K : Frag) : R2 := fun x y H Q => ∃ a b xs ys, x = .ref a /\ y = .ref b /\ SqT K H a xs /\ SqT K H b ys /\ xs ≠ [] /\ xs.length + ys.length <= sizeLine /\
 (ys = [] -> Q (.ref a) H) /\ (ys ≠ [] -> ∀ p, H p = none -> Q (.ref p) (upd H p (.tup (xs ++ ys))))
theorem Vals.nil_iff {xs : List V} {us : List Value} (r : Vals xs us) : us = [] ↔ xs = [] := by
 cases r with
 | nil => simp
 | cons _ _ => simp
theorem Yia : OpR X (binaryOp .Add) (Yo9 X.K) := by
 show 184
 obtain ⟨a, b, xs, ys, rfl, rfl, ha, hb, hx, hz, q1, q2⟩ := h
 show 105
 obtain ⟨its, r1, p1, _⟩ := I.tuple ha
 obtain ⟨its2, r2, p2, _⟩ := I.tuple hb
 refine HT.cat_tup p1 p2 (fun z => hx (r1.nil_iff.mp z)) (fun z => ⟨.ref a, H, I, rfl, q1 (r2.nil_iff.mp z)⟩) (fun z => ?_) (by rw [<- r1.length, <- r2.length]; exact hz)
 refine ⟨.ref s.heap.objs.size, _, I.laid (t' := s.toks) (o := .tup (xs ++ ys)) (fun b ob q => ZAD _ q) (ZAI _) ?_, rfl, q2 (fun w => z (r2.nil_iff.mpr w)) _ (I.hok.fresh (ZAI _))⟩
 exact ⟨by rw [ZAJ]; exact hz, _, r1.append r2, IsTup.new _ _⟩
end
end L2
namespace L2
open PySem PySem.Spec PyProof.Rows
variable {s : Shared}
def ixN (n : Nat) (i : Int) : Option Nat := if 0 <= i then (if i < n then some i.toNat else none) else if -(n : Int) <= i then some (i + n).toNat else none
def atI {α : Type} (xs : List α) (i : Int) : Option α := (ixN xs.length i).bind fun j => xs[j]?
theorem YdH {n : Nat} {i : Int} {j : Nat} (h : ixN n i = some j) : seqIndex? i n = some j /\ j < n /\ -(n : Int) <= i /\ i < n := by
 unfold ixN at h
 by_cases h0 : 0 <= i
 ·rw [ZAF h0] at h
  by_cases h1 : i < n
  ·rw [ZAF h1] at h
   have e : i.toNat = j := Option.some.inj h
   exact ⟨by rw [seqIndex_of h0 h1, e], by omega, by omega, h1⟩
  ·rw [ZAE h1] at h; cases h
 ·rw [ZAE h0] at h
  by_cases h1 : -(n : Int) <= i
  ·rw [ZAF h1] at h
   have e : (i + n).toNat = j := Option.some.inj h
   exact ⟨by rw [seqIndex_neg (by omega) h1, e], by omega, h1, by omega⟩
  ·rw [ZAE h1] at h; cases h
theorem Ybu {α : Type} {xs : List α} {i : Int} {v : α} (h : atI xs i = some v) : ∃ j, seqIndex? i xs.length = some j /\ xs[j]? = some v /\ j < xs.length /\ -(xs.length : Int) <= i /\ i < xs.length := by
 unfold atI at h
 cases e : ixN xs.length i with
 | none => rw [e] at h; cases h
 | some j =>
  rw [e] at h
  obtain ⟨h1, h2, h3, h4⟩ := YdH e
  exact ⟨j, h1, h, h2, h3, h4⟩
def Ynb (b : Expr) : Prop := ∀ o i, subscripted b false o i = operate [o, i] (getItem o i)
def IxR (X : Cx) (r : R2) : Prop :=
 ∀ (value slice : Expr) (pins : LAO) (s : Shared) (σ : St) (H : Hp) (x y : V) (v u : Value) (Q : VK), Inv X pins σ H s -> RelV x v -> RelV y u -> r x y H Q ->
  subscripted slice false v u = operate [v, u] (getItem v u) -> wpAny (model X.prog X.w) X.A (subscriptTail value slice v u) (EP X pins σ Q) X.xe s
def MtR (X : Cx) (id : String) (r : V -> List V -> Hp -> VK -> Prop) : Prop :=
 ∀ (pins : LAO) (s : Shared) (σ : St) (H : Hp) (x : V) (xs : List V) (v : Value) (us : List Value) (Q : VK), Inv X pins σ H s -> RelV x v -> Vals xs us -> r x xs H Q ->
  wpAny (model X.prog X.w) X.A (call (.builtin id) (v :: us)) (EP X pins σ Q) X.xe s
section
variable {X : Cx} {a b : Expr} {ta tb : TE} {pos : Pos}
theorem IxR.or {r r' : R2} (h : IxR X r) (h' : IxR X r') : IxR X (fun x y H Q => r x y H Q \/ r' x y H Q) := by
 intro value slice pins s σ H x y v u Q I rx ry q hs
 rcases q with q | q
 ·exact h value slice pins s σ H x y v u Q I rx ry q hs
 ·exact h' value slice pins s σ H x y v u Q I rx ry q hs
theorem YfS {r : R2} (hr : IxR X r) (ha : PE X a ta) (hb : PE X b tb) (hs : Ynb b) : PE X (.Subscript a b pos) (tOp r ta tb) := by
 show 163
 exact Subscript_ (YoY ha hb I h fun v u s2 x y H2 I2 rx ry q => hr a b pins s2 σ H2 x y v u Q I2 rx ry q (hs _ _))
def Ypp (K : Frag) : R2 := fun x y H Q => ∃ p xs i v, x = .ref p /\ y = .int i /\ SqL K H p xs /\ atI xs i = some v /\ Q v H
def Yo4 (K : Frag) : R2 := fun x y H Q => ∃ p xs i v, x = .ref p /\ y = .int i /\ SqT K H p xs /\ atI xs i = some v /\ Q v H
def Ypl : R2 := fun x y H Q => ∃ z i c, x = .str z /\ y = .int i /\ z.length <= sizeLine /\ atI z.cps.toList i = some c /\ Q (.str ⟨#[c]⟩) H
theorem ix_list : IxR X (Ypp X.K) := by
 show 251
 obtain ⟨p, xs, i, z, rfl, rfl, hq, he, q⟩ := h
 cases rx
 obtain ⟨t, rfl⟩ := ry
 obtain ⟨its, r, pl, hz⟩ := I.list hq
 obtain ⟨j, h1, h2, h3, h4, h5⟩ := Ybu he
 obtain ⟨w, ew, rw'⟩ := r.get h2
 have hl := r.length
 show 211
 have fin : EP X pins σ Q w s := ⟨z, H, I, rw', q⟩
 by_cases h0 : 0 <= i
 ·have hj : i.toNat = j := by
   rw [seqIndex_of h0 h5] at h1
   show 259
  exact item_listR pl.isList h0 (by omega) (by rw [hj]; simpa using ew) fin hs
 ·have hj : (i + (its.toArray.size : Int)).toNat = j := by
   rw [seqIndex_neg (by omega) h4] at h1
   rw [ZAl, <- hl]
   show 259
  exact subscriptTail_builtinR (x := w) pl.isList.typeIs slot_list_getitem.lookup
   (wpAny_getItem_list_neg (Q := fun r s' => r = w /\ EP X pins σ Q r s') pl.isList (by omega) (by rw [List.size_toArray] <;> omega) (by omega) (by rw [hj]; simpa using ew) ⟨rfl, fin⟩) hs
theorem ix_tup : IxR X (Yo4 X.K) := by
 show 251
 obtain ⟨p, xs, i, z, rfl, rfl, hq, he, q⟩ := h
 cases rx
 obtain ⟨t, rfl⟩ := ry
 obtain ⟨its, r, pl, hz⟩ := I.tuple hq
 obtain ⟨j, h1, h2, h3, h4, h5⟩ := Ybu he
 obtain ⟨w, ew, rw'⟩ := r.get h2
 have hl := r.length
 show 211
 have fin : EP X pins σ Q w s := ⟨z, H, I, rw', q⟩
 exact subscriptTail_builtinR (x := w) pl.typeIs slot_tuple_getitem.lookup
  (getItem_tuple (j := j) (Q := fun r s' => r = w /\ EP X pins σ Q r s') pl (by omega) (by omega) (by rw [List.size_toArray, <- hl]; exact h1) (by simpa using ew) ⟨rfl, fin⟩) hs
theorem YjK : IxR X Ypl := by
 show 251
 obtain ⟨z, i, c, rfl, rfl, hz, he, q⟩ := h
 show 23
 obtain ⟨j, h1, h2, h3, h4, h5⟩ := Ybu he
 have hl : z.cps.toList.length = z.length := by simp [Str.length]
 rw [hl] at h1 h4 h5
 show 211
 exact tail_any (typeIs_str s z t) slot_str_getitem.lookup (getItem_str (c := c) (by
  have e1 : decide (i < -(2 ^ 63 : Int)) = false := ZAS (by omega)
  have e2 : decide (i >= 2 ^ 63) = false := ZAS (by omega)
  rw [e1, e2, Bool.or_false]) (by rw [h1]; simpa using h2) ⟨.str ⟨#[c]⟩, H, I.tok _, ⟨_, rfl⟩, q⟩) hs
def rIx (K : Frag) : R2 := fun x y H Q => Ypp K x y H Q \/ Yo4 K x y H Q \/ Ypl x y H Q
theorem YjR : IxR X (rIx X.K) := ix_list.or (ix_tup.or YjK)
theorem YcT (its : List Value) (n j : Nat) (u : Value) : Obj.mapSeq (·.setIfInBounds j u) { cls := .type "list", data := .seq its.toArray n } = { cls := .type "list", data := .seq (its.set j u).toArray n } := by
 simp [Obj.mapSeq]
theorem Inv.lst {pins : LAO} {σ : St} {H : Hp} {p : Addr} {xs : List V} (I : Inv X pins σ H s) (h : H p = some (.lst xs)) :
 ∃ (its : List Value) (n : Nat), Vals xs its /\ s.heap.get? p = some { cls := .type "list", data := .seq its.toArray n } /\ xs.length <= sizeLine := by
 obtain ⟨z, its, n, r, e⟩ := I.hok p _ h
 exact ⟨its, n, r, e, z⟩
theorem Inv.lstUpd {pins : LAO} {σ : St} {H : Hp} {p : Addr} {xs ys : List V} {its its' : List Value} {n n' : Nat} {f : Obj -> Obj} (I : Inv X pins σ H s) (h : H p = some (.lst xs))
 (ho : s.heap.get? p = some { cls := .type "list", data := .seq its.toArray n }) (hf : f { cls := .type "list", data := .seq its.toArray n } = { cls := .type "list", data := .seq its'.toArray n' }) (r : Vals ys its') (hz : ys.length <= sizeLine) (t : Nat) :
 Inv X pins σ (upd H p (.lst ys)) { s with heap := s.heap.update p f, toks := t } := by
 have e : (s.heap.update p f).get? p = some { cls := .type "list", data := .seq its'.toArray n' } := by
  rw [ZBF f ho (by rw [hf] <;> rfl), hf]
 refine I.write (x := p) (e := p) (by rw [h]; trivial) (.inl rfl) (fun b u hb q => (ZAq _ _ (ZAs hb)).trans q) ⟨_, e⟩ ?_
 exact ⟨hz, its', n', r, e⟩
def YoN : V -> V -> V -> Hp -> (Hp -> Prop) -> Prop := fun o i v H Q => ∃ p xs k j, o = .ref p /\ i = .int k /\ H p = some (.lst xs) /\ ixN xs.length k = some j /\ Q (upd H p (.lst (xs.set j v)))
theorem YgV : YpJ X YoN := by
 intro pins s σ H o i v ov iv u Q I ro ri rv h
 obtain ⟨p, xs, k, j, rfl, rfl, hp, hj, q⟩ := h
 cases ro
 obtain ⟨t, rfl⟩ := ri
 obtain ⟨its, n, r, ho, hz⟩ := I.lst hp
 obtain ⟨h1, h2, h3, h4⟩ := YdH hj
 have hl := r.length
 show 211
 have I' : Inv X pins σ (upd H p (.lst (xs.set j v))) { s with heap := s.heap.update p (Obj.mapSeq (·.setIfInBounds j u)) } :=
  I.lstUpd hp ho (YcT its n j u) (r.set rv j) (by rw [ZBw]; exact hz) s.toks
 by_cases h0 : 0 <= k
 ·have hk : k.toNat = j := by
   rw [seqIndex_of h0 h4] at h1
   show 259
  exact PySem.W.ki_setAt ho h0 (by omega) (by rw [ZAl, <- hl]; exact h4) (by rw [hk]; exact ⟨_, I', q⟩)
 ·have hk : (k + (its.toArray.size : Int)).toNat = j := by
   rw [seqIndex_neg (by omega) h3] at h1
   rw [ZAl, <- hl]
   show 259
  exact PySem.W.ki_setBack ho (by omega) (by rw [ZAl, <- hl]; exact h3) (by omega) (by rw [hk]; exact ⟨_, I', q⟩)
theorem Ybz (lo hi : Option Int) (n : Nat) : (sliceBounds lo hi none n).1 = ((HT.sIx n 0 lo : Nat) : Int) /\ (sliceBounds lo hi none n).2.1 = ((HT.sIx n n hi : Nat) : Int) /\ (sliceBounds lo hi none n).2.2 = 1 := by
 refine ⟨?_, ?_, rfl⟩
 ·cases lo with
  | none => simp [sliceBounds, HT.sIx]
  | some i =>
   simp only [sliceBounds, HT.sIx, Option.getD_none, show (1 : Int) > 0 by decide, if_true]
   by_cases h : i < 0
   ·simp only [h, if_true] <;> omega
   ·simp only [h, if_false] <;> omega
 ·cases hi with
  | none => simp [sliceBounds, HT.sIx]
  | some i =>
   simp only [sliceBounds, HT.sIx, Option.getD_none, show (1 : Int) > 0 by decide, if_true]
   by_cases h : i < 0
   ·simp only [h, if_true] <;> omega
   ·simp only [h, if_false] <;> omega
theorem YaD (its : List Value) (lo hi : Option Int) : slicePick its.toArray lo hi none = ((its.drop (HT.sIx its.length 0 lo)).take (HT.sIx its.length its.length hi - HT.sIx its.length 0 lo)).toArray := by
 obtain ⟨h1, h2, h3⟩ := Ybz lo hi its.toArray.size
 unfold slicePick
 rw [h1, h2, h3]
 simp only [sliceRange_one, pick_run, List.size_toArray] <;> rfl
def YpB (K : Frag) : V -> Option Int -> Option Int -> Hp -> VK -> Prop := fun x lo hi H Q => ∃ a xs, x = .ref a /\ SqL K H a xs /\ ∀ p, H p = none -> Q (.ref p) (upd H p (.lst (YnP xs lo hi)))
theorem Yiu : SlR X (YpB X.K) := by
 show 232
 obtain ⟨a, xs, rfl, hx, q⟩ := h
 cases rx
 obtain ⟨its, r, ht, hz⟩ := I.list hx
 have hlen := r.length
 refine ⟨"list", _, slot_list_getitem.lookup, ht.isList.typeIs, ?_⟩
 refine wpAny_getItem_list_slice ht.isList hs pl pu .none (by simp) ?_ (by rw [List.size_toArray] <;> omega)
 rw [YaD, <- hlen]
 refine ⟨.ref s.heap.objs.size, _, I.laid (t' := s.toks) (o := .lst (YnP xs lo hi)) (fun b ob q => ZAD _ q) (ZAI _) ?_, rfl, q _ (I.hok.fresh (ZAI _))⟩
 exact ⟨ZAV (Jk xs lo hi) hz, _, 0, (r.drop (HT.sIx xs.length 0 lo)).take (HT.sIx xs.length xs.length hi - HT.sIx xs.length 0 lo), ZAH _ rfl⟩
def YmL : V -> Bool
 | .non => true
 | .bl _ => true
 | .int _ => true
 | .str _ => true
 | _ => false
def eqV : V -> V -> Bool
 | .non, .non => true
 | .bl a, .bl b => a == b
 | .bl a, .int b => (if a then 1 else 0) == b
 | .int a, .bl b => a == (if b then 1 else 0)
 | .int a, .int b => a == b
 | .str a, .str b => a == b
 | _, _ => false
theorem Yje {A : Around} {y x : V} {u v : Value} (ry : RelV y u) (rx : RelV x v) (fy : YmL y = true) (fx : YmL x = true) : SeqAt.EqAt A s u v (eqV y x) := by
 cases y with
 | non =>
  cases ry
  cases x with
  | non => cases rx; exact SeqAt.EqAt.same _
  | bl b => cases rx; exact SeqAt.EqAt.none_bool b
  | int b => obtain ⟨t, rfl⟩ := rx; exact SeqAt.EqAt.none_int b t
  | str b => obtain ⟨t, rfl⟩ := rx; exact SeqAt.EqAt.none_str b t
  | _ => show 253
 | bl a =>
  cases ry
  cases x with
  | non => cases rx; exact SeqAt.EqAt.bool_none a
  | bl b => cases rx; exact SeqAt.EqAt.bool_bool a b
  | int b => obtain ⟨t, rfl⟩ := rx; exact SeqAt.EqAt.bool_int a b t
  | str b => obtain ⟨t, rfl⟩ := rx; exact SeqAt.EqAt.bool_str a b t
  | _ => show 253
 | int a =>
  show 263
  cases x with
  | non => cases rx; exact SeqAt.EqAt.int_none a t'
  | bl b => cases rx; exact SeqAt.EqAt.int_bool a t' b
  | int b => obtain ⟨t, rfl⟩ := rx; exact SeqAt.EqAt.int_int a t' b t
  | str b => obtain ⟨t, rfl⟩ := rx; exact SeqAt.EqAt.int_str a t' b t
  | _ => show 253
 | str a =>
  show 263
  cases x with
  | non => cases rx; exact SeqAt.EqAt.str_none a t'
  | bl b => cases rx; exact SeqAt.EqAt.str_bool a t' b
  | int b => obtain ⟨t, rfl⟩ := rx; exact SeqAt.EqAt.str_int a t' b t
  | str b => obtain ⟨t, rfl⟩ := rx; exact SeqAt.EqAt.str_str a t' b t
  | _ => show 253
 | _ => exact absurd (show false = true from fy) ZAO
def eqU (x : V) (u : Value) : Bool := match u with
 | .none => eqV .non x
 | .bool b => eqV (.bl b) x
 | .int i _ => eqV (.int i) x
 | .str z _ => eqV (.str z) x
 | _ => false
theorem YcZ {x y : V} {u : Value} (r : RelV y u) (f : YmL y = true) : eqU x u = eqV y x := by
 cases y with
 | non => cases r; rfl
 | bl b => cases r; rfl
 | int i => show 205
 | str z => show 205
 | _ => exact absurd (show false = true from f) ZAO
theorem Vm {x : V} : ∀ {xs : List V} {us : List Value}, Vals xs us -> xs.all YmL = true -> us.any (eqU x) = xs.any fun y => eqV y x
 | _, _, .nil, _ => rfl
 | y :: xs, u :: us, .cons r t, f => by
  rw [ZBL, ZAk] at f
  rw [ZBM, ZBM, YcZ r f.1, Vm t f.2]
theorem Wh {A : Around} {s : Shared} {x : V} {v : Value} (rx : RelV x v) (fx : YmL x = true) : ∀ {xs : List V} {us : List Value}, Vals xs us -> xs.all YmL = true -> ∀ u ∈ us, SeqAt.EqAt A s u v (eqU x u)
 | _, _, .nil, _ => fun u hu => by cases hu
 | y :: xs, u :: us, .cons r t, f => fun u' hu => by
  rw [ZBL, ZAk] at f
  rcases ZAc.mp hu with rfl | hu
  ·rw [YcZ r f.1]; exact Yje r rx f.1 fx
  ·exact Wh rx fx t f.2 u' hu
def inV (x : V) (xs : List V) : Bool := xs.any fun y => eqV y x
def rIn (K : Frag) (neg : Bool) : R2 := fun x y H Q => ∃ p xs, y = .ref p /\ (SqL K H p xs \/ SqT K H p xs) /\ YmL x = true /\ xs.all YmL = true /\ Q (.bl (if neg then !inV x xs else inV x xs)) H
theorem Ye4 : OpR X (compareOp .In) (rIn X.K false) := by
 show 184
 obtain ⟨p, xs, rfl, hq, fx, fs, q⟩ := h
 cases ry
 show 213
 ·obtain ⟨its, r, pl, hz⟩ := I.list hq
  refine SeqAt.in_listAt (eqU x) pl.isList (fun w hw => Wh rx fx r fs w (by simpa using hw)) ⟨.bl _, H, I, rfl, ?_⟩
  show 54
 ·obtain ⟨its, r, pl, hz⟩ := I.tuple hq
  refine SeqAt.in_tupleAt (eqU x) pl (fun w hw => Wh rx fx r fs w (by simpa using hw)) ⟨.bl _, H, I, rfl, ?_⟩
  show 54
theorem YbH : OpR X (compareOp .NotIn) (rIn X.K true) := by
 show 184
 obtain ⟨p, xs, rfl, hq, fx, fs, q⟩ := h
 cases ry
 show 213
 ·obtain ⟨its, r, pl, hz⟩ := I.list hq
  refine SeqAt.notIn_listAt (eqU x) pl.isList (fun w hw => Wh rx fx r fs w (by simpa using hw)) ⟨.bl _, H, I, rfl, ?_⟩
  show 54
 ·obtain ⟨its, r, pl, hz⟩ := I.tuple hq
  refine SeqAt.notIn_tupleAt (eqU x) pl (fun w hw => Wh rx fx r fs w (by simpa using hw)) ⟨.bl _, H, I, rfl, ?_⟩
  show 54
theorem Wl : Yl2 X (.builtin "len") (fun xs H Q => ∃ p ys, xs = [.ref p] /\ (SqL X.K H p ys \/ SqT X.K H p ys) /\ Q (.int ys.length) H) := by
 show 221
 obtain ⟨p, ys, rfl, hq, q⟩ := h
 obtain ⟨u, rfl, rx⟩ := vals1 r
 cases rx
 show 211
 show 213
 ·obtain ⟨its, r', pl, hz⟩ := I.list hq
  have hlen := r'.length
  exact Calls.call_len_list pl.isList (by simp only [List.size_toArray] <;> omega) ⟨.int ys.length, H, I.tok _, ⟨s.toks + 1, by rw [List.size_toArray, hlen]⟩, q⟩
 ·obtain ⟨its, r', pl, hz⟩ := I.tuple hq
  have hlen := r'.length
  exact len_tuple pl (by simp only [List.size_toArray] <;> omega) ⟨.int ys.length, H, I.tok _, ⟨s.toks + 1, by rw [List.size_toArray, hlen]⟩, q⟩
theorem YbT : Yl2 X (.builtin "len") (fun xs H Q => ∃ z, xs = [.str z] /\ z.length <= sizeLine /\ Q (.int z.length) H) := by
 show 221
 obtain ⟨z, rfl, hz, q⟩ := h
 obtain ⟨u, rfl, t, rfl⟩ := vals1 r
 show 211
 exact len_str (by omega) ⟨.int z.length, H, I.tok _, ⟨_, rfl⟩, q⟩
theorem W3 : Yl2 X (.type "tuple") (fun xs H Q => ∃ p ys, xs = [.ref p] /\ ((SqL X.K H p ys /\ ∀ l, H l = none -> Q (.ref l) (upd H l (.tup ys))) \/ (SqT X.K H p ys /\ Q (.ref p) H))) := by
 show 221
 obtain ⟨p, ys, rfl, h⟩ := h
 obtain ⟨u, rfl, rx⟩ := vals1 r
 cases rx
 rcases h with ⟨hq, q⟩ | ⟨hq, q⟩
 ·obtain ⟨its, r', pl, hz⟩ := I.list hq
  have hlen := r'.length
  refine call_tuple_list pl.isList (fun h' kp => ?_) (by simp only [List.size_toArray] <;> omega)
  have I1 : Inv X pins σ H { s with heap := h' } := I.kept (t' := s.toks) kp
  have I2 : Inv X pins σ (upd H h'.objs.size (.tup ys)) { s with heap := h'.push { cls := .type "tuple", data := .seq its.toArray } } :=
   I1.laid (t' := s.toks) (fun b o e => ZAD _ e) (ZAI _) (show YlV X.prog X.w _ _ _ (.tup ys) from ⟨hz, its, r', IsTup.new _ _⟩)
  exact ⟨.ref h'.objs.size, _, I2, rfl, q _ (I1.hok.fresh (ZAI _))⟩
 ·obtain ⟨its, r', pl, hz⟩ := I.tuple hq
  exact call_tuple_same pl ⟨.ref p, H, I, rfl, q⟩
def tyV (K : Frag) (T : String) (x : V) (H : Hp) : Prop := match x with
 | .str _ => T = "str"
 | .int _ => T = "int"
 | .ref p => (T = "list" /\ ∃ xs, SqL K H p xs) \/ (T = "tuple" /\ ∃ o, K.lookup p = some o /\ o.cls = .type "tuple" /\ o.dict = none) \/
  (T = "dict" /\ ((∃ kvs, H p = some (.dK kvs)) \/ ∃ kvs, H p = some (.dT kvs))) \/ (T = "set" /\ ∃ S n, H p = some (.set S n))
 | _ => False
theorem Yjm {pins : LAO} {σ : St} {H : Hp} {T : String} {x : V} {v : Value} (I : Inv X pins σ H s) (r : RelV x v) (ty : tyV X.K T x H) :
 s.TypeIs v T /\ ∀ a, v = .ref a -> ∃ ob, s.heap.get? a = some ob /\ ob.dict = none := by
 cases x with
 | str z =>
  show 228
  cases (show T = "str" from ty)
  exact ⟨typeIs_str s z t, fun _ e => nomatch e⟩
 | int i =>
  show 228
  cases (show T = "int" from ty)
  exact ⟨typeIs_int s i t, fun _ e => nomatch e⟩
 | ref p =>
  cases r
  rcases ty with ⟨rfl, xs, hq⟩ | ⟨rfl, o, hk, hc, hd⟩ | ⟨rfl, hk⟩ | ⟨rfl, S, n, hk⟩
  ·obtain ⟨its, _, pl, _⟩ := I.list hq
   refine ⟨pl.isList.typeIs, fun a e => ?_⟩
   cases e
   obtain ⟨o, n, e, c, hd, _⟩ := pl
   exact ⟨o, e, hd⟩
  ·refine ⟨⟨o, I.kIn p o hk, hc⟩, fun a e => ?_⟩
   cases e
   exact ⟨o, I.kIn _ o hk, hd⟩
  ·have z : ∃ o, s.heap.get? p = some o /\ o.ExactDict := by
    rcases hk with ⟨kvs, hk⟩ | ⟨kvs, hk⟩
    ·obtain ⟨_, _, _, _, o, _, _, e, ex, _⟩ := I.hok p _ hk
     exact ⟨o, e, ex⟩
    ·obtain ⟨_, _, _, _, o, _, _, e, ex, _⟩ := I.hok p _ hk
     exact ⟨o, e, ex⟩
   obtain ⟨o, e, ex⟩ := z
   refine ⟨⟨o, e, ex.1⟩, fun a e2 => ?_⟩
   cases e2
   exact ⟨o, e, ex.2.1⟩
  ·obtain ⟨o, _, _, _, e, ex, _⟩ := I.hok p _ hk
   refine ⟨⟨o, e, ex.1⟩, fun a e2 => ?_⟩
   cases e2
   exact ⟨o, e, ex.2.1⟩
 | _ => exact False.elim ty
def tBM (K : Frag) (T : String) (r : V -> List V -> Hp -> VK -> Prop) (to : TE) (t : TA) : TE := fun σ H Q => to σ H fun x H1 => tyV K T x H1 /\ t σ H1 fun xs H2 => r x xs H2 Q
variable {o e : Expr} {es : List Expr} {to : TE} {t : TA} {name : Str} {apos cpos : Pos} {T id : String} {r : V -> List V -> Hp -> VK -> Prop}
theorem YiV (pa : PlainAttrs T) (slot : Slot T name id) (hty : typeOf (.builtin id) = pure (.type "method_descriptor")) (hm : MtR X id r) (ho : PE X o to) (ha : PA X (e :: es) t)
 (hbase : attributeBase o name X.env (eval o X.env) = eval o X.env := by rfl)
 (hfew : ((backTo cpos (starEach (e :: es) X.env)).all (fun x => !x.1) && (backToKw cpos (keywordEach [] X.env)).all (fun x => x.1.isSome)
  && decide ((e :: es).length + ([] : List Keyword).length + (if ([] : List Keyword).isEmpty then 0 else 1) < 30)) = true := by rfl)
 (hline : (apos.endLine == cpos.line) = true := by rfl) (hs : starEach (e :: es) X.env = (false, eval e X.env) :: starEach es X.env := by rfl) (hplain : (backTo cpos (starEach es X.env)).any (·.1) = false := by rfl) :
 PE X (.Call (.Attribute o name apos) (e :: es) [] cpos) (tBM X.K T r to t) := by
 show 163
 refine wpAny_Call_method_late hbase hfew hline rfl (thn (ho pins s σ H _ I h) fun v s1 ⟨x, H1, I1, r1, ty, q1⟩ => ?_)
 obtain ⟨h1, h2⟩ := Yjm I1 r1 ty
 refine ⟨T, id, pa, slot, hty, h1, h2, ?_⟩
 have hA := ha cpos pins s1 σ H1 _ I1 q1
 rw [hs] at hA ⊢
 refine Calls.callWith_builtin (by show (false || (backTo cpos (starEach es X.env)).any (·.1)) = false; rw [hplain] <;> rfl) (Calls.evalArgs_plain ?_)
 exact thn hA fun us s2 ⟨vs, H2, I2, r2, q2⟩ => hm pins s2 σ H2 x vs v us Q I2 r1 r2 q2
/- xs.append(e), list.index on a module's tuple .. are MtR facts of 06m -/
end
end L2
namespace L2
open PySem PySem.Spec PyProof.Rows
def MtM (X : Cx) (id : String) (r : V -> List V -> Hp -> VK -> Prop) : Prop :=
 ∀ (pins : LAO) (s : Shared) (σ : St) (H : Hp) (x : V) (xs : List V) (v : Value) (us : List Value) (Q : VK), Inv X pins σ H s -> RelV x v -> Vals xs us -> r x xs H Q ->
  wpAny (model X.prog X.w) X.A (call (.builtin id) (v :: us)) (EP X pins σ Q) X.xe s
theorem Vals.one : ∀ {x : V} {us : List Value}, Vals [x] us -> ∃ u, us = [u] /\ RelV x u
 | _, _, .cons r .nil => ⟨_, rfl, r⟩
theorem Vals.two : ∀ {x y : V} {us : List Value}, Vals [x, y] us -> ∃ u v, us = [u, v] /\ RelV x u /\ RelV y v
 | _, _, _, .cons r (.cons q .nil) => ⟨_, _, rfl, r, q⟩
theorem Vals.zero : ∀ {us : List Value}, Vals [] us -> us = []
 | _, .nil => rfl
theorem Vals.dropLast {xs : List V} {us : List Value} (h : Vals xs us) : Vals xs.dropLast us.dropLast := by
 induction h with
 | nil => exact .nil
 | cons r t ih =>
  cases t with
  | nil => exact .nil
  | cons q t' => exact .cons r ih
theorem Vals.eraseIdx : ∀ {xs : List V} {us : List Value} (i : Nat), Vals xs us -> Vals (xs.eraseIdx i) (us.eraseIdx i)
 | _, _, _, .nil => .nil
 | _, _, 0, .cons _ t => t
 | _, _, i + 1, .cons r t => .cons r (Vals.eraseIdx i t)
theorem Vals.reverse {xs : List V} {us : List Value} (h : Vals xs us) : Vals xs.reverse us.reverse := by
 induction h with
 | nil => exact .nil
 | cons r t ih => rw [ZBz, ZBz]; exact Vals.append ih (.cons r .nil)
section
variable {X : Cx} {pins : LAO} {σ : St} {H : Hp} {s : Shared} {l b : Addr} {xs ys zs : List V}
theorem Inv.lset {its its' : List Value} {n : Nat} {f : Array Value -> Array Value} {t' : Nat} (I : Inv X pins σ H s) (hH : H l = some (.lst xs))
 (e : s.heap.get? l = some { cls := .type "list", data := .seq its.toArray n }) (hf : f its.toArray = its'.toArray) (hv : Vals ys its') (hz : ys.length <= sizeLine) :
 Inv X pins σ (upd H l (.lst ys)) { s with heap := s.heap.update l (Obj.mapSeq f), toks := t' } := by
 have q := PySem.IsL.update e f
 rw [hf] at q
 refine I.write (x := l) (e := l) (by rw [hH]; exact trivial) (.inl rfl) (fun b' u hb hu => (ZAq s.heap (Obj.mapSeq f) (ZAs hb)).trans hu) ⟨_, q⟩ ?_
 exact ⟨hz, its', _, hv, q⟩
theorem Inv.lnew {its : List Value} {t' : Nat} (I : Inv X pins σ H s) (hv : Vals ys its) (hz : ys.length <= sizeLine) :
 Inv X pins σ (upd H s.heap.objs.size (.lst ys)) { s with heap := s.heap.push { cls := .type "list", data := .seq its.toArray }, toks := t' } :=
 I.laid (fun _ _ q => ZAD _ q) (ZAI _) ⟨hz, its, 0, hv, ZAH _ rfl⟩
theorem Inv.fresh (I : Inv X pins σ H s) : H s.heap.objs.size = none := I.hok.fresh (ZAI _)
theorem Inv.lstM (I : Inv X pins σ H s) (hH : H l = some (.lst xs)) : xs.length <= sizeLine /\ ∃ (its : List Value) (n : Nat), Vals xs its /\ xs.length = its.length /\ s.heap.get? l = some { cls := .type "list", data := .seq its.toArray n } := by
 obtain ⟨z, its, n, r, e⟩ := I.hok l _ hH
 exact ⟨z, its, n, r, r.length, e⟩
theorem Yoi {n : Nat} (h : n <= sizeLine) : Builtin.List.listTooLong n = false := by
 unfold Builtin.List.listTooLong
 exact ZAS (by omega)
end
section
variable {X : Cx}
def YoF : V -> List V -> Hp -> VK -> Prop := fun x vs H Q => ∃ l xs y, x = .ref l /\ vs = [y] /\ H l = some (.lst xs) /\ xs.length < sizeLine /\ Q .non (upd H l (.lst (xs ++ [y])))
theorem YeM : MtM X "list.append" YoF := by
 intro pins s σ H x vs v us Q I rx rv h
 obtain ⟨l, xs, y, rfl, rfl, hH, hz, q⟩ := h
 cases rx
 obtain ⟨u, rfl, ru⟩ := rv.one
 obtain ⟨z, its, n, r, hl, e⟩ := I.lstM hH
 refine call_meets F.slot_list_append ⟨_, e, rfl⟩ F.entry_list_append (F.args_list_append_2 _ _) (PySem.list_append l its.toArray n u (by rw [ZAl]; omega)) ⟨e, ?_⟩
 refine ⟨.non, _, I.lset (its' := its ++ [u]) hH e (by simp) (r.append (.cons ru .nil)) ?_, rfl, q⟩
 rw [ZAJ, ZAg]
 omega
def YoG : V -> List V -> Hp -> VK -> Prop := fun x vs H Q => ∃ l b xs zs, x = .ref l /\ vs = [.ref b] /\ H l = some (.lst xs) /\ H b = some (.lst zs) /\ xs.length + zs.length <= sizeLine /\ Q .non (upd H l (.lst (xs ++ zs)))
theorem Ye3 : MtM X "list.extend" YoG := by
 intro pins s σ H x vs v us Q I rx rv h
 obtain ⟨l, b, xs, zs, rfl, rfl, hH, hB, hz, q⟩ := h
 cases rx
 obtain ⟨u, rfl, ru⟩ := rv.one
 cases ru
 obtain ⟨z, its, n, r, hl, e⟩ := I.lstM hH
 obtain ⟨z2, its2, n2, r2, hl2, e2⟩ := I.lstM hB
 have hsz : its.toArray.size + its2.toArray.size <= sizeLine := by rw [ZAl, ZAl]; omega
 have hlong : ¬ (!its.toArray.isEmpty && Builtin.List.listTooLong (its.toArray.size + its2.toArray.size)) = true := by
  rw [Yoi hsz, Bool.and_false]
  exact ZAO
 refine call_meets F.slot_list_extend ⟨_, e, rfl⟩ F.entry_list_extend (F.args_list_extend_2 _ _)
  (AutoSeq1.list_extend_list_list_0 l its.toArray n b its2.toArray n2 hlong (by rw [ZAl]; omega) (by omega)) ⟨e, e2, ?_⟩
 refine ⟨.non, _, I.lset (its' := its ++ its2) hH e (by simp) (r.append r2) ?_, rfl, q⟩
 rw [ZAJ]
 omega
def Ypu : R2 := fun x y H Q => ∃ l b xs zs, x = .ref l /\ y = .ref b /\ H l = some (.lst xs) /\ H b = some (.lst zs) /\ xs.length + zs.length <= sizeLine /\ ∀ p, H p = none -> Q (.ref p) (upd H p (.lst (xs ++ zs)))
theorem Yj8 : OpR X (binaryOp .Add) Ypu := by
 show 184
 obtain ⟨l, b, xs, zs, rfl, rfl, hH, hB, hz, q⟩ := h
 show 105
 obtain ⟨z, its, n, r, hl, e⟩ := I.lstM hH
 obtain ⟨z2, its2, n2, r2, hl2, e2⟩ := I.lstM hB
 refine PySem.P.add_list e e2 ?_ (by rw [ZAl, ZAl]; omega)
 have ea : its.toArray ++ its2.toArray = (its ++ its2).toArray := by simp
 rw [ea]
 exact ⟨.ref _, _, I.lnew (t' := s.toks) (r.append r2) (by rw [ZAJ]; omega), rfl, q _ I.fresh⟩
end
section
variable {prog : Program} {w : World} {A : Around} {E : VSP} {s : Shared}
end
section
variable {X : Cx}
end
end L2
namespace L2
open PySem PySem.Spec PyProof.Rows
variable {A : Around} {E : VSP} {H : Hp} {P : Program} {Q : VSP} {X : Cx} {a : Addr} {kvs : List (List Key × V)} {o : Option V} {pins : LAO} {s : Shared} {u : Value} {w : World} {xs : List (List Key × Addr × Value)} {y : V} {σ : St}
section
variable {κ : Type} [DecidableEq κ]
def YmK (kvs : List (κ × V)) (k : κ) : Option V := (kvs.find? fun kv => decide (kv.1 = k)).map (·.2)
def putK (kvs : List (κ × V)) (k : κ) (v : V) : List (κ × V) :=
 if (kvs.any fun kv => decide (kv.1 = k)) = true then kvs.map (fun kv => if kv.1 = k then (kv.1, v) else kv) else kvs ++ [(k, v)]
def YoL (kvs : List (κ × V)) (k : κ) : List (κ × V) := kvs.filter fun kv => decide (kv.1 ≠ k)
theorem Vr {p : κ × V} {r : List (κ × V)} {k : κ} (e : p.1 = k) : YmK (p :: r) k = some p.2 := by simp [YmK, List.find?_cons, e]
theorem Vy {p : κ × V} {r : List (κ × V)} {k : κ} (e : ¬ p.1 = k) : YmK (p :: r) k = YmK r k := by simp [YmK, List.find?_cons, e]
theorem Yb8 (k : κ) : ∀ kvs : List (κ × V), (kvs.any fun kv => decide (kv.1 = k)) = (YmK kvs k).isSome
 | [] => rfl
 | p :: r => by
  rw [ZBM]
  show 198
  ·simp only [Vr e, decide_eq_true e, Bool.true_or, Option.isSome_some]
  ·rw [Vy e, ZAS e, ZCa]; exact Yb8 k r
theorem Ji (kvs : List (κ × V)) (k : κ) (v : V) : (putK kvs k v).length <= kvs.length + 1 := by
 unfold putK
 split
 ·rw [ZAK]; omega
 ·rw [ZAJ, ZA2, List.length_nil]; omega
theorem YmY.isSome_eq {u : Option Value} (r : YmY o u) : o.isSome = u.isSome := by
 cases o with
 | none => cases u with
  | none => rfl
  | some _ => show 217
 | some _ => cases u with
  | none => show 217
  | some _ => rfl
theorem YmY.getD {u : Option Value} {d : V} {d' : Value} (r : YmY o u) (rd : RelV d d') : RelV (o.getD d) (u.getD d') := by
 cases o with
 | none => cases u with
  | none => exact rd
  | some _ => show 217
 | some _ => cases u with
  | none => show 217
  | some _ => exact r
theorem KV.val {kvs : List (κ × V)} {vs : List (κ × Value)} (r : KV kvs vs) (k : κ) : YmY (YmK kvs k) (valueAt vs k) := by
 unfold KV at r
 induction r with
 | nil => exact True.intro
 | @cons p q ps qs h t ih =>
  show 212
  show 198
  ·have e' : q.1 = k := h1.symm.trans e
   have b : valueAt (q :: qs) k = some q.2 := by simp [valueAt, List.find?_cons, e']
   rw [Vr e, b]; exact h2
  ·have e' : ¬ q.1 = k := fun z => e (h1.trans z)
   have b : valueAt (q :: qs) k = valueAt qs k := by simp [valueAt, List.find?_cons, e']
   rw [Vy e, b]; exact ih
theorem KV.any {kvs : List (κ × V)} {vs : List (κ × Value)} (r : KV kvs vs) (k : κ) : (kvs.any fun kv => decide (kv.1 = k)) = vs.any fun kv => decide (kv.1 = k) := by
 unfold KV at r
 induction r with
 | nil => rfl
 | cons h t ih => rw [ZBM, ZBM, ih, h.1]
theorem KV.repl {kvs : List (κ × V)} {vs : List (κ × Value)} (r : KV kvs vs) (k : κ) (ry : RelV y u) :
 KV (kvs.map fun kv => if kv.1 = k then (kv.1, y) else kv) (vs.map fun kv => if kv.1 = k then (kv.1, u) else kv) := by
 unfold KV at r ⊢
 induction r with
 | nil => exact .nil
 | @cons p q ps qs h t ih =>
  rw [ZAX, ZAX]
  refine .cons ?_ ih
  show 212
  show 198
  ·rw [ZAF e, ZAF (h1.symm.trans e)]; exact ⟨h1, ry⟩
  ·rw [ZAE e, ZAE (fun z => e (h1.trans z))]; exact ⟨h1, h2⟩
theorem KV.put {kvs : List (κ × V)} {vs : List (κ × Value)} (r : KV kvs vs) (k : κ) (ry : RelV y u) : KV (putK kvs k y) (stored vs k u) := by
 unfold putK stored
 rw [r.any k]
 by_cases e : (vs.any fun kv => decide (kv.1 = k)) = true
 ·rw [ZAF e, ZAF e]; exact r.repl k ry
 ·rw [ZAE e, ZAE e]; exact Paired.snoc r ⟨rfl, ry⟩
theorem KV.drop {kvs : List (κ × V)} {vs : List (κ × Value)} (r : KV kvs vs) (k : κ) : KV (YoL kvs k) (without vs k) := by
 unfold KV at r ⊢
 unfold YoL without
 induction r with
 | nil => exact .nil
 | @cons p q ps qs h t ih =>
  show 212
  rw [List.filter_cons, List.filter_cons]
  show 198
  ·have a : ¬ decide (p.1 ≠ k) = true := by simp [e]
   have b : ¬ decide (q.1 ≠ k) = true := by simp [h1.symm.trans e]
   rw [ZAE a, ZAE b]; exact ih
  ·have e' : ¬ q.1 = k := fun z => e (h1.trans z)
   have a : decide (p.1 ≠ k) = true := by simp [e]
   have b : decide (q.1 ≠ k) = true := by simp [e']
   rw [ZAF a, ZAF b]; exact .cons ⟨h1, h2⟩ ih
theorem KV.keys {kvs : List (κ × V)} {vs : List (κ × Value)} (r : KV kvs vs) : kvs.map (·.1) = vs.map (·.1) := by
 unfold KV at r
 induction r with
 | nil => rfl
 | cons h t ih => rw [ZAX, ZAX, ih, h.1]
theorem KV.length {kvs : List (κ × V)} {vs : List (κ × Value)} (r : KV kvs vs) : kvs.length = vs.length := Paired.length r
end
theorem Ybk {k : Key} (r : RelV (kV k) u) : (Ylv P w).is k u = true := by
 cases k with
 | inl i => obtain ⟨t, e⟩ := (show ∃ t, u = Value.int i t from r); subst e; exact Ycs P w i t
 | inr x => obtain ⟨t, e⟩ := (show ∃ t, u = Value.str x t from r); subst e; exact Yce P w x t
theorem YaO {P : Program} {w : World} : ∀ {ks : List Key} {us : List Value}, Vals (ks.map kV) us -> ItemsAre (Ylv P w) ks us
 | [], _, r => by rw [ZCc] at r; cases r; exact .nil
 | k :: ks, _, r => by
  rw [ZAX] at r
  cases r with
  | cons h t => exact .cons (Ybk h) (YaO t)
abbrev KT (H : Hp) : List (List Key × V) -> List (List Key × Addr × Value) -> Prop := Paired fun p q => p.1 = q.1 /\ H q.2.1 = some (.tup (p.1.map kV)) /\ RelV p.2 q.2.2
theorem KT.val (r : KT H kvs xs) (k : List Key) : YmY (YmK kvs k) ((atKey xs k).map (·.2)) := by
 induction r with
 | nil => exact True.intro
 | @cons p q ps qs h t ih =>
  obtain ⟨h1, _, h2⟩ := h
  show 198
  ·have e' : q.1 = k := h1.symm.trans e
   have b : atKey (q :: qs) k = some q.2 := by simp [atKey, List.find?_cons, e']
   rw [Vr e, b]; exact h2
  ·have e' : ¬ q.1 = k := fun z => e (h1.trans z)
   have b : atKey (q :: qs) k = atKey qs k := by simp [atKey, List.find?_cons, e']
   rw [Vy e, b]; exact ih
theorem KT.repl (r : KT H kvs xs) (k : List Key) (ry : RelV y u) :
 KT H (kvs.map fun kv => if kv.1 = k then (kv.1, y) else kv) (xs.map (putAt k u)) := by
 induction r with
 | nil => exact .nil
 | @cons p q ps qs h t ih =>
  rw [ZAX, ZAX]
  refine .cons ?_ ih
  obtain ⟨h1, h2, h3⟩ := h
  unfold putAt
  show 198
  ·rw [ZAF e, ZAF (h1.symm.trans e)]; exact ⟨h1, h2, ry⟩
  ·rw [ZAE e, ZAE (fun z => e (h1.trans z))]; exact ⟨h1, h2, h3⟩
theorem KT.put (r : KT H kvs xs) (k : List Key) {b : Addr} (hb : H b = some (.tup (k.map kV))) (ry : RelV y u) :
 KT H (putK kvs k y) (storedH xs k b u) := by
 have e : (kvs.any fun kv => decide (kv.1 = k)) = (atKey xs k).isSome := by
  rw [Yb8, (r.val k).isSome_eq, ZB0]
 unfold putK storedH
 rw [e]
 by_cases q : (atKey xs k).isSome = true
 ·rw [ZAF q, ZAF q]; exact r.repl k ry
 ·rw [ZAE q, ZAE q]; exact Paired.snoc r ⟨rfl, hb, ry⟩
theorem KT.keeps {H' : Hp} (r : KT H kvs xs) (ht : ∀ b ys, H b = some (.tup ys) -> H' b = some (.tup ys)) : KT H' kvs xs :=
 Paired.mapP r fun _ _ z => ⟨z.1, ht _ _ z.2.1, z.2.2⟩
section
variable {h : Heap}
theorem YiN {u : HO} (ok : HOk P w H h) (e : Rd H a u) : YlV P w H h a u := e.ok ok
theorem Jj {kvs : List (Key × V)} (ok : HOk P w H h) (e : Rd H a (.dK kvs)) : kvs.length <= sizeLine /\ (a == sysModules) = false /\ ∃ vs, KV kvs vs /\ h.DictOf (Ylv P w) a vs :=
 show YlV P w H h a (.dK kvs) from YiN ok e
theorem YkF {kvs : List (Key × V)} (ok : HOk P w H h) (e : H a = some (.dK kvs)) : kvs.length <= sizeLine /\ (a == sysModules) = false /\ ∃ vs, KV kvs vs /\ h.DictOf (Ylv P w) a vs := Jj ok (.inl e)
theorem V2 {ks : List Key} (ok : HOk P w H h) (e : H a = some (.tup (ks.map kV))) : (tupleKind (Ylv P w)).is h ks a := by
 obtain ⟨_, its, r, o, h1, h2, n, h3⟩ := (show YlV P w H h a (.tup (ks.map kV)) from ok a _ e)
 exact ⟨o, its.toArray, n, h1, h2, h3, by simpa using YaO r⟩
theorem Yah (ok : HOk P w H h) (e : Rd H a (.dT kvs)) : kvs.length <= sizeLine /\ (a == sysModules) = false /\
 ∃ xs, KT H kvs xs /\ h.DictOfH (tupleKind (Ylv P w)) a xs := by
 obtain ⟨z, y, xs, r, o, es, ep, h1, h2, h3, h4, h5⟩ := (show YlV P w H h a (.dT kvs) from YiN ok e)
 refine ⟨z, y, xs, r, o, es, ep, h1, h2, h3, h4, fun x hx => ?_, h5⟩
 have all : ∀ {l : List (List Key × V)} {m : List (List Key × Addr × Value)}, KT H l m -> ∀ x ∈ m, (tupleKind (Ylv P w)).is h x.1 x.2.1 := by
  intro l m q
  induction q with
  | nil => intro x hx; exact nomatch hx
  | @cons p q ps qs hq t ih =>
   intro x hx
   rcases ZAc.mp hx with e | hx
   ·subst e
    exact V2 ok (by rw [<- hq.1]; exact hq.2.1)
   ·exact ih x hx
 exact all r x hx
theorem Yg9 (ok : HOk P w H h) (e : H a = some (.dT kvs)) : kvs.length <= sizeLine /\ (a == sysModules) = false /\
 ∃ xs, KT H kvs xs /\ h.DictOfH (tupleKind (Ylv P w)) a xs := Yah ok (.inl e)
end
def YmJ (H : Hp) (a : Addr) (y : V) (r : Option V) : Prop :=
 (∃ kvs k, Rd H a (.dK kvs) /\ y = kV k /\ r = YmK kvs k) \/ ∃ kvs k b, Rd H a (.dT kvs) /\ y = .ref b /\ H b = some (.tup (k.map kV)) /\ r = YmK kvs k
def YnG (H : Hp) (a : Addr) (y v : V) (H' : Hp) : Prop :=
 (∃ kvs k, H a = some (.dK kvs) /\ y = kV k /\ kvs.length < sizeLine /\ H' = upd H a (.dK (putK kvs k v))) \/
 ∃ kvs k b, H a = some (.dT kvs) /\ y = .ref b /\ H b = some (.tup (k.map kV)) /\ kvs.length < sizeLine /\ H' = upd H a (.dT (putK kvs k v))
theorem YmJ.k {kvs : List (Key × V)} {k : Key} (e : H a = some (.dK kvs)) : YmJ H a (kV k) (YmK kvs k) := .inl ⟨kvs, k, .inl e, rfl, rfl⟩
theorem YmJ.t {b : Addr} {k : List Key} (e : H a = some (.dT kvs)) (eb : H b = some (.tup (k.map kV))) : YmJ H a (.ref b) (YmK kvs k) := .inr ⟨kvs, k, b, .inl e, rfl, eb, rfl⟩
theorem YnG.k {kvs : List (Key × V)} {k : Key} {v : V} (e : H a = some (.dK kvs)) (hl : kvs.length < sizeLine) : YnG H a (kV k) v (upd H a (.dK (putK kvs k v))) := .inl ⟨kvs, k, e, rfl, hl, rfl⟩
theorem YnG.t {b : Addr} {k : List Key} {v : V} (e : H a = some (.dT kvs)) (eb : H b = some (.tup (k.map kV))) (hl : kvs.length < sizeLine) :
 YnG H a (.ref b) v (upd H a (.dT (putK kvs k v))) := .inr ⟨kvs, k, b, e, rfl, eb, hl, rfl⟩
section
variable {v : V} {r : Value}
theorem Inv.big (I : Inv X pins σ H s) : sysModules < s.heap.objs.size := by
 have h : mainGlobals < s.heap.objs.size := (I.mod.glob.keeps I.bk).lt
 exact Nat.lt_trans (by decide) h
theorem Yen (hu : A.units + 1 < cLine) (I : Inv X pins σ H s) (g : YmJ H a y (some v)) (ry : RelV y u) (h : ∀ w' s', Inv X pins σ H s' -> RelV v w' -> Q w' s') :
 wpAny (model X.prog X.w) A (getItem (.ref a) u) Q E s := by
 show 254
 ·show 49
  obtain ⟨w', hw, rw'⟩ := YmY.some_of (v := v) (o := valueAt vs k) (by rw [l]; exact rel.val k)
  exact wpAny_getItem_of (Ybk ry) dd.mapOf hw (h w' _ (I.tok _) rw')
 ·show 66
  obtain ⟨w', hw, rw'⟩ := YmY.some_of (v := v) (o := (atKey xs k).map (·.2)) (by rw [l]; exact rel.val k)
  obtain ⟨p, hp, hp2⟩ := ZCS.mp hw
  refine wpAny_getItem_heap (tupleKind_room_in1 hu) (V2 I.hok eb) dd hp ?_
  rw [hp2]
  exact h w' _ (I.tok _) rw'
theorem d_in (hu : A.units + 1 < cLine) (I : Inv X pins σ H s) (g : YmJ H a y o) (ry : RelV y u) (h : ∀ s', Inv X pins σ H s' -> Q (.bool o.isSome) s') :
 wpAny (model X.prog X.w) A (compareOp .In u (.ref a)) Q E s := by
 show 254
 ·show 49
  refine wpAny_in_of (Ybk ry) hd dd.mapOf ?_
  rw [<- (rel.val k).isSome_eq, <- l]
  exact h _ (I.tok _)
 ·show 66
  refine wpAny_in_heap (tupleKind_room_in1 hu) (V2 I.hok eb) hd dd ?_
  have q := (rel.val k).isSome_eq
  rw [ZB0] at q
  rw [<- q, <- l]
  exact h _ (I.tok _)
theorem YdW (hu : A.units + 1 < cLine) (I : Inv X pins σ H s) (g : YmJ H a y o) (ry : RelV y u) (h : ∀ s', Inv X pins σ H s' -> Q (.bool (!o.isSome)) s') :
 wpAny (model X.prog X.w) A (compareOp .NotIn u (.ref a)) Q E s := by
 show 254
 ·show 49
  refine wpAny_notIn_of (Ybk ry) hd dd.mapOf ?_
  rw [<- (rel.val k).isSome_eq, <- l]
  exact h _ (I.tok _)
 ·show 66
  refine wpAny_notIn_heap (tupleKind_room_in1 hu) (V2 I.hok eb) hd dd ?_
  have q := (rel.val k).isSome_eq
  rw [ZB0] at q
  rw [<- q, <- l]
  exact h _ (I.tok _)
theorem YdV {h' : Heap} {t' : Nat} {ob : HO} (I : Inv X pins σ H s) (mu : Mut (H a)) (hs : Heap.SameBut a s.heap h') (he : ∃ q, h'.get? a = some q) (new : YlV X.prog X.w (upd H a ob) h' a ob) :
 Inv X pins σ (upd H a ob) { s with heap := h', toks := t' } :=
 I.write (x := a) (e := a) mu (.inl rfl) (fun b q hb z => (hs.2 b hb).trans z) he new
theorem YgZ {H' : Hp} {h' : Heap} {kvs : List (Key × V)} {vs : List (Key × Value)} (z : kvs.length <= sizeLine) (hd : (a == sysModules) = false) (rel : KV kvs vs) (dd : h'.DictOf (Ylv P w) a vs) :
 YlV P w H' h' a (.dK kvs) := ⟨z, hd, vs, rel, dd⟩
theorem YeD {H' : Hp} {Q : Unit -> Shared -> Prop} (hu : A.units + 1 < cLine) (I : Inv X pins σ H s) (g : YnG H a y v H') (ry : RelV y u) (rv : RelV v r) (h : ∀ s', Inv X pins σ H' s' -> Q () s') :
 wpAny (model X.prog X.w) A (setItem (.ref a) u r) Q E s := by
 rcases g with ⟨kvs, k, e, ey, l, eH⟩ | ⟨kvs, k, b, e, ey, eb, l, eH⟩
 ·subst ey eH
  obtain ⟨z, hd, vs, rel, dd⟩ := YkF I.hok e
  have hz : vs.length <= sizeLine := by rw [<- rel.length]; exact z
  have hl : (putK kvs k v).length <= sizeLine := by have := Ji kvs k v; omega
  refine wpAny_setItem_pairs (hsz := hz) (Ybk ry) dd fun h' dd' hs => h _ ?_
  have he : ∃ q, h'.get? a = some q := let ⟨q, _, _, hq, _⟩ := dd'; ⟨q, hq⟩
  exact YdV I (by rw [e]; exact True.intro) hs he (YgZ hl hd (rel.put k rv) dd')
 ·subst ey eH
  show 273
  obtain ⟨z, hd, xs, rel, dd⟩ := Yg9 I.hok e
  have hz : xs.length <= sizeLine := by rw [<- Paired.length rel]; exact z
  have hl : (putK kvs k v).length <= sizeLine := by have := Ji kvs k v; omega
  refine wpAny_setItem_heap (hsz := hz) (tupleKind_room_in1 hu) (V2 I.hok eb) dd fun h' dd' hs => h _ ?_
  obtain ⟨q, es, ep, hq, h2, h3, h4, _, h5⟩ := dd'
  refine YdV I (by rw [e]; exact True.intro) hs ⟨q, hq⟩ ⟨hl, hd, _, (rel.put k eb rv).keeps fun c ys ec => ?_, q, es, ep, hq, h2, h3, h4, h5⟩
  rw [Yf (YkS ec e (fun z => nomatch z))]
  exact ec
end
section
variable {kvs : List (Key × V)} {k : Key}
theorem Yk6 (I : Inv X pins σ H s) (e : Rd H a (.dK kvs)) (h : ∀ t s', Inv X pins σ H s' -> Q (.int kvs.length t) s') : wpAny (model X.prog X.w) A (call (.builtin "len") [.ref a]) Q E s := by
 show 277
 refine call_len_dict hd dd (by rw [<- rel.length]; rw [sizeLine_eq] at z; omega) ?_
 rw [<- rel.length]
 exact h _ _ (I.tok _)
end
theorem Yb2 (I : Inv X pins σ H s) (g : YmJ H a y o) : s.TypeIs (.ref a) "dict" := by
 rcases g with ⟨kvs, k, e, _, _⟩ | ⟨kvs, k, b, e, _, _, _⟩
 ·obtain ⟨_, _, vs, _, dd⟩ := Jj I.hok e
  exact dd.typeIs
 ·obtain ⟨_, _, xs, _, dd⟩ := Yah I.hok e
  exact dd.typeIs
section
variable {o i e value : Expr} {pos pos' tpos : Pos} {td ty tv : TE}
end
theorem Yfn (h : Heap) (hb : sysModules < h.objs.size) : YlV P w H (h.push { cls := .type "dict", data := .dict #[] }) h.objs.size (.dK []) :=
 ⟨ZBN _, beq_eq_false_iff_ne.mpr (ZAs (ZAN hb)), [], .nil, Heap.DictOf.new h⟩
theorem Ygd (h : Heap) (hb : sysModules < h.objs.size) : YlV P w H (h.push { cls := .type "dict", data := .dict #[] }) h.objs.size (.dT []) :=
 ⟨ZBN _, beq_eq_false_iff_ne.mpr (ZAs (ZAN hb)), [], .nil, _, #[], 0, ZAH _ rfl, ⟨rfl, rfl, rfl⟩, rfl, rfl, List.nodup_nil⟩
def Yo3 : TE := fun _ H Q => ∀ p, H p = none -> Q (.ref p) (upd H p (.dK []))
def YoS : TE := fun _ H Q => ∀ p, H p = none -> Q (.ref p) (upd H p (.dT []))
section
variable {pos : Pos}
theorem Yhm : PE X (.Dict [] [] pos) Yo3 := fun pins s σ H Q I h =>
 wpAny_Dict_empty ⟨.ref s.heap.objs.size, _, I.laid (a := s.heap.objs.size) (o := .dK []) (t' := s.toks) (fun _ _ q => ZAD _ q) (ZAI _) (Yfn s.heap I.big), rfl, h _ (I.hok.fresh (ZAI _))⟩
theorem Yhs : PE X (.Dict [] [] pos) YoS := fun pins s σ H Q I h =>
 wpAny_Dict_empty ⟨.ref s.heap.objs.size, _, I.laid (a := s.heap.objs.size) (o := .dT []) (t' := s.toks) (fun _ _ q => ZAD _ q) (ZAI _) (Ygd s.heap I.big), rfl, h _ (I.hok.fresh (ZAI _))⟩
end
structure M1 (X : Cx) (o : Expr) (m : Str) (apos : Pos) (e : Expr) (cpos : Pos) : Prop where
 base : attributeBase o m X.env (eval o X.env) = eval o X.env
 few : ((backTo cpos (starEach [e] X.env)).all (fun x => !x.1) && (backToKw cpos (keywordEach [] X.env)).all (fun x => x.1.isSome)
  && decide (([e] : List Expr).length + ([] : List Keyword).length + (if ([] : List Keyword).isEmpty then 0 else 1) < 30)) = true
 line : (apos.endLine == cpos.line) = true
 trees : backTo cpos (starEach [e] X.env) = [(false, eval e X.env)]
structure M2 (X : Cx) (o : Expr) (m : Str) (apos : Pos) (e f : Expr) (cpos : Pos) : Prop where
 base : attributeBase o m X.env (eval o X.env) = eval o X.env
 few : ((backTo cpos (starEach [e, f] X.env)).all (fun x => !x.1) && (backToKw cpos (keywordEach [] X.env)).all (fun x => x.1.isSome)
  && decide (([e, f] : List Expr).length + ([] : List Keyword).length + (if ([] : List Keyword).isEmpty then 0 else 1) < 30)) = true
 line : (apos.endLine == cpos.line) = true
 trees : backTo cpos (starEach [e, f] X.env) = [(false, eval e X.env), (false, eval f X.env)]
def IsD (H : Hp) (a : Addr) : Prop := (∃ kvs, Rd H a (.dK kvs)) \/ ∃ kvs, Rd H a (.dT kvs)
theorem Yi6 (I : Inv X pins σ H s) (d : IsD H a) :
 s.TypeIs (.ref a) "dict" /\ (∀ b, Value.ref a = .ref b -> ∃ ob, s.heap.get? b = some ob /\ ob.dict = none) /\ (a == sysModules) = false := by
 rcases d with ⟨kvs, e⟩ | ⟨kvs, e⟩
 ·obtain ⟨_, hd, vs, _, dd⟩ := Jj I.hok e
  refine ⟨dd.typeIs, fun b q => ?_, hd⟩
  cases q
  obtain ⟨ob, _, _, h1, h2, _⟩ := dd
  exact ⟨ob, h1, h2.2.1⟩
 ·obtain ⟨_, hd, xs, _, dd⟩ := Yah I.hok e
  refine ⟨dd.typeIs, fun b q => ?_, hd⟩
  cases q
  obtain ⟨ob, _, _, h1, h2, _⟩ := dd
  exact ⟨ob, h1, h2.2.1⟩
section
variable {d : V} {r : Value}
theorem Ykh (hu : A.units + 1 < cLine) (I : Inv X pins σ H s) (g : YmJ H a y o) (ry : RelV y u) (rd : RelV d r) (h : ∀ w' s', Inv X pins σ H s' -> RelV (o.getD d) w' -> Q w' s') :
 wpAny (model X.prog X.w) A (call (.builtin "dict.get") [.ref a, u, r]) Q E s := by
 show 254
 ·show 49
  refine call_meetsIn PySem.F.slot_dict_get dd.typeIs PySem.F.entry_dict_get (PySem.F.args_dict_get_3 _ _ _) (meets_dict_get_default (Ylv X.prog X.w) a (Ybk ry) hd r) ⟨_, dd.mapOf, h _ _ (I.tok _) ?_⟩
  rw [l]
  exact (rel.val k).getD rd
 ·show 66
  refine call_meetsIn PySem.F.slot_dict_get dd.typeIs PySem.F.entry_dict_get (PySem.F.args_dict_get_3 _ _ _) (meetsH_dict_get_default (tupleKind (Ylv X.prog X.w)) a b hd r) ⟨tupleKind_room_in1 hu, k, xs, V2 I.hok eb, dd, h _ _ (I.tok _) ?_⟩
  rw [l]
  exact (rel.val k).getD rd
end
def YoX (td ty tx : TE) : TE := fun σ H Q => td σ H fun x H1 => ∃ a, x = .ref a /\ IsD H1 a /\ ty σ H1 fun y H2 => tx σ H2 fun z H3 => ∃ o, YmJ H3 a y o /\ Q (o.getD z) H3
section
variable {o e f : Expr} {apos cpos : Pos} {td ty tx : TE}
theorem Yhc (hu : X.A.units + 1 < cLine) (ho : PE X o td) (he : PE X e ty) (hf : PE X f tx) (m : M2 X o "get" apos e f cpos) : PE X (.Call (.Attribute o "get" apos) [e, f] [] cpos) (YoX td ty tx) := by
 show 163
 refine wpAny_Call_method m.base m.few m.line PySem.F.plainAttrs_dict PySem.F.slot_dict_get PySem.F.type_dict_get (thn (ho pins s σ H _ I h) fun u s1 ⟨x, H1, I1, rx, a, ex, d, q1⟩ => ?_)
 subst ex
 obtain rfl : u = Value.ref a := rx
 obtain ⟨t1, t2, _⟩ := Yi6 I1 d
 refine ⟨t1, t2, ?_⟩
 rw [m.trees]
 refine Calls.callWith_builtin rfl (Calls.evalArgs_plain (Calls.spliced_cons (thn (he pins s1 σ H1 _ I1 q1) fun iv s2 ⟨y, H2, I2, ry, q2⟩ =>
  Calls.spliced_cons (thn (hf pins s2 σ H2 _ I2 q2) fun fv s3 ⟨z, H3, I3, rz, ov, g, q3⟩ => Calls.spliced_nil ?_))))
 exact Ykh hu I3 g ry rz fun w' s4 I4 rw' => ⟨_, H3, I4, rw', q3⟩
end
section
variable {kvs : List (Key × V)}
end
section
end
end L2
namespace Att
open PySem PySem.W PySem.Calls PyProof.Rows
theorem Jr {P : Params} {h : Heap} : ∀ (ns : List Int) (vs : List Value), WellAll P h vs (ns.map WData.int) -> IntsAre vs ns := by
 intro ns
 induction ns with
 | nil =>
  intro vs w
  rw [ZCc] at w
  cases w
  exact .nil
 | cons n ns ih =>
  intro vs w
  rw [ZAX] at w
  cases w with
  | cons a b =>
   cases a
   exact .cons _ _ (ih _ b)
theorem Yeh {l : OpenLaw} {n : Nat} (hn : l.most = some n) {P : Params} {h : Heap} {args : List WData} {vals : List Value}
 (hpre : l.row.toRowW.claim.pre args = true) (hwl : WellAll P h vals args) :
 ∃ a vs ns, vals = [Value.ref a] /\ args = [WData.list (ns.map WData.int)] /\ h.get? a = some { cls := .type "list", data := .seq vs.toArray } /\ IntsAre vs ns /\ ns.length <= n := by
 have hsh : WShape.hasAll [] args [.list .int] = true := (pre_splitW hpre).1
 have hc : l.pre.holds [] { args := args } = true := (pre_splitW hpre).2
 obtain ⟨d, r, rfl, h1, h2⟩ := hasAllW_cons hsh
 obtain rfl := hasAllW_nil h2
 obtain ⟨xs, rfl, h3⟩ := hasW_list h1
 obtain ⟨ns, rfl⟩ := items_int h3
 have hlen : ns.length <= n := by
  unfold OpenLaw.pre at hc
  have h4 : (WTm.not (.lt (.lit (.int (n : Int))) (.len (.arg 0)))).holds [] { args := [.list (ns.map .int)] } = true := by
   have h4 := (holds_andW hc).1
   rw [hn] at h4
   exact h4
  have h5 := condW_of h4 (w_not (w_lt w_lit (w_len_list (w_arg rfl))))
  rw [ZAK] at h5
  refine Nat.le_of_not_lt fun q => ?_
  have q' : (n : Int) < ((ns.length : Nat) : Int) := by omega
  first
   | (rw [ZAa q'] at h5; exact absurd h5 (by decide))
   | (simp at h5; omega)
 cases hwl with
 | cons w1 w2 =>
  cases w2
  cases w1 with
  | list ho hall => exact ⟨_, _, ns, rfl, rfl, ho, Jr ns _ hall, hlen⟩
theorem YeY (l : OpenLaw) (args : List WData) : l.row.toRowW.claim.post args (.bool true) args = true :=
 postW_of (r := l.row.toRowW) (X := (true == true))
  (show WShape.has [] (.bool true) .bool = true by first | rfl | decide | simp [WShape.has, WShape.arms, WShape.armsAll])
  (show (WTm.eq .res (.lit (.bool true))).value [] { args := args, res := some (.bool true), after := args } = some (.bool (true == true)) from w_eq_bool (w_res rfl) w_lit) rfl
theorem attach_call {l : OpenLaw} {n : Nat} {q : Program} {loose : List Str} {XP : (Str -> Option Value) -> Heap -> Prop} {YP : World -> Heap -> Prop} {d : DefRec}
 (hn : l.most = some n) (hdf : d.params.defaults = [])
 (call : ∀ (w : World) (s₀ s₁ : Shared) (mg mb : SOV) (fa : Addr) (o : Obj) (pm cd doc : Value) (a : Addr) (vs : List Value) (ns : List Int),
  Ground q loose [] XP w s₀ mg mb s₁.heap -> YP w s₁.heap ->
  s₁.heap.get? fa = some o -> o.data = .func (docDef d.name d.params d.body d.scope pm cd doc) -> s₁.heap.CodeRec cd d.name -> mg d.name = some (.ref fa) ->
  s₁.heap.get? a = some { cls := .type "list", data := .seq vs.toArray } -> IntsAre vs ns -> ns.length <= n -> s₁.gens = #[] ->
  codeAny (model l.prog w) callerA (.call (.ref fa) ⟨[.ref a], []⟩) (fun r s' => r = .ok (.ret (.bool true)) /\ OldK s₁.heap s'.heap /\ s'.os = s₁.os /\ AllBare s'.gens) s₁) :
 WalkO q loose XP YP l.row.toRowW d [] (fun f vs => PySem.call f vs) := by
 intro w s₀ s₁ mg mb G Y fa o pm cd doc dV kV ho hd hcd hD hmg hg args vals as hpre hlay hrd hwl hlo
 obtain rfl : dV = .none := Dflts.none hD hdf
 obtain rfl : kV = .none := Dflts.noKw hD
 obtain ⟨a, vs, ns, rfl, rfl, hobj, hints, hlen⟩ := Yeh hn hpre hwl
 refine enter_call (codeAny_mono (call w s₀ s₁ mg mb fa o pm cd doc a vs ns G Y ho (fd_plain hd) hcd hmg hobj hints hlen hg) fun r s' hq => ?_)
 obtain ⟨rfl, h2, h3, h4⟩ := hq
 exact ⟨.inl ⟨.bool true, .bool true, [], rfl, fun _ => rfl, .bool true, YeY l _, fun _ => ⟨List.Pairwise.nil, fun _ hm => (nomatch hm)⟩⟩, h2, h3, h4⟩
section
variable {prog : Program} {w : World} {A : Around} {E : VSP} {s : Shared} {K : Frag}
def ledger (h : Heap) (L d : Addr) : List (Addr × Obj) := (List.range h.objs.size).filterMap fun a => if a = L \/ a = d then none else (h.get? a).map fun o => (a, o)
end
end Att
namespace L2
open PySem PySem.Spec PyProof.Rows
theorem YaP : ∀ {vs : List Value} {ns : List Int}, IntsAre vs ns -> Vals (ns.map V.int) vs
 | _, _, .nil => .nil
 | _, _, .cons n t h => .cons ⟨t, rfl⟩ (YaP h)
def Only (H : Hp) : Prop := ∀ b, H b = none \/ ∃ o xs, H b = some (.frz o (.lst xs))
theorem Yhn {P : Program} {w : World} {K : Frag} {mg mb : SOV} {CX : CXT} {k : Nat} {fa a : Addr} {fd : FuncData} {x : Str} {sp : Sp} {s₁ : Shared} {vs : List Value} {ns : List Int}
 (KX : K.In s₁.heap) (hns : s₁.heap.Ns mainGlobals mg) (hb : s₁.heap.Ns builtinsNs mb) (hbb : ∀ x : Str, x ≠ "__name__" -> mb x = bootBuiltins x) (hlim : s₁.heap.NoLimit) (hg : s₁.gens = #[])
 (ha : s₁.heap.get? a = some { cls := .type "list", data := .seq vs.toArray }) (hi : IntsAre vs ns) (hl : ns.length <= sizeLine) (hr : Ymn k callerA)
 (F : ∀ base : Heap, K.In base -> base.Ns mainGlobals mg -> YmV P w K mg base CX k fa fd [x] sp) (hbind : ∀ (s : Shared) (u : Value), BindsTo s fd ⟨[u], []⟩ [(x, u)])
 (hsp : ∀ H : Hp, Only H -> SqL K H a (ns.map V.int) -> sp [.ref a] H (fun v _ => v = .bl true) fun _ _ _ => False)
 (hCX : ∀ H e s', CX [] H s₁ (fun _ _ _ => False) e s' -> False) :
 codeAny (model P w) callerA (.call (.ref fa) ⟨[.ref a], []⟩) (fun r s' => r = .ok (.ret (.bool true)) /\ OldK s₁.heap s'.heap /\ s'.os = s₁.os /\ AllBare s'.gens) s₁ := by
 have rv := YaP hi
 have lenV := hi.length
 have core : ∀ H : Hp, Only H -> SqL K H a (ns.map V.int) -> HOk P w H s₁.heap -> (∀ b, H b ≠ none -> b = a) -> (H a ≠ none -> K.lookup a = none) ->
  codeAny (model P w) callerA (.call (.ref fa) ⟨[.ref a], []⟩) (fun r s' => r = .ok (.ret (.bool true)) /\ OldK s₁.heap s'.heap /\ s'.os = s₁.os /\ AllBare s'.gens) s₁ := by
  intro H hO hS hok hA hK
  have base_of : ∀ {b : Addr} {o : Obj}, s₁.heap.get? b = some o -> H b = none -> (YnB s₁.heap H).get? b = some o := fun e n => Yg7 e n
  have noA : ∀ {b : Addr} {o : Obj} {es : Array DictEntry} {ep : Nat}, s₁.heap.get? b = some o -> o.data = .dict es ep -> H b = none := fun {b o es ep} e d => by
   cases q : H b with
   | none => rfl
   | some u =>
    have e' : b = a := hA b (by rw [q]; simp)
    subst e'
    rw [ha] at e; cases e
    have d' : Data.seq vs.toArray _ = Data.dict es ep := d
    cases d'
  have nsK : ∀ {b : Addr} {m : SOV}, s₁.heap.Ns b m -> (YnB s₁.heap H).Ns b m := fun {b m} ⟨o, es, ep, e, d, r⟩ => ⟨o, es, ep, base_of e (noA e d), d, r⟩
  have hKb : K.In (YnB s₁.heap H) := fun b o e => base_of (KX b o e) (by
   cases q : H b with
   | none => rfl
   | some u =>
    have e' : b = a := hA b (by rw [q]; simp)
    subst e'
    rw [hK (by rw [q]; simp)] at e; cases e)
  have hM : Mod K mg (YnB s₁.heap H) := ⟨hKb, nsK hns, ⟨mb, nsK hb, hbb⟩, let ⟨mc, h1, h2⟩ := hlim; ⟨mc, nsK h1, h2⟩⟩
  have e0 : YnQ P w K mg (YnB s₁.heap H) callerA [] s₁ H := ⟨rfl, hM, fun b o e => YhD e, Nat.le_of_eq (YeL _ _), trivial, fun b hb => absurd (show b ∈ ([] : List Addr) from hb) (by simp), hok, .of_eq hg⟩
  refine codeAny_mono ((F _ hKb (nsK hns)).run callerA [] s₁ H ⟨[.ref a], []⟩ [.ref a] [.ref a] _ _ hr e0 (hbind s₁ (.ref a)) (.cons rfl .nil) (hsp H hO hS)) fun r s' h => ?_
  cases r with
  | error e => exact (hCX H e s' h).elim
  | ok fl =>
   cases fl with
   | next => exact False.elim h
   | brk => exact False.elim h
   | cont => exact False.elim h
   | ret u =>
    obtain ⟨v, H', os, bare, un, hok', r', q⟩ := h
    have q' : v = .bl true := q
    subst q'
    obtain rfl : u = Value.bool true := r'
    refine ⟨rfl, OldK.of_keep fun b o e => ?_, os, bare⟩
    cases q : H b with
    | none => exact un.keep b o e q (by intro z; exact absurd (show b ∈ ([] : List Addr) from z) (by simp)) (by simp)
    | some u =>
     rcases hO b with z | ⟨ob, xs, z⟩
     ·rw [q] at z; cases z
     ·have z2 := un.frzs b ob _ z
      obtain ⟨e1, _⟩ := hok b _ z
      obtain ⟨e2, _⟩ := hok' b _ z2
      rw [e] at e1; cases e1
      exact e2
 cases hk : K.lookup a with
 | some o =>
  have e := KX a o hk
  rw [ha] at e
  cases e
  refine core (fun _ => none) (fun _ => .inl rfl) (.inr ⟨_, vs.toArray, _, hk, rfl, rfl, rfl, by rw [List.size_toArray, lenV]; exact hl, by simpa using rv⟩) (fun b u z => by have z' : (none : Option HO) = some u := z; cases z') (fun b z => absurd rfl z) fun z => absurd rfl z
 | none =>
  refine core (fun b => if b = a then some (.frz { cls := .type "list", data := .seq vs.toArray } (.lst (ns.map V.int))) else none) (fun b => ?_) (.inl (.inr ⟨{ cls := .type "list", data := .seq vs.toArray }, ZAF rfl⟩)) (fun b u z => ?_) (fun b z => ?_) fun _ => hk
  ·show 206
   ·exact .inr ⟨_, _, ZAF hb⟩
   ·exact .inl (ZAE hb)
  ·show 206
   ·have z' := (ZAF hb).symm.trans z
    cases z'
    subst hb
    exact ⟨ha, by rw [ZAK]; exact hl, vs, _, rv, ha⟩
   ·have z' := (ZAE hb).symm.trans z
    cases z'
  ·show 206
   ·exact hb
   ·exact absurd (ZAE hb) z
end L2
namespace L2
open PySem PySem.Spec PyProof.Rows
theorem walk_of {l : PySem.W.OpenLaw} {n k : Nat} {q : Program} {loose : List Str} {XP : (Str -> Option Value) -> Heap -> Prop} {YP : World -> Heap -> Prop} {d : DefRec} {K : Params -> Frag} {CX : World -> CXT} {sp : World -> Sp} {x : Str}
 (hn : l.most = some n) (hn2 : n <= sizeLine) (hdf : d.params.defaults = []) (hr : Ymn k callerA)
 (hY : ∀ (w : World) (h : Heap), YP w h -> (K w.params).In h)
 (F : ∀ (w : World) (mg : SOV) (fa : Addr) (h : Heap), (K w.params).In h -> h.Ns mainGlobals mg -> mg d.name = some (.ref fa) ->
  ∃ fd : FuncData, (∀ (s : Shared) (u : Value), BindsTo s fd ⟨[u], []⟩ [(x, u)]) /\
   ∀ base : Heap, (K w.params).In base -> base.Ns mainGlobals mg -> YmV l.prog w (K w.params) mg base (CX w) k fa fd [x] (sp w))
 (hsp : ∀ (w : World) (H : Hp) (a : Addr) (ns : List Int), ns.length <= n -> Only H -> SqL (K w.params) H a (ns.map V.int) -> sp w [.ref a] H (fun v _ => v = .bl true) fun _ _ _ => False)
 (hCX : ∀ (w : World) (H : Hp) (s : Shared) (e : Value) (s' : Shared), CX w [] H s (fun _ _ _ => False) e s' -> False) :
 PySem.W.WalkO q loose XP YP l.row.toRowW d [] (fun f vs => PySem.call f vs) := by
 refine Att.attach_call hn hdf fun w s₀ s₁ mg mb fa o pm cd doc a vs ns G Y ho hd hcd hmg hobj hints hlen hg => ?_
 have KX := hY w _ Y
 obtain ⟨fd, hb, hF⟩ := F w mg fa _ KX G.T.g hmg
 exact Yhn KX G.T.g G.T.b G.T.builtins G.T.nolimit hg hobj hints (ZAV hlen hn2) hr hF hb (fun H hO hS => hsp w H a ns hlen hO hS) fun H e s' => hCX w H s₁ e s'
end L2
namespace L2
open PySem PySem.Spec PyProof.Rows
variable {x : Str}
def Ylz (s : Stmt) : Arguments := match s with
 | .FunctionDef _ a _ _ _ _ _ _ _ _ => a
 | _ => { posonlyargs := [], args := [], vararg := none, kwonlyargs := [], kw_defaults := [], kwarg := none, defaults := [] }
def Ylw (s : Stmt) : List Stmt := match s with
 | .FunctionDef _ _ b _ _ _ _ _ _ _ => b
 | _ => []
def Yln (s : Stmt) : Scope := match s with
 | .FunctionDef _ _ _ _ _ _ sc _ _ _ => sc
 | _ => { kind := .function, names := [], isGenerator := false, isCoroutine := false }
abbrev CX0 : CXT := fun _ _ _ _ _ _ => False
abbrev E0 : XK := fun _ _ _ => False
theorem pass0 {X : Cx} : YnT CX0 X E0 := fun _ _ _ _ _ _ _ h => h.elim
structure Fun (K : Frag) (x qual : Str) (st : Stmt) (f : Addr) (fd : FuncData) : Prop where
 ex : ∃ (oc : Value) (od : Option Addr) (kV doc pm : Value) (an : Option Addr) (cdv ct : Value) (osl : Array (Option Value)),
  fd = fnOf x qual (Ylz st) (Ylw st) (Yln st) .none kV doc pm an cdv ct /\ K.lookup f = some ⟨oc, od, .func fd, osl⟩ /\ PySem.W.codeIn K cdv qual = true
 kp : PySem.W.keepIn K (.ref f) = true
section
variable {P : Program} {w : World} {K : Frag} {mg : SOV} {base : Heap}
theorem Fun.ok {qual : Str} {st : Stmt} {f : Addr} {fd : FuncData} {N ps : List Str} {k : Nat} {sp : Sp} (F : Fun K x qual st f fd) (S : YlC N ps (Yln st)) (len : ∀ vs H Q E, sp vs H Q E -> vs.length = ps.length)
 (hbody : ∀ (cdv : Value) (A : Around) (outer : List Env) (s : Shared) (H : Hp) (vs : List V) (Q : VK) (E : XK), Ymn k (A.deeper (envOfC qual (Yln st) s.heap.objs.size f cdv)) -> sp vs H Q E ->
  ∃ t, PSs (YnL CX0 P w K mg base N qual (Yln st) f cdv A outer s H E).nox (Ylw st) t /\ t { nx := fun _ H' => Q .non H', rt := Q } (start N vs) H) : YmV P w K mg base CX0 (k + 1) f fd ps sp := by
 obtain ⟨oc, od, kV, doc, pm, an, cdv, ct, osl, rfl, lk, hcd⟩ := F.ex
 refine Yk0 lk hcd S len fun A outer s H vs Q E hr hsp => ?_
 obtain ⟨t, h, q⟩ := hbody cdv A outer s H vs Q E hr hsp
 exact ⟨t, h.nox, q⟩
theorem Fun.binds {qual : Str} {st : Stmt} {f : Addr} {fd : FuncData} {ps : List Str} (F : Fun K x qual st f fd)
 (h : ∀ (kV doc pm : Value) (an : Option Addr) (cdv ct : Value) (us : List Value), us.length = ps.length -> bindArgs (fnOf x qual (Ylz st) (Ylw st) (Yln st) .none kV doc pm an cdv ct) ⟨us, []⟩ = pure (ps.zip us)) : Binds K fd ps [] := by
 obtain ⟨oc, od, kV, doc, pm, an, cdv, ct, osl, rfl, lk, hcd⟩ := F.ex
 exact .all (h kV doc pm an cdv ct)
theorem YgD {qual : Str} {st : Stmt} {f : Addr} {oc : Value} {od an : Option Addr} {osl : Array (Option Value)} {kV doc pm cdv ct : Value} (l : K.lookup f = some ⟨oc, od, .func (fnOf x qual (Ylz st) (Ylw st) (Yln st) .none kV doc pm an cdv ct), osl⟩)
 (c : PySem.W.codeIn K cdv qual = true) (k : PySem.W.keepIn K (.ref f) = true) : Fun K x qual st f (fnOf x qual (Ylz st) (Ylw st) (Yln st) .none kV doc pm an cdv ct) := ⟨⟨oc, od, kV, doc, pm, an, cdv, ct, osl, rfl, l, c⟩, k⟩
end
theorem YS {A : Around} {k : Nat} (hr : Ymn k A) : A.units + 1 < cLine := ZBy (Nat.add_le_add_left (by decide : 1 <= 64) _) hr.units
section
variable {X : Cx}
theorem pv (i : Nat) {pos : Pos} (hN : X.N[i]? = some x := by rfl) (hv : Vis X.env.scope x := by first | exact Or.inl rfl | exact Or.inr (Or.inl rfl) | exact Or.inr (Or.inr rfl)) (hd : (x == ("__debug__" : Str)) = false := by decide)
 (hcd : (x == ("__classdict__" : Str)) = false := by decide) : PE X (.Name x pos) (YoQ i) := Yhe hN hv hd hcd
end
def YnI (H H' : Hp) : Prop := ∀ b o, H b = some o -> H' b = some o
theorem YnI.refl (H : Hp) : YnI H H := fun _ _ h => h
theorem YnI.trans {H H1 H2 : Hp} (a : YnI H H1) (b : YnI H1 H2) : YnI H H2 := fun c o h => b c o (a c o h)
theorem YnI.free {H H' : Hp} (e : YnI H H') {l : Addr} (h : H' l = Option.none) : H l = Option.none := by
 cases q : H l with
 | none => rfl
 | some o =>
  rw [e l o q] at h
  cases h
end L2
namespace L2
open PySem PySem.Spec PyProof.Rows
section
variable {X : Cx}
theorem YeK : Yl2 X (.builtin "len") (fun xs H Q => ∃ a kvs, xs = [V.ref a] /\ H a = some (.dK kvs) /\ Q (.int kvs.length) H) := by
 show 221
 obtain ⟨a, kvs, rfl, ha, q⟩ := h
 obtain ⟨u, rfl, ru⟩ := vals1 r
 cases ru
 exact Yk6 I (.inl ha) fun t s' I' => ⟨.int kvs.length, H, I', ⟨t, rfl⟩, q⟩
end
section
variable {κ : Type} [DecidableEq κ]
end
end L2
namespace Mi
open PySem PySem.Spec L2
open PyProof.Rows hiding St
variable {H : Hp} {H' : Hp} {K : Frag} {Q : VK} {Q' : VK} {X : Cx} {a : Addr} {as : List Addr} {as' : List Addr} {p : Addr} {u : HO}
inductive P where
 | non | bl (b : Bool) | int (i : Int) | str (x : Str) | tup (xs : List P) | ref (k : Nat)
inductive O where
 | lst (xs : List P) | ro (xs : List P) | dct (kvs : List (Key × P)) | exc (c : Str) (fs : List (Str × P)) | dtt (kvs : List (List Key × P)) | fdc (kvs : List (Key × P))
abbrev Ylo := List O
abbrev Rho := List (Option P)
mutual
inductive Den (K : Frag) (as : List Addr) (H : Hp) : V -> P -> Prop where
 | non : Den K as H .non .non
 | bl {b} : Den K as H (.bl b) (.bl b)
 | int {i} : Den K as H (.int i) (.int i)
 | str {x} : Den K as H (.str x) (.str x)
 | ref {k a} : as[k]? = some a -> Den K as H (.ref a) (.ref k)
 | tup {a vs ps} (sq : SqT K H a vs) (ds : Dens K as H vs ps) (tk : H a = some (.tup vs) := by first | assumption | exact Yn) : Den K as H (.ref a) (.tup ps)
inductive Dens (K : Frag) (as : List Addr) (H : Hp) : List V -> List P -> Prop where
 | nil : Dens K as H [] []
 | cons {v p vs ps} : Den K as H v p -> Dens K as H vs ps -> Dens K as H (v :: vs) (p :: ps)
end
def Mu : HO -> Prop
 | .lst _ => True
 | .dK _ => True
 | .dT _ => True
 | _ => False
structure Ext (as : List Addr) (H : Hp) (as' : List Addr) (H' : Hp) : Prop where
 pre : ∀ (k : Nat) a, as[k]? = some a -> as'[k]? = some a
 keep : ∀ b u, H b = some u -> ¬ Mu u -> H' b = some u
theorem Ext.refl : Ext as H as H := ⟨fun _ _ e => e, fun _ _ e _ => e⟩
theorem Ext.trans {as1 as2 : List Addr} {H1 H2 : Hp} (a : Ext as H as1 H1) (b : Ext as1 H1 as2 H2) : Ext as H as2 H2 :=
 ⟨fun k x e => b.pre k x (a.pre k x e), fun c u e m => b.keep c u (a.keep c u e m) m⟩
theorem SqT.ext {vs : List V} (x : Ext as H as' H') (h : SqT K H a vs) : SqT K H' a vs := by
 rcases h with (h | ⟨o, h⟩) | h
 ·exact .inl (.inl (x.keep _ _ h fun z => z))
 ·exact .inl (.inr ⟨o, x.keep _ _ h fun z => z⟩)
 ·exact .inr h
mutual
theorem Den.ext {K : Frag} {as as' : List Addr} {H H' : Hp} {v : V} {p : P} (x : Ext as H as' H') (h : Den K as H v p) : Den K as' H' v p :=
 match h with
 | .non => .non
 | .bl => .bl
 | .int => .int
 | .str => .str
 | .ref e => .ref (x.pre _ _ e)
 | .tup e r t => .tup (SqT.ext x e) (Dens.ext x r) (x.keep _ _ t fun z => z)
theorem Dens.ext {K : Frag} {as as' : List Addr} {H H' : Hp} {vs : List V} {ps : List P} (x : Ext as H as' H') (h : Dens K as H vs ps) : Dens K as' H' vs ps :=
 match h with
 | .nil => .nil
 | .cons a r => .cons (Den.ext x a) (Dens.ext x r)
end
section
theorem Dens.length : ∀ {vs : List V} {ps : List P}, Dens K as H vs ps -> vs.length = ps.length
 | _, _, .nil => rfl
 | _, _, .cons _ r => by simp [Dens.length r]
theorem Dens.get : ∀ {vs : List V} {ps : List P} {i : Nat} {p : P}, Dens K as H vs ps -> ps[i]? = some p -> ∃ v, vs[i]? = some v /\ Den K as H v p
 | _, _, _, _, .nil, e => by simp at e
 | _, _, 0, _, .cons a _, e => by simp at e; subst e; exact ⟨_, rfl, a⟩
 | _, _, i + 1, _, .cons _ r, e => by
  obtain ⟨v, h1, h2⟩ := Dens.get (i := i) r (by simpa using e)
  exact ⟨v, by simpa using h1, h2⟩
theorem Dens.append : ∀ {vs ws : List V} {ps qs : List P}, Dens K as H vs ps -> Dens K as H ws qs -> Dens K as H (vs ++ ws) (ps ++ qs)
 | _, _, _, _, .nil, s => s
 | _, _, _, _, .cons a r, s => .cons a (Dens.append r s)
theorem Dens.set {v : V} {p : P} (d : Den K as H v p) : ∀ {vs : List V} {ps : List P} (i : Nat), Dens K as H vs ps -> Dens K as H (vs.set i v) (ps.set i p)
 | _, _, _, .nil => .nil
 | _, _, 0, .cons _ t => .cons d t
 | _, _, i + 1, .cons q t => .cons q (Dens.set d i t)
theorem Dens.take : ∀ {vs : List V} {ps : List P} (n : Nat), Dens K as H vs ps -> Dens K as H (vs.take n) (ps.take n)
 | _, _, 0, _ => .nil
 | _, _, _ + 1, .nil => .nil
 | _, _, n + 1, .cons r t => .cons r (Dens.take n t)
theorem Dens.drop : ∀ {vs : List V} {ps : List P} (n : Nat), Dens K as H vs ps -> Dens K as H (vs.drop n) (ps.drop n)
 | _, _, 0, r => r
 | _, _, _ + 1, .nil => .nil
 | _, _, n + 1, .cons _ t => Dens.drop n t
theorem Dens.reverse : ∀ {vs : List V} {ps : List P}, Dens K as H vs ps -> Dens K as H vs.reverse ps.reverse
 | _, _, .nil => .nil
 | _, _, .cons r t => by rw [ZBz, ZBz]; exact (Dens.reverse t).append (.cons r .nil)
end
def YpY (a : Addr) (C : Value) (od : Option Addr) (h : Heap) : Prop := ∃ o vs, h.get? a = some o /\ o.cls = C /\ o.dict = od /\ o.data = .fields vs
def Yn7 (K : Frag) (as : List Addr) (H : Hp) (od : Option Addr) (fs : List (Str × P)) : Prop :=
 (od = none /\ fs = []) \/ ∃ d ws, od = some d /\ H d = some (.xd ws) /\ ws.map (·.1) = fs.map (·.1) /\ Dens K as H (ws.map (·.2)) (fs.map (·.2))
theorem Yn7.ext {od : Option Addr} {fs : List (Str × P)} (x : Ext as H as' H') (h : Yn7 K as H od fs) : Yn7 K as' H' od fs := by
 rcases h with h | ⟨d, ws, h4, h5, h6, h7⟩
 ·exact .inl h
 ·exact .inr ⟨d, ws, h4, x.keep _ _ h5 fun z => z, h6, h7.ext x⟩
def Ynl (K : Frag) (as : List Addr) (H : Hp) (a : Addr) : O -> Prop
 | .lst xs => ∃ vs, H a = some (.lst vs) /\ Dens K as H vs xs
 | .ro xs => ∃ vs, ((∃ o, H a = some (.frz o (.lst vs))) \/ ∃ (o : Obj) (its : Array Value) (n : Nat), K.lookup a = some o /\ o.cls = .type "list" /\ o.dict = none /\ o.data = .seq its n /\ its.size <= sizeLine /\ Vals vs its.toList) /\ Dens K as H vs xs
 | .dct kvs => ∃ ws, H a = some (.dK ws) /\ ws.map (·.1) = kvs.map (·.1) /\ Dens K as H (ws.map (·.2)) (kvs.map (·.2))
 | .exc c fs => ∃ C od, nsIn K mainGlobals c = some (some (.ref C)) /\ H a = some (.ext (YpY a (.ref C) od)) /\ Yn7 K as H od fs
 | .dtt kvs => ∃ ws, H a = some (.dT ws) /\ ws.map (·.1) = kvs.map (·.1) /\ Dens K as H (ws.map (·.2)) (kvs.map (·.2))
 | .fdc kvs => ∃ o ws, H a = some (.frz o (.dK ws)) /\ ws.map (·.1) = kvs.map (·.1) /\ Dens K as H (ws.map (·.2)) (kvs.map (·.2))
def YmT : Option O -> Prop
 | some (.ro _) => True
 | _ => False
structure Rep (K : Frag) (as : List Addr) (st : Ylo) (H : Hp) : Prop where
 len : as.length = st.length
 nd : ∀ (i j : Nat) a, as[i]? = some a -> as[j]? = some a -> ¬ YmT st[i]? -> ¬ YmT st[j]? -> i = j
 ob : ∀ (k : Nat) a o, as[k]? = some a -> st[k]? = some o -> Ynl K as H a o
section
variable {st : Ylo}
theorem Ynl.ext {o : O} (x : Ext as H as' H') (hm : ∀ u, H a = some u -> H' a = some u) (h : Ynl K as H a o) : Ynl K as' H' a o := by
 cases o with
 | lst xs => obtain ⟨vs, h1, h2⟩ := h; exact ⟨vs, hm _ h1, h2.ext x⟩
 | ro xs =>
  obtain ⟨vs, h1, h2⟩ := h
  refine ⟨vs, ?_, h2.ext x⟩
  rcases h1 with ⟨o, h1⟩ | h1
  ·exact .inl ⟨o, hm _ h1⟩
  ·exact .inr h1
 | dct kvs => obtain ⟨ws, h1, h2, h3⟩ := h; exact ⟨ws, hm _ h1, h2, h3.ext x⟩
 | exc c fs =>
  obtain ⟨C, od, h1, h2, h3⟩ := h
  exact ⟨C, od, h1, hm _ h2, h3.ext x⟩
 | dtt kvs => obtain ⟨ws, h1, h2, h3⟩ := h; exact ⟨ws, hm _ h1, h2, h3.ext x⟩
 | fdc kvs => obtain ⟨o, ws, h1, h2, h3⟩ := h; exact ⟨o, ws, hm _ h1, h2, h3.ext x⟩
theorem Rep.tracked (r : Rep K as st H) {k : Nat} (e : as[k]? = some a) (n : ¬ YmT st[k]?) : ∃ u, H a = some u := by
 have hk : k < st.length := by rw [<- r.len]; exact (ZAB.mp e).1
 have q : st[k]? = some st[k] := by simp [hk]
 have h := r.ob k a _ e q
 rw [q] at n
 cases w : st[k] with
 | lst xs => rw [w] at h; obtain ⟨vs, h1, _⟩ := h; exact ⟨_, h1⟩
 | ro xs => rw [w] at n; exact absurd trivial n
 | dct kvs => rw [w] at h; obtain ⟨vs, h1, _⟩ := h; exact ⟨_, h1⟩
 | exc c fs => rw [w] at h; obtain ⟨C, od, _, h2, _⟩ := h; exact ⟨_, h2⟩
 | dtt kvs => rw [w] at h; obtain ⟨vs, h1, _⟩ := h; exact ⟨_, h1⟩
 | fdc kvs => rw [w] at h; obtain ⟨o, vs, h1, _⟩ := h; exact ⟨_, h1⟩
theorem Ext.new (hp : H p = none) : Ext as H (as ++ [p]) (upd H p u) where
 pre := fun k a e => by rw [ZAy (ZAB.mp e).1]; exact e
 keep := fun b w e _ => by rw [Yf (Ye e hp)]; exact e
theorem Ext.laid (hp : H p = none) : Ext as H as (upd H p u) where
 pre := fun k a e => e
 keep := fun b w e _ => by rw [Yf (Ye e hp)]; exact e
theorem Rep.laid (r : Rep K as st H) (hp : H p = none) : Rep K as st (upd H p u) :=
 ⟨r.len, r.nd, fun k a o e q => (r.ob k a o e q).ext (Ext.laid hp) fun w z => by rw [Yf (Ye z hp)]; exact z⟩
def Yns (as : List Addr) (st : Ylo) (l : Addr) : Prop := ∀ i : Nat, as[i]? = some l -> YmT st[i]?
theorem Rep.fresh (r : Rep K as st H) (hp : H p = none) : Yns as st p := fun i e => by
 by_cases h : YmT st[i]?
 ·exact h
 ·obtain ⟨u, hu⟩ := r.tracked e h
  rw [hp] at hu; cases hu
theorem Ext.add : Ext as H (as ++ [p]) H where
 pre := fun k a e => by rw [ZAy (ZAB.mp e).1]; exact e
 keep := fun b w e _ => e
theorem Rep.add {o : O} (r : Rep K as st H) (fr : Yns as st p) (ho : Ynl K (as ++ [p]) H p o) : Rep K (as ++ [p]) (st ++ [o]) H where
 len := by simp [r.len]
 nd := fun i j a hi hj ni nj => by
  have hl := r.len
  have key : ∀ (i : Nat), (as ++ [p])[i]? = some a -> (¬ YmT (st ++ [o])[i]?) -> (i < as.length /\ as[i]? = some a /\ (¬ YmT st[i]?)) \/ (i = as.length /\ a = p) := fun i hi ni => by
   by_cases h : i < as.length
   ·rw [ZAy h] at hi
    rw [ZAy (by omega)] at ni
    exact .inl ⟨h, hi, ni⟩
   ·have h' : i < (as ++ [p]).length := (ZAB.mp hi).1
    rw [ZAJ, ZAg] at h'
    have e : i = as.length := by omega
    subst e
    rw [ZBR (ZAI _)] at hi
    simp at hi
    exact .inr ⟨rfl, hi.symm⟩
  rcases key i hi ni with ⟨a1, a2, a3⟩ | ⟨a1, a2⟩
  ·rcases key j hj nj with ⟨b1, b2, b3⟩ | ⟨b1, b2⟩
   ·exact r.nd i j a a2 b2 a3 b3
   ·subst b2; exact absurd (fr i a2) a3
  ·rcases key j hj nj with ⟨b1, b2, b3⟩ | ⟨b1, b2⟩
   ·subst a2; exact absurd (fr j b2) b3
   ·omega
 ob := fun k a q hk hq => by
  have hl := r.len
  by_cases h : k < as.length
  ·rw [ZAy h] at hk
   rw [ZAy (by omega)] at hq
   exact (r.ob k a q hk hq).ext Ext.add fun w z => z
  ·have h' : k < (as ++ [p]).length := (ZAB.mp hk).1
   rw [ZAJ, ZAg] at h'
   have e : k = as.length := by omega
   subst e
   rw [ZBR (ZAI _)] at hk
   rw [ZBR (by omega)] at hq
   simp at hk
   simp [hl] at hq
   subst hk; subst hq
   exact ho
theorem Rep.new {o : O} (r : Rep K as st H) (hp : H p = none) (ho : Ynl K (as ++ [p]) (upd H p u) p o) : Rep K (as ++ [p]) (st ++ [o]) (upd H p u) :=
 (r.laid hp).add (r.fresh hp) ho
theorem Vg : (as ++ [p])[as.length]? = Option.some p := by simp
theorem Rep.lnew {vs : List V} {xs : List P} (r : Rep K as st H) (hp : H p = none) (d : Dens K as H vs xs) : Rep K (as ++ [p]) (st ++ [.lst xs]) (upd H p (.lst vs)) :=
 r.new hp ⟨vs, Yn, d.ext (Ext.new hp)⟩
theorem Ext.write {w : HO} (ha : H a = Option.some w) (mu : Mu w) : Ext as H as (upd H a u) where
 pre := fun k a e => e
 keep := fun b z e m => by
  rw [Yf]
  ·exact e
  ·rintro rfl
   rw [ha] at e; cases e
   exact m mu
theorem Rep.write {k : Nat} {w : HO} {o : O} (r : Rep K as st H) (hk : as[k]? = Option.some a) (ha : H a = Option.some w) (mu : Mu w) (no : ¬ YmT (Option.some o)) (nr : ¬ YmT st[k]?) (ho : Ynl K as (upd H a u) a o) : Rep K as (st.set k o) (upd H a u) where
 len := by rw [ZBw]; exact r.len
 nd := fun i j b hi hj ni nj => by
  have key : ∀ (i : Nat), as[i]? = Option.some b -> (¬ YmT (st.set k o)[i]?) -> ¬ YmT st[i]? := fun i hi ni z => by
   by_cases h : k = i
   ·subst h; exact nr z
   ·rw [ZAL h] at ni; exact ni z
  exact r.nd i j b hi hj (key i hi ni) (key j hj nj)
 ob := fun i b q hi hq => by
  have hkl : k < st.length := by rw [<- r.len]; exact (ZAB.mp hk).1
  by_cases h : k = i
  ·subst h
   rw [hk] at hi; cases hi
   rw [ZAR hkl] at hq
   cases hq
   exact ho
  ·rw [ZAL h] at hq
   have old := r.ob i b q hi hq
   show 206
   ·subst hb
    by_cases hr : YmT st[i]?
    ·rw [hq] at hr
     cases q with
     | ro xs =>
      obtain ⟨vs, h1, h2⟩ := old
      refine ⟨vs, ?_, h2.ext (Ext.write ha mu)⟩
      rcases h1 with ⟨ob, h1⟩ | h1
      ·rw [ha] at h1; cases h1; exact mu.elim
      ·exact .inr h1
     | _ => exact hr.elim
    ·exact absurd (r.nd k i b hk hi nr hr) h
   ·exact old.ext (Ext.write ha mu) fun w z => by rw [Yf hb]; exact z
theorem Rep.lset {k : Nat} {vs vs' : List V} {xs xs' : List P} (r : Rep K as st H) (hk : as[k]? = Option.some a) (ha : H a = Option.some (.lst vs)) (hs : st[k]? = Option.some (.lst xs)) (d : Dens K as H vs' xs') : Rep K as (st.set k (.lst xs')) (upd H a (.lst vs')) :=
 r.write hk ha trivial (fun z => z) (by rw [hs]; exact fun z => z) ⟨vs', Yn, d.ext (Ext.write ha trivial)⟩
end
abbrev Xc := Str × List (Str × P)
inductive R (α : Type) where
 | ok (a : α) (st : Ylo)
 | exc (k : Xc) (st : Ylo)
 | bad
def R.bind {α β : Type} (r : R α) (f : α -> Ylo -> R β) : R β :=
 match r with
 | .ok a st => f a st
 | .exc k st => .exc k st
 | .bad => .bad
@[simp] theorem R.bind_ok {α β : Type} {a : α} {st : Ylo} {f : α -> Ylo -> R β} : (R.ok a st).bind f = f a st := rfl
@[simp] theorem R.bind_exc {α β : Type} {k : Xc} {st : Ylo} {f : α -> Ylo -> R β} : (R.exc k st : R α).bind f = .exc k st := rfl
@[simp] theorem R.bind_bad {α β : Type} {f : α -> Ylo -> R β} : (R.bad : R α).bind f = .bad := rfl
def ofO {α : Type} : Option (α × Ylo) -> R α
 | some (a, st) => .ok a st
 | none => .bad
@[simp] theorem YcD {α : Type} {a : α} {st : Ylo} : ofO (some (a, st)) = .ok a st := rfl
@[simp] theorem YfT {α : Type} : ofO (none : Option (α × Ylo)) = .bad := rfl
abbrev ME := Rho -> Ylo -> R P
abbrev MT := Rho -> Ylo -> R Bool
abbrev MA := Rho -> Ylo -> R (List P)
inductive RS where
 | nx (ρ : Rho) (st : Ylo)
 | rt (p : P) (st : Ylo)
 | bk (ρ : Rho) (st : Ylo)
 | ct (ρ : Rho) (st : Ylo)
 | exc (k : Xc) (ρ : Rho) (st : Ylo)
 | bad
abbrev MS := Rho -> Ylo -> RS
structure YlI (K : Frag) (as : List Addr) (H : Hp) (ρ : Rho) (σ : St) : Prop where
 len : ρ.length = σ.length
 val : ∀ (i : Nat) p, ρ[i]? = some (some p) -> ∃ v, σ[i]? = some (some v) /\ Den K as H v p
theorem YlI.ext {ρ : Rho} {σ : St} (x : Ext as H as' H') (h : YlI K as H ρ σ) : YlI K as' H' ρ σ :=
 ⟨h.len, fun i p e => let ⟨v, h1, h2⟩ := h.val i p e; ⟨v, h1, h2.ext x⟩⟩
theorem YlI.set {ρ : Rho} {σ : St} {i : Nat} {p : P} {v : V} (h : YlI K as H ρ σ) (d : Den K as H v p) : YlI K as H (ρ.set i (some p)) (σ.set i (some v)) :=
 ⟨by simp [h.len], fun j q e => by
  have hl := h.len
  by_cases hj : i = j
  ·subst hj
   by_cases hi : i < ρ.length
   ·rw [ZAR hi] at e
    cases e
    exact ⟨v, by rw [ZAR (by omega)], d⟩
   ·rw [ZCK (by omega)] at e
    have := (ZAB.mp e).1
    omega
  ·rw [ZAL hj] at e
   obtain ⟨w, h1, h2⟩ := h.val j q e
   exact ⟨w, by rw [ZAL hj]; exact h1, h2⟩⟩
structure Yop (Nw : Addr -> Prop) (H : Hp) (a : Addr) (C : Value) (od : Option Addr) (h : Heap) : Prop where
 na : Nw a
 ha : H a = none
 tr : ∃ oe vs, h.get? a = some oe /\ oe.cls = C /\ oe.dict = od /\ oe.data = .fields vs /\ (vs[1]? = some .none \/
  ∃ T oT ts, vs[1]? = some (.ref T) /\ Nw T /\ H T = none /\ T ≠ a /\ h.get? T = some oT /\ oT.data = .fields ts /\ 3 < ts.size)
theorem Yop.mono {N N' : Addr -> Prop} {C : Value} {od : Option Addr} {h : Heap} (f : Yop N H a C od h) (i : ∀ b, N b -> N' b) : Yop N' H a C od h := by
 obtain ⟨n, e, oe, vs, h1, h2, h3, h4, h5⟩ := f
 refine ⟨i a n, e, oe, vs, h1, h2, h3, h4, ?_⟩
 rcases h5 with h5 | ⟨T, oT, ts, g1, g2, g3⟩
 ·exact .inl h5
 ·exact .inr ⟨T, oT, ts, g1, i T g2, g3⟩
def Nw (X : Cx) (pins : LAO) (b : Addr) : Prop := (b ∈ X.ex \/ X.s₀.heap.get? b = none) /\ ∀ p ∈ X.pn ++ pins, p.1 ≠ b
def Fly (X : Cx) (pins : LAO) (x : Xc) (a : Addr) (as : List Addr) (H : Hp) (s : Shared) : Prop :=
 ∃ C od, nsIn X.K mainGlobals x.1 = some (some (.ref C)) /\ Yop (Nw X pins) H a (.ref C) od s.heap /\ Yn7 X.K as H od x.2
def XOk (X : Cx) (as : List Addr) (H : Hp) (ρ : Rho) (k : Xc) (st' : Ylo) : Prop :=
 ∀ (pins : LAO) (σ' : St) (s' : Shared) (as' : List Addr) (H' : Hp) (a : Addr), Inv X pins σ' H' s' -> YlI X.K as' H' ρ σ' -> Ext as H as' H' -> Rep X.K as' st' H' -> Fly X pins k a as' H' s' -> X.xe (.ref a) s'
theorem XOk.ext {as1 : List Addr} {H1 : Hp} {ρ : Rho} {k : Xc} {st' : Ylo} (x : Ext as H as1 H1) (h : XOk X as H ρ k st') : XOk X as1 H1 ρ k st' :=
 fun pins σ' s' as' H' a I e y r q => h pins σ' s' as' H' a I e (x.trans y) r q
def YlH (X : Cx) (as : List Addr) (H : Hp) (ρ : Rho) (r : R P) (Q : VK) : Prop :=
 match r with
 | .ok p st' => ∀ as' H' v, Ext as H as' H' -> Rep X.K as' st' H' -> Den X.K as' H' v p -> Q v H'
 | .exc k st' => XOk X as H ρ k st'
 | .bad => False
def Ymc (X : Cx) (as : List Addr) (H : Hp) (ρ : Rho) (r : R Bool) (Q : Bool -> Hp -> Prop) : Prop :=
 match r with
 | .ok b st' => ∀ as' H', Ext as H as' H' -> Rep X.K as' st' H' -> Q b H'
 | .exc k st' => XOk X as H ρ k st'
 | .bad => False
def Ymh (X : Cx) (as : List Addr) (H : Hp) (ρ : Rho) (r : R (List P)) (Q : List V -> Hp -> Prop) : Prop :=
 match r with
 | .ok ps st' => ∀ as' H' vs, Ext as H as' H' -> Rep X.K as' st' H' -> Dens X.K as' H' vs ps -> Q vs H'
 | .exc k st' => XOk X as H ρ k st'
 | .bad => False
def YlU (X : Cx) (as : List Addr) (H : Hp) (ρ : Rho) (r : R (List P)) (Q : VK) : Prop :=
 match r with
 | .ok ps st' => ∀ as' H' l vs, Ext as H as' H' -> Rep X.K as' st' H' -> H' l = some (.lst vs) -> Yns as' st' l -> Dens X.K as' H' vs ps -> Q (.ref l) H'
 | .exc k st' => XOk X as H ρ k st'
 | .bad => False
def YlJ (X : Cx) (as : List Addr) (H : Hp) (r : RS) (D : Ends) : Prop :=
 match r with
 | .nx ρ' st' => ∀ as' H' σ', Ext as H as' H' -> Rep X.K as' st' H' -> YlI X.K as' H' ρ' σ' -> D.nx σ' H'
 | .bk ρ' st' => ∀ as' H' σ', Ext as H as' H' -> Rep X.K as' st' H' -> YlI X.K as' H' ρ' σ' -> D.bk σ' H'
 | .ct ρ' st' => ∀ as' H' σ', Ext as H as' H' -> Rep X.K as' st' H' -> YlI X.K as' H' ρ' σ' -> D.ct σ' H'
 | .rt p st' => ∀ as' H' v, Ext as H as' H' -> Rep X.K as' st' H' -> Den X.K as' H' v p -> D.rt v H'
 | .exc k ρ' st' => XOk X as H ρ' k st'
 | .bad => False
def YlG (X : Cx) (as : List Addr) (H : Hp) (r : Option (P × Ylo)) (Q : VK) : Prop :=
 match r with
 | some (p, st') => ∀ as' H' v, Ext as H as' H' -> Rep X.K as' st' H' -> Den X.K as' H' v p -> Q v H'
 | none => False
def tE (X : Cx) (m : ME) : TE := fun σ H Q => ∃ as ρ st, YlI X.K as H ρ σ /\ Rep X.K as st H /\ YlH X as H ρ (m ρ st) Q
def tT (X : Cx) (m : MT) : TT := fun σ H Q => ∃ as ρ st, YlI X.K as H ρ σ /\ Rep X.K as st H /\ Ymc X as H ρ (m ρ st) Q
def tA (X : Cx) (m : MA) : TA := fun σ H Q => ∃ as ρ st, YlI X.K as H ρ σ /\ Rep X.K as st H /\ Ymh X as H ρ (m ρ st) Q
def tL (X : Cx) (m : MA) : TE := fun σ H Q => ∃ as ρ st, YlI X.K as H ρ σ /\ Rep X.K as st H /\ YlU X as H ρ (m ρ st) Q
def tS (X : Cx) (m : MS) : TS := fun D σ H => ∃ as ρ st, YlI X.K as H ρ σ /\ Rep X.K as st H /\ YlJ X as H (m ρ st) D
abbrev JE (X : Cx) (e : Expr) (m : ME) : Prop := PE X e (tE X m)
abbrev JT (X : Cx) (e : Expr) (m : MT) : Prop := PT X e (tT X m)
abbrev JA (X : Cx) (es : List Expr) (m : MA) : Prop := PA X es (tA X m)
abbrev JL (X : Cx) (e : Expr) (m : MA) : Prop := PE X e (tL X m)
abbrev JS (X : Cx) (s : Stmt) (m : MS) : Prop := PS X s (tS X m)
abbrev JSs (X : Cx) (ss : List Stmt) (m : MS) : Prop := PSs X ss (tS X m)
theorem PE.imp {e : Expr} {t t' : TE} (h : PE X e t) (i : ∀ σ H Q, t' σ H Q -> t σ H Q) : PE X e t' := fun pins s σ H Q I q => h pins s σ H Q I (i σ H Q q)
theorem PT.imp {e : Expr} {t t' : TT} (h : PT X e t) (i : ∀ σ H Q, t' σ H Q -> t σ H Q) : PT X e t' := fun pins s σ H Q I q => h pins s σ H Q I (i σ H Q q)
theorem PA.imp {es : List Expr} {t t' : TA} (h : PA X es t) (i : ∀ σ H Q, t' σ H Q -> t σ H Q) : PA X es t' := fun pos pins s σ H Q I q => h pos pins s σ H Q I (i σ H Q q)
theorem PS.imp {e : Stmt} {t t' : TS} (h : PS X e t) (i : ∀ D σ H, t' D σ H -> t D σ H) : PS X e t' := fun pins s σ H D I q => h pins s σ H D I (i D σ H q)
theorem PSs.imp {e : List Stmt} {t t' : TS} (h : PSs X e t) (i : ∀ D σ H, t' D σ H -> t D σ H) : PSs X e t' := fun pins s σ H D I q => h pins s σ H D I (i D σ H q)
section
variable {as1 : List Addr} {H1 : Hp} {ρ : Rho}
theorem YlH.ext {r : R P} (x : Ext as H as1 H1) (h : YlH X as H ρ r Q) : YlH X as1 H1 ρ r Q := by
 cases r with
 | ok p st' => exact fun as' H' v y => h as' H' v (x.trans y)
 | exc k st' => show 190
 | bad => exact h
theorem Ymc.ext {r : R Bool} {Q : Bool -> Hp -> Prop} (x : Ext as H as1 H1) (h : Ymc X as H ρ r Q) : Ymc X as1 H1 ρ r Q := by
 cases r with
 | ok p st' => exact fun as' H' y => h as' H' (x.trans y)
 | exc k st' => show 190
 | bad => exact h
theorem Ymh.ext {r : R (List P)} {Q : List V -> Hp -> Prop} (x : Ext as H as1 H1) (h : Ymh X as H ρ r Q) : Ymh X as1 H1 ρ r Q := by
 cases r with
 | ok p st' => exact fun as' H' vs y => h as' H' vs (x.trans y)
 | exc k st' => show 190
 | bad => exact h
theorem YlU.ext {r : R (List P)} (x : Ext as H as1 H1) (h : YlU X as H ρ r Q) : YlU X as1 H1 ρ r Q := by
 cases r with
 | ok p st' => exact fun as' H' l vs y => h as' H' l vs (x.trans y)
 | exc k st' => show 190
 | bad => exact h
theorem YlJ.ext {r : RS} {D : Ends} (x : Ext as H as1 H1) (h : YlJ X as H r D) : YlJ X as1 H1 r D := by
 cases r with
 | nx ρ' st' => exact fun as' H' σ' y => h as' H' σ' (x.trans y)
 | bk ρ' st' => exact fun as' H' σ' y => h as' H' σ' (x.trans y)
 | ct ρ' st' => exact fun as' H' σ' y => h as' H' σ' (x.trans y)
 | rt p st' => exact fun as' H' v y => h as' H' v (x.trans y)
 | exc k ρ' st' => show 190
 | bad => exact h
theorem YlH.bindE {r : R P} {f : P -> Ylo -> R P} (h : YlH X as H ρ (r.bind f) Q)
 (go : ∀ p st1 as1 H1 v, Ext as H as1 H1 -> Rep X.K as1 st1 H1 -> Den X.K as1 H1 v p -> YlH X as1 H1 ρ (f p st1) Q -> Q' v H1) : YlH X as H ρ r Q' := by
 cases r with
 | ok p st1 => exact fun as1 H1 v x rp d => go p st1 as1 H1 v x rp d (YlH.ext x h)
 | exc k st' => exact h
 | bad => exact h
theorem YlH.bindA {r : R (List P)} {f : List P -> Ylo -> R P} {Q' : List V -> Hp -> Prop} (h : YlH X as H ρ (r.bind f) Q)
 (go : ∀ ps st1 as1 H1 vs, Ext as H as1 H1 -> Rep X.K as1 st1 H1 -> Dens X.K as1 H1 vs ps -> YlH X as1 H1 ρ (f ps st1) Q -> Q' vs H1) : Ymh X as H ρ r Q' := by
 cases r with
 | ok p st1 => exact fun as1 H1 v x rp d => go p st1 as1 H1 v x rp d (YlH.ext x h)
 | exc k st' => exact h
 | bad => exact h
theorem YlH.bindL {r : R (List P)} {f : List P -> Ylo -> R P} (h : YlH X as H ρ (r.bind f) Q)
 (go : ∀ ps st1 as1 H1 l vs, Ext as H as1 H1 -> Rep X.K as1 st1 H1 -> H1 l = some (.lst vs) -> Yns as1 st1 l -> Dens X.K as1 H1 vs ps -> YlH X as1 H1 ρ (f ps st1) Q -> Q' (.ref l) H1) : YlU X as H ρ r Q' := by
 cases r with
 | ok p st1 => exact fun as1 H1 l v x rp hl nl d => go p st1 as1 H1 l v x rp hl nl d (YlH.ext x h)
 | exc k st' => exact h
 | bad => exact h
theorem YlH.bindB {r : R Bool} {f : Bool -> Ylo -> R P} {Q' : Bool -> Hp -> Prop} (h : YlH X as H ρ (r.bind f) Q)
 (go : ∀ b st1 as1 H1, Ext as H as1 H1 -> Rep X.K as1 st1 H1 -> YlH X as1 H1 ρ (f b st1) Q -> Q' b H1) : Ymc X as H ρ r Q' := by
 cases r with
 | ok p st1 => exact fun as1 H1 x rp => go p st1 as1 H1 x rp (YlH.ext x h)
 | exc k st' => exact h
 | bad => exact h
theorem Ymc.bindE {r : R P} {f : P -> Ylo -> R Bool} {Q : Bool -> Hp -> Prop} (h : Ymc X as H ρ (r.bind f) Q)
 (go : ∀ p st1 as1 H1 v, Ext as H as1 H1 -> Rep X.K as1 st1 H1 -> Den X.K as1 H1 v p -> Ymc X as1 H1 ρ (f p st1) Q -> Q' v H1) : YlH X as H ρ r Q' := by
 cases r with
 | ok p st1 => exact fun as1 H1 v x rp d => go p st1 as1 H1 v x rp d (Ymc.ext x h)
 | exc k st' => exact h
 | bad => exact h
theorem Ymc.bindB {r : R Bool} {f : Bool -> Ylo -> R Bool} {Q : Bool -> Hp -> Prop} {Q' : Bool -> Hp -> Prop} (h : Ymc X as H ρ (r.bind f) Q)
 (go : ∀ b st1 as1 H1, Ext as H as1 H1 -> Rep X.K as1 st1 H1 -> Ymc X as1 H1 ρ (f b st1) Q -> Q' b H1) : Ymc X as H ρ r Q' := by
 cases r with
 | ok p st1 => exact fun as1 H1 x rp => go p st1 as1 H1 x rp (Ymc.ext x h)
 | exc k st' => exact h
 | bad => exact h
theorem Ymh.bindE {r : R P} {f : P -> Ylo -> R (List P)} {Q : List V -> Hp -> Prop} (h : Ymh X as H ρ (r.bind f) Q)
 (go : ∀ p st1 as1 H1 v, Ext as H as1 H1 -> Rep X.K as1 st1 H1 -> Den X.K as1 H1 v p -> Ymh X as1 H1 ρ (f p st1) Q -> Q' v H1) : YlH X as H ρ r Q' := by
 cases r with
 | ok p st1 => exact fun as1 H1 v x rp d => go p st1 as1 H1 v x rp d (Ymh.ext x h)
 | exc k st' => exact h
 | bad => exact h
theorem Ymh.bindA {r : R (List P)} {f : List P -> Ylo -> R (List P)} {Q : List V -> Hp -> Prop} {Q' : List V -> Hp -> Prop} (h : Ymh X as H ρ (r.bind f) Q)
 (go : ∀ p st1 as1 H1 v, Ext as H as1 H1 -> Rep X.K as1 st1 H1 -> Dens X.K as1 H1 v p -> Ymh X as1 H1 ρ (f p st1) Q -> Q' v H1) : Ymh X as H ρ r Q' := by
 cases r with
 | ok p st1 => exact fun as1 H1 v x rp d => go p st1 as1 H1 v x rp d (Ymh.ext x h)
 | exc k st' => exact h
 | bad => exact h
theorem YlU.bindE {r : R P} {f : P -> Ylo -> R (List P)} (h : YlU X as H ρ (r.bind f) Q)
 (go : ∀ p st1 as1 H1 v, Ext as H as1 H1 -> Rep X.K as1 st1 H1 -> Den X.K as1 H1 v p -> YlU X as1 H1 ρ (f p st1) Q -> Q' v H1) : YlH X as H ρ r Q' := by
 cases r with
 | ok p st1 => exact fun as1 H1 v x rp d => go p st1 as1 H1 v x rp d (YlU.ext x h)
 | exc k st' => exact h
 | bad => exact h
theorem YlU.bindA {r : R (List P)} {f : List P -> Ylo -> R (List P)} {Q' : List V -> Hp -> Prop} (h : YlU X as H ρ (r.bind f) Q)
 (go : ∀ p st1 as1 H1 v, Ext as H as1 H1 -> Rep X.K as1 st1 H1 -> Dens X.K as1 H1 v p -> YlU X as1 H1 ρ (f p st1) Q -> Q' v H1) : Ymh X as H ρ r Q' := by
 cases r with
 | ok p st1 => exact fun as1 H1 v x rp d => go p st1 as1 H1 v x rp d (YlU.ext x h)
 | exc k st' => exact h
 | bad => exact h
theorem YlU.bindL {r : R (List P)} {f : List P -> Ylo -> R (List P)} (h : YlU X as H ρ (r.bind f) Q)
 (go : ∀ ps st1 as1 H1 l vs, Ext as H as1 H1 -> Rep X.K as1 st1 H1 -> H1 l = some (.lst vs) -> Yns as1 st1 l -> Dens X.K as1 H1 vs ps -> YlU X as1 H1 ρ (f ps st1) Q -> Q' (.ref l) H1) : YlU X as H ρ r Q' := by
 cases r with
 | ok p st1 => exact fun as1 H1 l v x rp hl nl d => go p st1 as1 H1 l v x rp hl nl d (YlU.ext x h)
 | exc k st' => exact h
 | bad => exact h
theorem YlH.ofO {r : Option (P × Ylo)} (h : YlH X as H ρ (ofO r) Q) : YlG X as H r Q := by
 cases r with
 | none => exact h
 | some p => exact h
end
end Mi
namespace Mi
open PySem PySem.Spec L2
open PyProof.Rows hiding St
variable {A : Around} {E : VSP} {FN : List Str} {H : Hp} {I : Addr} {K : Frag} {Q : VSP} {Q' : VK} {S : Addr} {T : String} {TN : List Str} {X : Cx} {a : Addr} {as : List Addr} {c : Expr} {e : Expr} {elt : Expr} {env : Env} {ep : Nat} {es : Array (Int × Value)} {f : Value} {fr : List Nat} {i : Nat} {ifs : List Expr} {items : Array Value} {iter : Expr} {k : Nat} {ks : List Str} {me : ME} {mr : MA} {n : Nat} {nt : MT} {p : P} {pos : Pos} {prog : Program} {s : Shared} {scope : Scope} {st : Ylo} {t : SetTable} {tg : Expr} {v : V} {vs : List V} {w : World} {x : Str} {xs : List P} {ρ : Rho} {σ : St}
def Yll (i : Nat) : ME := fun ρ st => match ρ[i]? with
 | some (some p) => .ok p st
 | _ => .bad
def eC (p : P) : ME := fun _ st => .ok p st
section
variable {a b : Expr} {ma mb mc : ME}
theorem Yh8 (h : PE X a (YoQ i)) : JE X a (Yll i) := PE.imp h fun σ H Q ⟨as, ρ, st, en, rp, h⟩ => by
 unfold Yll at h
 cases e : ρ[i]? with
 | none => rw [e] at h; exact h.elim
 | some o =>
  rw [e] at h
  cases o with
  | none => show 144
  | some p =>
   obtain ⟨v, h1, d⟩ := en.val i p e
   exact ⟨v, h1, h as H v Ext.refl rp d⟩
theorem jv (i : Nat) (hN : X.N[i]? = some x := by rfl) (hv : Vis X.env.scope x := by first | exact Or.inl rfl | exact Or.inr (Or.inl rfl) | exact Or.inr (Or.inr rfl)) (hd : (x == ("__debug__" : Str)) = false := by decide)
 (hcd : (x == ("__classdict__" : Str)) = false := by decide) : JE X (.Name x pos) (Yll i) := Yh8 (Yhe hN hv hd hcd)
theorem Vs (h : PE X a (tC v)) (d : ∀ K as H, Den K as H v p) : JE X a (eC p) := PE.imp h fun σ H Q ⟨as, ρ, st, en, rp, h⟩ => h as H v Ext.refl rp (d _ _ _)
theorem Yh {i j pos} : JE X (.Constant (.int i) j pos) (eC (.int i)) := Vs YjJ fun _ _ _ => .int
theorem Wd {b j pos} : JE X (.Constant (.bool b) j pos) (eC (.bl b)) := Vs YkB fun _ _ _ => .bl
theorem W9 {j pos} : JE X (.Constant .none j pos) (eC .non) := Vs Yks fun _ _ _ => .non
theorem Zr {x j pos} : JE X (.Constant (.str x) j pos) (eC (.str x)) := Vs Yj1 fun _ _ _ => .str
abbrev G2 := P -> P -> Ylo -> Option (P × Ylo)
def rM (X : Cx) (g : G2) : R2 := fun x y H Q => ∃ as st p q, Rep X.K as st H /\ Den X.K as H x p /\ Den X.K as H y q /\ YlG X as H (g p q st) Q
def Ylq (g : G2) (ma mb : ME) : ME := fun ρ st => (ma ρ st).bind fun p st1 => (mb ρ st1).bind fun q st2 => ofO (g p q st2)
theorem VQ {g : G2} {Q : VK} (h : tE X (Ylq g ma mb) σ H Q) : tOp (rM X g) (tE X ma) (tE X mb) σ H Q := by
 show 236
 exact ⟨as, ρ, st, en, rp, YlH.bindE h fun p st1 as1 H1 v x rp1 d h1 => ⟨as1, ρ, st1, en.ext x, rp1, YlH.bindE h1 fun q st2 as2 H2 u x2 rp2 d2 h2 => ⟨as2, st2, p, q, rp2, d.ext x2, d2, YlH.ofO h2⟩⟩⟩
theorem Yj {op : Operator} {g : G2} (ho : OpR X (binaryOp op) (rM X g)) (ha : JE X a ma) (hb : JE X b mb) : JE X (.BinOp a op b pos) (Ylq g ma mb) :=
 PE.imp (YkI ho ha hb) fun _ _ _ h => VQ h
theorem YgW {op : CmpOp} {g : G2} (ho : OpR X (compareOp op) (rM X g)) (ha : JE X a ma) (hb : JE X b mb) (hm : behindInMarks op b = false) : JE X (.Compare a [op] [b] pos) (Ylq g ma mb) :=
 PE.imp (YiL ho ha hb hm) fun _ _ _ h => VQ h
def Yl0 (m : ME) : MT := fun ρ st => (m ρ st).bind fun p st1 => match p with
 | .bl c => .ok c st1
 | _ => .bad
theorem Yke {m : ME} {t : TE} (ht : ∀ σ H Q, tE X m σ H Q -> t σ H Q) {Q : Bool -> Hp -> Prop} (h : tT X (Yl0 m) σ H Q) : YoI t σ H Q := by
 show 236
 refine ht _ _ _ ⟨as, ρ, st, en, rp, Ymc.bindE h fun p st1 as1 H1 v x rp1 d h1 => ?_⟩
 cases d with
 | bl => exact ⟨_, rfl, h1 as1 H1 Ext.refl rp1⟩
 | _ => exact False.elim h1
theorem Y6 {op : CmpOp} {g : G2} (ho : OpR X (compareOp op) (rM X g)) (ha : JE X a ma) (hb : JE X b mb) (hm : behindInMarks op b = false) : JT X (.Compare a [op] [b] pos) (Yl0 (Ylq g ma mb)) :=
 PT.imp (YhY ho ha hb hm) fun _ _ _ h => Yke (fun _ _ _ h => VQ h) h
def Ynd (g g' : G2) (ma mb mc : ME) : ME := fun ρ st => (ma ρ st).bind fun p st1 => (mb ρ st1).bind fun q st2 => (ofO (g p q st2)).bind fun z st3 => match z with
 | .bl k => if k = true then (mc ρ st3).bind fun r st4 => ofO (g' q r st4) else .ok (.bl false) st3
 | _ => .bad
theorem Yd5 {g g' : G2} {Q : VK} (h : tE X (Ynd g g' ma mb mc) σ H Q) : Yom (rM X g) (rM X g') (tE X ma) (tE X mb) (tE X mc) σ H Q := by
 show 236
 refine ⟨as, ρ, st, en, rp, YlH.bindE h fun p st1 as1 H1 v x rp1 d h1 => ⟨as1, ρ, st1, en.ext x, rp1, YlH.bindE h1 fun q st2 as2 H2 u x2 rp2 d2 h2 => ⟨as2, st2, p, q, rp2, d.ext x2, d2, ?_⟩⟩⟩
 refine YlH.ofO (ρ := ρ) (YlH.bindE h2 fun z st3 as3 H3 w x3 rp3 d3 h3 => ?_)
 cases d3 with
 | bl =>
  rename_i k
  refine ⟨k, rfl, ?_⟩
  cases k with
  | true =>
   rw [ZAF rfl]
   exact ⟨as3, ρ, st3, ((en.ext x).ext x2).ext x3, rp3, YlH.bindE h3 fun r st4 as4 H4 w' x4 rp4 d4 h4 => ⟨as4, st4, q, r, rp4, (d2.ext x3).ext x4, d4, YlH.ofO h4⟩⟩
  | false =>
   rw [ZAE ZAO]
   exact h3 as3 H3 _ Ext.refl rp3 .bl
 | _ => exact False.elim h3
theorem Ycc {op op' : CmpOp} {g g' : G2} (ho : OpR X (compareOp op) (rM X g)) (ho' : OpR X (compareOp op') (rM X g')) (ha : JE X a ma) (hb : JE X b mb) (hc : JE X c mc)
 (hm : lastMarks [op, op'] [b, c] = false := by with_unfolding_all rfl) : JE X (.Compare a [op, op'] [b, c] pos) (Ynd g g' ma mb mc) := PE.imp (YgI ho ho' ha hb hc hm) fun _ _ _ h => Yd5 h
variable {na nb : MT} {rest : List Expr}
abbrev JW (X : Cx) (e : Expr) (m : MT) : Prop := PW X e (tT X m)
theorem PW.imp {t t' : TT} (h : PW X e t) (i : ∀ σ H Q, t' σ H Q -> t σ H Q) : PW X e t' := fun wh pins s σ H Q I q => h wh pins s σ H Q I (i σ H Q q)
def YmM (na nb : MT) : MT := fun ρ st => (na ρ st).bind fun c st1 => if c = true then nb ρ st1 else .ok false st1
def YoZ (na nb : MT) : MT := fun ρ st => (na ρ st).bind fun c st1 => if c = true then .ok true st1 else nb ρ st1
def Yme (na : MT) : MT := fun ρ st => (na ρ st).bind fun c st1 => .ok (!c) st1
theorem Jy (ha : JT X a na) : JW X (.BoolOp .And [a] pos) na := YhW ha
theorem Yjt (ha : JT X a na) : JW X (.BoolOp .Or [a] pos) na := YjT ha
theorem Yac (ha : JT X a na) (hb : JW X (.BoolOp .And (b :: rest) pos) nb) : JW X (.BoolOp .And (a :: b :: rest) pos) (YmM na nb) :=
 PW.imp (Yko ha hb) fun σ H Q ⟨as, ρ, st, en, rp, h⟩ => ⟨as, ρ, st, en, rp, Ymc.bindB h fun c st1 as1 H1 x rp1 h1 => by
  cases c with
  | true => rw [ZAF rfl] at h1 ⊢; exact ⟨as1, ρ, st1, en.ext x, rp1, h1⟩
  | false => rw [ZAE ZAO] at h1 ⊢; exact h1 as1 H1 Ext.refl rp1⟩
theorem YkO (ha : JT X a na) (hb : JW X (.BoolOp .Or (b :: rest) pos) nb) : JW X (.BoolOp .Or (a :: b :: rest) pos) (YoZ na nb) :=
 PW.imp (YkR ha hb) fun σ H Q ⟨as, ρ, st, en, rp, h⟩ => ⟨as, ρ, st, en, rp, Ymc.bindB h fun c st1 as1 H1 x rp1 h1 => by
  cases c with
  | false => rw [ZAE ZAO] at h1 ⊢; exact ⟨as1, ρ, st1, en.ext x, rp1, h1⟩
  | true => rw [ZAF rfl] at h1 ⊢; exact h1 as1 H1 Ext.refl rp1⟩
theorem Z1 (ha : JT X a na) : JT X (.UnaryOp .Not a pos) (Yme na) :=
 PT.imp (Ykm ha) fun σ H Q ⟨as, ρ, st, en, rp, h⟩ => ⟨as, ρ, st, en, rp, Ymc.bindB h fun c st1 as1 H1 x rp1 h1 => h1 as1 H1 Ext.refl rp1⟩
def YoB (ma mb : ME) : ME := fun ρ st => (ma ρ st).bind fun p st1 => match p with
 | .bl c => if c = true then mb ρ st1 else .ok (.bl false) st1
 | _ => .bad
def eOr (ma mb : ME) : ME := fun ρ st => (ma ρ st).bind fun p st1 => match p with
 | .bl c => if c = true then .ok (.bl true) st1 else mb ρ st1
 | _ => .bad
def YpN (ma : ME) : ME := fun ρ st => (ma ρ st).bind fun p st1 => match p with
 | .bl c => .ok (.bl (!c)) st1
 | _ => .bad
theorem Yi9 {op} (h : JE X a ma) : JE X (.BoolOp op [a] pos) ma := YjA h
theorem YjI (ha : JE X a ma) (hb : JE X (.BoolOp .And (b :: rest) pos) mb) : JE X (.BoolOp .And (a :: b :: rest) pos) (YoB ma mb) :=
 PE.imp (Yjp ha hb) fun σ H Q ⟨as, ρ, st, en, rp, h⟩ => ⟨as, ρ, st, en, rp, YlH.bindE h fun p st1 as1 H1 v x rp1 d h1 => by
  cases d with
  | bl =>
   rename_i c
   refine ⟨c, rfl, ?_⟩
   cases c with
   | true => exact ⟨as1, ρ, st1, en.ext x, rp1, h1⟩
   | false => exact h1 as1 H1 _ Ext.refl rp1 .bl
  | _ => exact False.elim h1⟩
def eIf (nc : MT) (ma mb : ME) : ME := fun ρ st => (nc ρ st).bind fun c st1 => if c = true then ma ρ st1 else mb ρ st1
theorem J4 {nc : MT} (hc : JT X c nc) (ha : JE X a ma) (hb : JE X b mb) : JE X (.IfExp c a b pos) (eIf nc ma mb) :=
 PE.imp (YgE hc ha hb) fun σ H Q ⟨as, ρ, st, en, rp, h⟩ => ⟨as, ρ, st, en, rp, YlH.bindB h fun k st1 as1 H1 x rp1 h1 => by
  cases k with
  | true => exact ⟨as1, ρ, st1, en.ext x, rp1, h1⟩
  | false => exact ⟨as1, ρ, st1, en.ext x, rp1, h1⟩⟩
def cap : Nat := 1000000
def YnD (p : P) (st : Ylo) : Option Bool := match p with
 | .non => some false
 | .bl b => some b
 | .int i => some (i != 0)
 | .str x => if x.length <= cap then some (decide (x.length ≠ 0)) else none
 | .tup xs => some (!xs.isEmpty)
 | .ref k => match st[k]? with
  | some (.lst xs) => some (!xs.isEmpty)
  | some (.ro xs) => some (!xs.isEmpty)
  | some (.dct kvs) => some (!kvs.isEmpty)
  | _ => none
def YlQ (m : ME) : MT := fun ρ st => (m ρ st).bind fun p st1 => match YnD p st1 with
 | some c => .ok c st1
 | none => .bad
theorem Yt : cap <= sizeLine := by rw [sizeLine_eq]; decide
theorem Dens.isEmpty {ps : List P} (h : Dens K as H vs ps) : vs.isEmpty = ps.isEmpty := by cases h <;> rfl
theorem Z8 {a : Addr} (h : (∃ o, H a = some (.frz o (.lst vs))) \/ ∃ (o : Obj) (its : Array Value) (n : Nat), K.lookup a = some o /\ o.cls = .type "list" /\ o.dict = none /\ o.data = .seq its n /\ its.size <= sizeLine /\ Vals vs its.toList) : SqL K H a vs := by
 show 226
 ·exact .inl (.inr h)
 ·exact .inr h
theorem Yiz {k : Bool} (rp : Rep K as st H) (d : Den K as H v p) (h : YnD p st = some k) : YoT K v H k := by
 cases d with
 | non => cases h; rfl
 | bl => cases h; rfl
 | int => cases h; rfl
 | str =>
  rename_i x
  unfold YnD at h
  dsimp only at h
  by_cases hx : x.length <= cap
  ·rw [ZAF hx] at h
   refine ⟨ZAV hx Yt, ?_⟩
   rw [<- Option.some.inj h]
   by_cases hz : x.length = 0
   ·simp [hz]
   ·have : ((x.length : Int) != 0) = true := by simp; omega
    rw [this]; simp [hz]
  ·rw [ZAE hx] at h; cases h
 | ref e =>
  rename_i j a
  unfold YnD at h
  dsimp only at h
  cases q : st[j]? with
  | none => show 171
  | some o =>
   rw [q] at h
   have r := rp.ob j a o e q
   cases o with
   | lst xs => obtain ⟨vs, h1, h2⟩ := r; exact .inl ⟨vs, .of h1, by rw [h2.isEmpty]; exact (Option.some.inj h).symm⟩
   | ro xs => obtain ⟨vs, h1, h2⟩ := r; exact .inl ⟨vs, Z8 h1, by rw [h2.isEmpty]; exact (Option.some.inj h).symm⟩
   | dct kvs =>
    obtain ⟨ws, h1, h2, h3⟩ := r
    refine .inr (.inr ⟨ws, h1, ?_⟩)
    rw [<- Option.some.inj h]
    have := ZBI List.length h2
    cases ws <;> cases kvs <;> first | rfl | simp at this
   | exc c fs => cases h
   | dtt kvs => cases h
   | fdc kvs => cases h
 | @tup a vs ps e r tk =>
  exact .inr (.inl ⟨_, e, by rw [r.isEmpty]; exact (Option.some.inj h).symm⟩)
theorem YA (ha : JE X a ma) (he : ∀ whole, isTrue a X.env whole = (do let v <- whole; standAt a.pos; holding [v] (truthy v))) : JT X a (YlQ ma) :=
 PT.imp (YgC ha he) fun σ H Q ⟨as, ρ, st, en, rp, h⟩ => ⟨as, ρ, st, en, rp, Ymc.bindE h fun p st1 as1 H1 v x rp1 d h1 => by
  cases q : YnD p st1 with
  | none => rw [q] at h1; exact False.elim h1
  | some k => rw [q] at h1; exact ⟨k, Yiz rp1 d q, h1 as1 H1 Ext.refl rp1⟩⟩
variable {es : List Expr}
def Yls : MA := fun _ st => .ok [] st
def Ylm (me : ME) (mr : MA) : MA := fun ρ st => (me ρ st).bind fun p st1 => (mr ρ st1).bind fun ps st2 => .ok (p :: ps) st2
theorem Yc : JA X [] Yls := PA.imp Yad fun σ H Q ⟨as, ρ, st, en, rp, h⟩ => h as H [] Ext.refl rp .nil
theorem Ya (ha : JE X e me) (hr : JA X es mr) (hs : starEach (e :: es) X.env = (false, eval e X.env) :: starEach es X.env := by rfl) : JA X (e :: es) (Ylm me mr) :=
 PA.imp (WW ha hr hs) fun σ H Q ⟨as, ρ, st, en, rp, h⟩ => ⟨as, ρ, st, en, rp, Ymh.bindE h fun p st1 as1 H1 v x rp1 d h1 =>
  ⟨as1, ρ, st1, en.ext x, rp1, Ymh.bindA h1 fun ps st2 as2 H2 vs x2 rp2 d2 h2 => h2 as2 H2 _ Ext.refl rp2 (.cons (d.ext x2) d2)⟩⟩
def Yob (mr : MA) : ME := fun ρ st => (mr ρ st).bind fun ps st1 => if ps.length <= cap then .ok (.tup ps) st1 else .bad
theorem Ydc {x1} (h : JA X es mr) : JE X (.Tuple es x1 pos) (Yob mr) :=
 PE.imp (YjQ h) fun σ H Q ⟨as, ρ, st, en, rp, h⟩ => ⟨as, ρ, st, en, rp, YlH.bindA h fun ps st1 as1 H1 vs x rp1 d h1 => by
  by_cases hl : ps.length <= cap
  ·rw [ZAF hl] at h1
   exact ⟨by rw [d.length]; exact ZAV hl Yt, fun p hp => h1 as1 _ _ (Ext.laid hp) (rp1.laid hp) (.tup (.of Yn) (d.ext (Ext.laid hp)))⟩
  ·rw [ZAE hl] at h1; exact False.elim h1⟩
def lMk (mr : MA) : MA := fun ρ st => (mr ρ st).bind fun ps st1 => if ps.length <= cap then .ok ps st1 else .bad
theorem Zj (h : JA X es mr) : JL X (.List es pos) (lMk mr) :=
 PE.imp (Yjr h) fun σ H Q ⟨as, ρ, st, en, rp, h⟩ => ⟨as, ρ, st, en, rp, by
  unfold lMk at h
  cases q : mr ρ st with
  | bad => show 172
  | exc k st' => show 172
  | ok ps st1 =>
   rw [q] at h
   intro as1 H1 vs x rp1 d
   by_cases hl : ps.length <= cap
   ·rw [R.bind_ok, ZAF hl] at h
    exact ⟨by rw [d.length]; exact ZAV hl Yt, fun p hp => h as1 _ p vs (x.trans (Ext.laid hp)) (rp1.laid hp) Yn (rp1.fresh hp) (d.ext (Ext.laid hp))⟩
   ·rw [R.bind_ok, ZAE hl] at h; exact False.elim h⟩
def Ymo (m : MA) : ME := fun ρ st => (m ρ st).bind fun ps st1 => .ok (.ref st1.length) (st1 ++ [.lst ps])
theorem YM {m : MA} (h : JL X e m) : JE X e (Ymo m) :=
 PE.imp h fun σ H Q ⟨as, ρ, st, en, rp, h⟩ => ⟨as, ρ, st, en, rp, YlH.bindL h fun ps st1 as1 H1 l vs x rp1 hl fr d h1 =>
  h1 (as1 ++ [l]) H1 (.ref l) Ext.add (rp1.add fr ⟨vs, hl, d.ext Ext.add⟩) (.ref (by rw [<- rp1.len]; exact Vg))⟩
end
section
theorem opM {f : Value -> Value -> Sem Value} {g : G2} (h : ∀ pins s σ H x y v u Q as st p q, Inv X pins σ H s -> RelV x v -> RelV y u -> Rep X.K as st H -> Den X.K as H x p -> Den X.K as H y q -> YlG X as H (g p q st) Q ->
 wpAny (model X.prog X.w) X.A (f v u) (EP X pins σ Q) X.xe s) : OpR X f (rM X g) :=
 fun pins s σ H x y v u Q I rx ry ⟨as, st, p, q, rp, d1, d2, po⟩ => h pins s σ H x y v u Q as st p q I rx ry rp d1 d2 po
def okP (p : P) (st : Ylo) : Option (P × Ylo) := some (p, st)
def Ynm (xs : List P) (st : Ylo) : Option (P × Ylo) := if xs.length <= cap then some (.ref st.length, st ++ [.lst xs]) else none
def YlM (st : Ylo) (k : Nat) : Option (List P) := match st[k]? with
 | some (.lst xs) => some xs
 | _ => none
def Yl4 (p : P) (st : Ylo) : Option (List P) := match p with
 | .tup xs => some xs
 | .ref k => match st[k]? with
  | some (.lst xs) => some xs
  | some (.ro xs) => some xs
  | _ => none
 | _ => none
theorem Vj (rp : Rep K as st H) (d : Den K as H v (.ref k)) (h : YlM st k = some xs) :
 ∃ a vs, v = .ref a /\ as[k]? = some a /\ st[k]? = some (.lst xs) /\ H a = some (.lst vs) /\ Dens K as H vs xs := by
 unfold YlM at h
 cases d with
 | ref e =>
  rename_i a
  cases q : st[k]? with
  | none => show 171
  | some o =>
   rw [q] at h
   cases o with
   | lst ys =>
    cases h
    obtain ⟨vs, h1, h2⟩ := rp.ob k a _ e q
    exact ⟨a, vs, rfl, e, rfl, h1, h2⟩
   | ro ys => cases h
   | dct ys => cases h
   | exc c ys => cases h
   | dtt kvs => cases h
   | fdc kvs => cases h
theorem Ydm (rp : Rep K as st H) (d : Den K as H v p) (h : Yl4 p st = some xs) :
 ∃ a vs, v = .ref a /\ (SqL K H a vs \/ SqT K H a vs) /\ Dens K as H vs xs := by
 unfold Yl4 at h
 cases d with
 | ref e =>
  rename_i k a
  simp only at h
  cases q : st[k]? with
  | none => show 171
  | some o =>
   rw [q] at h
   have ob := rp.ob k a _ e q
   cases o with
   | lst ys =>
    show 65
    exact ⟨a, vs, rfl, .inl (.of h1), h2⟩
   | ro ys =>
    show 65
    exact ⟨a, vs, rfl, .inl (Z8 h1), h2⟩
   | dct ys => cases h
   | exc c ys => cases h
   | dtt kvs => cases h
   | fdc kvs => cases h
 | tup e r => cases h; exact ⟨_, _, rfl, .inr e, r⟩
 | _ => cases h
theorem YhZ (rp : Rep K as st H) (d : Den K as H v p) (h : Yl4 p st = some xs) :
 ∃ a vs, v = .ref a /\ (SqL K H a vs \/ SqT K H a vs /\ H a = some (.tup vs)) /\ Dens K as H vs xs := by
 unfold Yl4 at h
 cases d with
 | ref e =>
  rename_i k a
  simp only at h
  cases q : st[k]? with
  | none => show 171
  | some o =>
   rw [q] at h
   have ob := rp.ob k a _ e q
   cases o with
   | lst ys =>
    show 65
    exact ⟨a, vs, rfl, .inl (.of h1), h2⟩
   | ro ys =>
    show 65
    exact ⟨a, vs, rfl, .inl (Z8 h1), h2⟩
   | dct ys => cases h
   | exc c ys => cases h
   | dtt kvs => cases h
   | fdc kvs => cases h
 | tup e r tk => cases h; exact ⟨_, _, rfl, .inr ⟨e, tk⟩, r⟩
 | _ => cases h
theorem VX {Q : VK} {l : Addr} (rp : Rep X.K as st H) (d : Dens X.K as H vs xs) (h : YlG X as H (Ynm xs st) Q) (hl : H l = none) : Q (.ref l) (upd H l (.lst vs)) := by
 unfold Ynm at h
 by_cases z : xs.length <= cap
 ·rw [ZAF z] at h
  exact h (as ++ [l]) _ _ (Ext.new hl) (rp.lnew hl d) (.ref (by rw [<- rp.len]; exact Vg))
 ·rw [ZAE z] at h; exact h.elim
theorem YfU {Q : VK} (h : YlG X as H (Ynm xs st) Q) : xs.length <= sizeLine := by
 unfold Ynm at h
 by_cases z : xs.length <= cap
 ·exact ZAV z Yt
 ·rw [ZAE z] at h; exact h.elim
def Yl1 : G2 := fun p q st => match p, q with
 | .int i, .int j => okP (.int (i + j)) st
 | .str x, .str y => if x.length + y.length <= cap then okP (.str (x ++ y)) st else none
 | .tup xs, .tup ys => if xs.length + ys.length <= cap then okP (.tup (xs ++ ys)) st else none
 | .ref k, .ref l => match YlM st k, YlM st l with
  | some xs, some ys => Ynm (xs ++ ys) st
  | _, _ => none
 | _, _ => none
theorem Yz : OpR X (binaryOp .Add) (rM X Yl1) := opM fun pins s σ H x y v u Q as st p q I rx ry rp d1 d2 h => by
 cases d1 with
 | int =>
  cases d2 with
  | int => exact Ykr pins s σ H _ _ v u Q I rx ry ⟨_, _, rfl, rfl, h as H _ Ext.refl rp .int⟩
  | _ => show 144
 | str =>
  rename_i x
  cases d2 with
  | str =>
   rename_i y
   have h' : YlG X as H (if x.length + y.length <= cap then okP (.str (x ++ y)) st else none) Q := h
   by_cases z : x.length + y.length <= cap
   ·rw [ZAF z] at h'
    exact Yde pins s σ H _ _ v u Q I rx ry ⟨_, _, rfl, rfl, ZAV z Yt, h' as H _ Ext.refl rp .str⟩
   ·show 199
  | _ => show 144
 | @tup a vs xs e r tk =>
  cases d2 with
  | @tup b ws ys e2 r2 tk =>
   have h' : YlG X as H (if xs.length + ys.length <= cap then okP (.tup (xs ++ ys)) st else none) Q := h
   by_cases z : xs.length + ys.length <= cap
   ·rw [ZAF z] at h'
    show 105
    obtain ⟨its, r1, p1, _⟩ := I.tuple e
    obtain ⟨its2, r3, p2, _⟩ := I.tuple e2
    obtain ⟨⟨cls, dd, data, sl⟩, ho, hc, n, hd⟩ := id p1
    obtain ⟨⟨cls2, dd2, data2, sl2⟩, ho2, hc2, n2, hd2⟩ := id p2
    simp only at hc hd hc2 hd2
    subst hc hd hc2 hd2
    by_cases hv : its = []
    ·have hz : xs = [] := List.eq_nil_of_length_eq_zero (by rw [<- r.length, r1.length, hv]; rfl)
     subst hz
     exact concat_meets ⟨_, ho, rfl⟩ ⟨_, ho2, rfl⟩ noFill_tuple_add seq_tuple_add PySem.F.slot_tuple_add PySem.F.entry_tuple_add (PySem.F.args_tuple_add_2 _ _)
      (tuple_addW0 a b its.toArray its2.toArray n n2 dd dd2 sl sl2 (by simp [hv])) ⟨ho, ho2, ⟨.ref b, H, I, rfl, h' as H _ Ext.refl rp (.tup e2 r2)⟩⟩
    ·refine Yia pins s σ H (.ref a) (.ref b) _ _ Q I rfl rfl ⟨a, b, vs, ws, rfl, rfl, e, e2, fun w => hv (r1.nil_iff.mpr w), ?_, fun w => ?_, fun _ p hp => ?_⟩
     ·rw [r.length, r2.length]; exact ZAV z Yt
     ·subst w
      cases r2
      refine h' as H _ Ext.refl rp ?_
      rw [ZBu]
      exact .tup e r
     ·exact h' as _ _ (Ext.laid hp) (rp.laid hp) (.tup (.of Yn) ((r.append r2).ext (Ext.laid hp)))
   ·show 199
  | _ => show 144
 | ref e =>
  rename_i k a
  cases d2 with
  | ref e2 =>
   rename_i l b
   have h' : YlG X as H (match YlM st k, YlM st l with | some xs, some ys => Ynm (xs ++ ys) st | _, _ => none) Q := h
   cases q1 : YlM st k with
   | none => rw [q1] at h'; exact h'.elim
   | some xs =>
    cases q2 : YlM st l with
    | none => rw [q1, q2] at h'; exact h'.elim
    | some ys =>
     rw [q1, q2] at h'
     obtain ⟨a', vs, z1, _, _, h1, h2⟩ := Vj rp (.ref e) q1
     obtain ⟨b', ws, z2, _, _, h3, h4⟩ := Vj rp (.ref e2) q2
     cases z1; cases z2
     have hn := YfU h'
     rw [ZAJ] at hn
     exact Yj8 pins s σ H _ _ v u Q I rx ry ⟨a, b, vs, ws, rfl, rfl, h1, h3, by rw [h2.length, h4.length]; exact hn, fun p hp => VX rp (h2.append h4) h' hp⟩
  | _ => show 144
 | _ => show 144
def You : G2 := fun p q st => match p, q with
 | .int i, .int j => okP (.int (i - j)) st
 | _, _ => none
theorem Ygy : OpR X (binaryOp .Sub) (rM X You) := opM fun pins s σ H x y v u Q as st p q I rx ry rp d1 d2 h => by
 cases d1 with
 | int =>
  cases d2 with
  | int => exact Yi5 pins s σ H _ _ v u Q I rx ry ⟨_, _, rfl, rfl, h as H _ Ext.refl rp .int⟩
  | _ => show 144
 | _ => show 144
def small64 (i : Int) : Bool := decide (-(2 ^ 64) < i) && decide (i < 2 ^ 64)
def YoV : G2 := fun p q st => match p, q with
 | .int i, .int j => if (small64 i || small64 j) = true then okP (.int (i * j)) st else none
 | _, _ => none
theorem Yjb : OpR X (binaryOp .Mult) (rM X YoV) := opM fun pins s σ H x y v u Q as st p q I rx ry rp d1 d2 h => by
 cases d1 with
 | int =>
  rename_i i
  cases d2 with
  | int =>
   rename_i j
   have h' : YlG X as H (if (small64 i || small64 j) = true then okP (.int (i * j)) st else none) Q := h
   by_cases z : (small64 i || small64 j) = true
   ·rw [ZAF z] at h'
    refine Yjz pins s σ H _ _ v u Q I rx ry ⟨_, _, rfl, rfl, ?_, h' as H _ Ext.refl rp .int⟩
    unfold small64 at z
    rcases Bool.or_eq_true_iff.mp z with w | w
    ·exact .inl ⟨ZBA (ZBJ.mp w).1, ZBA (ZBJ.mp w).2⟩
    ·exact .inr ⟨ZBA (ZBJ.mp w).1, ZBA (ZBJ.mp w).2⟩
   ·show 199
  | _ => show 144
 | _ => show 144
def YmS : G2 := fun p q st => match p, q with
 | .int i, .int j => if 0 < j /\ j < 1073741824 then okP (.int (i / j)) st else none
 | _, _ => none
theorem WX : OpR X (binaryOp .FloorDiv) (rM X YmS) := opM fun pins s σ H x y v u Q as st p q I rx ry rp d1 d2 h => by
 cases d1 with
 | int =>
  rename_i i
  cases d2 with
  | int =>
   rename_i j
   have h' : YlG X as H (if 0 < j /\ j < 1073741824 then okP (.int (i / j)) st else none) Q := h
   by_cases z : 0 < j /\ j < 1073741824
   ·rw [ZAF z] at h'
    exact YhH pins s σ H _ _ v u Q I rx ry ⟨_, _, rfl, rfl, z, h' as H _ Ext.refl rp .int⟩
   ·show 199
  | _ => show 144
 | _ => show 144
def Yms : G2 := fun p q st => match p, q with
 | .int i, .int j => if 0 < j then okP (.int (i % j)) st else none
 | _, _ => none
theorem YO : OpR X (binaryOp .Mod) (rM X Yms) := opM fun pins s σ H x y v u Q as st p q I rx ry rp d1 d2 h => by
 cases d1 with
 | int =>
  rename_i i
  cases d2 with
  | int =>
   rename_i j
   have h' : YlG X as H (if 0 < j then okP (.int (i % j)) st else none) Q := h
   by_cases z : 0 < j
   ·rw [ZAF z] at h'
    exact YjU pins s σ H _ _ v u Q I rx ry ⟨_, _, rfl, rfl, z, h' as H _ Ext.refl rp .int⟩
   ·show 199
  | _ => show 144
 | _ => show 144
def Ym9 (x y : Str) : Bool := decide (x.cps.toList < y.cps.toList)
def ltP : G2 := fun p q st => match p, q with
 | .int i, .int j => okP (.bl (decide (i < j))) st
 | .str x, .str y => okP (.bl (Ym9 x y)) st
 | _, _ => none
def leP : G2 := fun p q st => match p, q with
 | .int i, .int j => okP (.bl (decide (i <= j))) st
 | .str x, .str y => okP (.bl (!Ym9 y x)) st
 | _, _ => none
def gtP : G2 := fun p q st => match p, q with
 | .int i, .int j => okP (.bl (decide (j < i))) st
 | _, _ => none
def geP : G2 := fun p q st => match p, q with
 | .int i, .int j => okP (.bl (decide (j <= i))) st
 | _, _ => none
theorem YiS : OpR X (compareOp .Lt) (rM X ltP) := opM fun pins s σ H x y v u Q as st p q I rx ry rp d1 d2 h => by
 cases d1 with
 | int =>
  cases d2 with
  | int => exact YkK pins s σ H _ _ v u Q I rx ry ⟨_, _, rfl, rfl, h as H _ Ext.refl rp .bl⟩
  | _ => show 144
 | str =>
  cases d2 with
  | str => exact YeE pins s σ H _ _ v u Q I rx ry ⟨_, _, rfl, rfl, h as H _ Ext.refl rp .bl⟩
  | _ => show 144
 | _ => show 144
theorem YdP : OpR X (compareOp .LtE) (rM X leP) := opM fun pins s σ H x y v u Q as st p q I rx ry rp d1 d2 h => by
 cases d1 with
 | int =>
  cases d2 with
  | int => exact Yk1 pins s σ H _ _ v u Q I rx ry ⟨_, _, rfl, rfl, h as H _ Ext.refl rp .bl⟩
  | _ => show 144
 | str =>
  cases d2 with
  | str =>
   show 23
   exact PySem.P.le_str ⟨.bl _, H, I, rfl, h as H _ Ext.refl rp .bl⟩
  | _ => show 144
 | _ => show 144
def Yot : P -> Bool
 | .non => true
 | _ => false
def isP : G2 := fun p q st => match q with
 | .non => okP (.bl (Yot p)) st
 | _ => none
theorem YiG (d : Den K as H v p) : decide (v = .non) = Yot p := by
 cases d <;> simp [Yot]
theorem Yfs : OpR X (compareOp .Is) (rM X isP) := opM fun pins s σ H x y v u Q as st p q I rx ry rp d1 d2 h => by
 cases d2 with
 | non => exact Yjn pins s σ H _ _ v u Q I rx ry ⟨rfl, by rw [YiG d1]; exact h as H _ Ext.refl rp .bl⟩
 | _ => show 144
end
def RS.ofE {α : Type} (ρ : Rho) (r : R α) (f : α -> Ylo -> RS) : RS := match r with
 | .ok p st => f p st
 | .exc k st => .exc k ρ st
 | .bad => .bad
@[simp] theorem RS.ofE_ok {α : Type} {ρ : Rho} {p : α} {st : Ylo} {f : α -> Ylo -> RS} : RS.ofE ρ (.ok p st) f = f p st := rfl
@[simp] theorem RS.ofE_exc {α : Type} {ρ : Rho} {k : Xc} {st : Ylo} {f : α -> Ylo -> RS} : RS.ofE ρ (.exc k st) f = .exc k ρ st := rfl
@[simp] theorem RS.ofE_bad {α : Type} {ρ : Rho} {f : α -> Ylo -> RS} : RS.ofE ρ .bad f = .bad := rfl
def Yl8 : MS := fun ρ st => .nx ρ st
def RS.seq (r : RS) (m : MS) : RS := match r with
 | .nx ρ st => m ρ st
 | r => r
@[simp] theorem RS.seq_nx {ρ : Rho} {st : Ylo} {m : MS} : (RS.nx ρ st).seq m = m ρ st := rfl
@[simp] theorem RS.seq_rt {p : P} {st : Ylo} {m : MS} : (RS.rt p st).seq m = .rt p st := rfl
@[simp] theorem RS.seq_bk {ρ : Rho} {st : Ylo} {m : MS} : (RS.bk ρ st).seq m = .bk ρ st := rfl
@[simp] theorem RS.seq_ct {ρ : Rho} {st : Ylo} {m : MS} : (RS.ct ρ st).seq m = .ct ρ st := rfl
@[simp] theorem RS.seq_exc {k : Xc} {ρ : Rho} {st : Ylo} {m : MS} : (RS.exc k ρ st).seq m = .exc k ρ st := rfl
@[simp] theorem RS.seq_bad {m : MS} : RS.bad.seq m = .bad := rfl
def Ylt (m1 m2 : MS) : MS := fun ρ st => (m1 ρ st).seq m2
section
variable {a b : Expr} {ma : ME} {s : Stmt} {rest ss tt : List Stmt} {m m1 m2 : MS} {nc : MT}
theorem YlJ.ofE {r : R P} {f : P -> Ylo -> RS} {D : Ends} (h : YlJ X as H (RS.ofE ρ r f) D)
 (go : ∀ p st1 as1 H1 v, Ext as H as1 H1 -> Rep X.K as1 st1 H1 -> Den X.K as1 H1 v p -> YlJ X as1 H1 (f p st1) D -> Q' v H1) : YlH X as H ρ r Q' := by
 cases r with
 | ok p st1 => exact fun as1 H1 v x rp d => go p st1 as1 H1 v x rp d (YlJ.ext x h)
 | exc k st' => exact h
 | bad => exact h
theorem YlJ.ofB {r : R Bool} {f : Bool -> Ylo -> RS} {D : Ends} {Q' : Bool -> Hp -> Prop} (h : YlJ X as H (RS.ofE ρ r f) D)
 (go : ∀ b st1 as1 H1, Ext as H as1 H1 -> Rep X.K as1 st1 H1 -> YlJ X as1 H1 (f b st1) D -> Q' b H1) : Ymc X as H ρ r Q' := by
 cases r with
 | ok p st1 => exact fun as1 H1 x rp => go p st1 as1 H1 x rp (YlJ.ext x h)
 | exc k st' => exact h
 | bad => exact h
theorem Yv : JSs X [] Yl8 := PSs.imp YiA fun D σ H ⟨as, ρ, st, en, rp, h⟩ => h as H σ Ext.refl rp en
theorem YlJ.seq {r : RS} {m : MS} {D : Ends} (h : YlJ X as H (r.seq m) D) : YlJ X as H r { D with nx := tS X m D } := by
 cases r with
 | nx ρ st => exact fun as' H' σ' x rp en => ⟨as', ρ, st, en, rp, YlJ.ext x h⟩
 | rt p st => exact h
 | bk ρ st => exact h
 | ct ρ st => exact h
 | exc k ρ st => exact h
 | bad => exact h
theorem Yb (h1 : JS X s m1) (h2 : JSs X rest m2) : JSs X (s :: rest) (Ylt m1 m2) :=
 PSs.imp (Ygc h1 h2) fun D σ H ⟨as, ρ, st, en, rp, h⟩ => ⟨as, ρ, st, en, rp, YlJ.seq h⟩
theorem Yd (h1 : JS X s m1) : JSs X [s] m1 := YiC h1
def sRet (me : ME) : MS := fun ρ st => RS.ofE ρ (me ρ st) fun p st1 => .rt p st1
def Ypg : MS := fun _ st => .rt .non st
def sDrop (me : ME) : MS := fun ρ st => RS.ofE ρ (me ρ st) fun _ st1 => .nx ρ st1
def YlB (i : Nat) (me : ME) : MS := fun ρ st => RS.ofE ρ (me ρ st) fun p st1 => .nx (ρ.set i (some p)) st1
def sIf (nc : MT) (m1 m2 : MS) : MS := fun ρ st => RS.ofE ρ (nc ρ st) fun c st1 => if c = true then m1 ρ st1 else m2 ρ st1
def Yo1 : MS := fun ρ st => .bk ρ st
def Yo6 : MS := fun ρ st => .ct ρ st
theorem Yp (he : JE X e me) : JS X (.Return (some e) pos) (sRet me) :=
 PS.imp (Ykp he) fun D σ H ⟨as, ρ, st, en, rp, h⟩ => ⟨as, ρ, st, en, rp, YlJ.ofE h fun p st1 as1 H1 v x rp1 d h1 => h1 as1 H1 v Ext.refl rp1 d⟩
theorem Zg (he : JE X e me) (hs : swapsWith e none pos.line X.env = pure false := by rfl) : JS X (.Expr e pos) (sDrop me) :=
 PS.imp (Yih he hs) fun D σ H ⟨as, ρ, st, en, rp, h⟩ => ⟨as, ρ, st, en, rp, YlJ.ofE h fun p st1 as1 H1 v x rp1 d h1 => h1 as1 H1 σ Ext.refl rp1 (en.ext x)⟩
theorem Yi {pos' : Pos} (hN : X.N.Nodup) (hi : X.N[i]? = some x) (hx : Loc X.env.scope x) (he : JE X e me) (hs : swapsWith e (some (.Name x pos')) pos.line X.env = pure false := by rfl) (hf : X.fn x = true \/ X.env.scope.names.lookup x = some .local := by first | exact .inl rfl | exact .inr rfl | assumption) :
 JS X (.Assign [.Name x pos'] e pos) (YlB i me) :=
 PS.imp (YjL hN hi hx he hs hf) fun D σ H ⟨as, ρ, st, en, rp, h⟩ => ⟨as, ρ, st, en, rp, YlJ.ofE h fun p st1 as1 H1 v x rp1 d h1 => h1 as1 H1 _ Ext.refl rp1 ((en.ext x).set d)⟩
theorem YK (hc : JT X c nc) (h1 : JSs X ss m1) (h2 : JSs X tt m2) : JS X (.If c ss tt pos) (sIf nc m1 m2) :=
 PS.imp (Ykz hc h1 h2) fun D σ H ⟨as, ρ, st, en, rp, h⟩ => ⟨as, ρ, st, en, rp, YlJ.ofB h fun k st1 as1 H1 x rp1 h1 => by
  cases k with
  | true => rw [ZAF rfl] at h1 ⊢; exact ⟨as1, ρ, st1, en.ext x, rp1, h1⟩
  | false => rw [ZAE ZAO] at h1 ⊢; exact ⟨as1, ρ, st1, en.ext x, rp1, h1⟩⟩
def Yl7 (nc : MT) (m : MS) : Nat -> Rho -> Ylo -> RS
 | 0, _, _ => .bad
 | n + 1, ρ, st => RS.ofE ρ (nc ρ st) fun c st1 => if c = true then
  match m ρ st1 with
  | .nx ρ' st' => Yl7 nc m n ρ' st'
  | .ct ρ' st' => Yl7 nc m n ρ' st'
  | .bk ρ' st' => .nx ρ' st'
  | r => r
  else .nx ρ st1
def turns : Nat := 1000000
def YmZ (nc : MT) (m : MS) : MS := Yl7 nc m turns
theorem Yb1 (hp : PassesOwn (model X.prog X.w) X.A X.env X.xe) (hc : JT X c nc) (hb : JSs X ss m) : JS X (.While c ss [] pos) (YmZ nc m) :=
 PS.imp (Yga hp hc hb) fun D σ H ⟨as, ρ, st, en, rp, h⟩ => by
  refine ⟨fun n σ H => ∃ as ρ st, YlI X.K as H ρ σ /\ Rep X.K as st H /\ YlJ X as H (Yl7 nc m n ρ st) D, ⟨turns, as, ρ, st, en, rp, h⟩, ?_⟩
  rintro n σ H ⟨as, ρ, st, en, rp, h⟩
  cases n with
  | zero => show 144
  | succ n =>
   refine ⟨as, ρ, st, en, rp, YlJ.ofB h fun k st1 as1 H1 x rp1 h1 => ?_⟩
   cases k with
   | false => rw [ZAE ZAO] at h1 ⊢; exact h1 as1 H1 σ Ext.refl rp1 (en.ext x)
   | true =>
    rw [ZAF rfl] at h1 ⊢
    refine ⟨fun σ' H' => ∃ as ρ st, YlI X.K as H' ρ σ' /\ Rep X.K as st H' /\ YlJ X as H' (Yl7 nc m n ρ st) D, fun σ' H' q => ⟨n, ZAx n, q⟩, as1, ρ, st1, en.ext x, rp1, ?_⟩
    cases q : m ρ st1 with
    | nx ρ' st' => rw [q] at h1; exact fun as' H' σ' x rp en => ⟨as', ρ', st', en, rp, YlJ.ext x h1⟩
    | ct ρ' st' => rw [q] at h1; exact fun as' H' σ' x rp en => ⟨as', ρ', st', en, rp, YlJ.ext x h1⟩
    | bk ρ' st' => rw [q] at h1; exact h1
    | rt p st' => rw [q] at h1; exact h1
    | exc k ρ' st' => rw [q] at h1; exact h1
    | bad => rw [q] at h1; exact h1
abbrev MG := P -> Rho -> Ylo -> Option Rho
abbrev MGs := List P -> Rho -> Ylo -> Option Rho
def tG (X : Cx) (g : MG) : TG := fun v σ H Q => ∃ as ρ st p ρ', YlI X.K as H ρ σ /\ Rep X.K as st H /\ Den X.K as H v p /\ g p ρ st = some ρ' /\ ∀ σ', YlI X.K as H ρ' σ' -> Q σ' H
def tGs (X : Cx) (g : MGs) : TGs := fun vs σ H Q => ∃ as ρ st ps ρ', YlI X.K as H ρ σ /\ Rep X.K as st H /\ Dens X.K as H vs ps /\ g ps ρ st = some ρ' /\ ∀ σ', YlI X.K as H ρ' σ' -> Q σ' H
abbrev JG (X : Cx) (t : Expr) (g : MG) : Prop := PG X t (tG X g)
abbrev JGs (X : Cx) (ts : List Expr) (g : MGs) : Prop := PGs X ts (tGs X g)
theorem PG.imp {t t' : TG} (h : PG X e t) (i : ∀ v σ H Q, t' v σ H Q -> t v σ H Q) : PG X e t' := fun pins s σ H v u Q I r q => h pins s σ H v u Q I r (i v σ H Q q)
theorem PGs.imp {es : List Expr} {t t' : TGs} (h : PGs X es t) (i : ∀ v σ H Q, t' v σ H Q -> t v σ H Q) : PGs X es t' := fun pins s σ H v u Q I r q => h pins s σ H v u Q I r (i v σ H Q q)
def Ylp (i : Nat) : MG := fun p ρ _ => some (ρ.set i (some p))
def Ymg : MGs := fun ps ρ _ => match ps with
 | [] => some ρ
 | _ => none
def YlD (g : MG) (r : MGs) : MGs := fun ps ρ st => match ps with
 | p :: qs => (g p ρ st).bind fun ρ1 => r qs ρ1 st
 | [] => none
theorem Yo (hN : X.N.Nodup) (hi : X.N[i]? = some x) (hx : Loc X.env.scope x) (hf : X.fn x = true \/ X.env.scope.names.lookup x = some .local := by first | exact .inl rfl | exact .inr rfl | assumption) : JG X (.Name x pos) (Ylp i) :=
 PG.imp (Yin hN hi hx hf) fun v σ H Q ⟨as, ρ, st, p, ρ', en, rp, d, g, h⟩ => by cases g; exact h _ (en.set d)
theorem Wt : JGs X [] Ymg := PGs.imp YhP fun vs σ H Q ⟨as, ρ, st, ps, ρ', en, rp, d, g, h⟩ => by
 cases d with
 | nil => cases g; exact ⟨rfl, h _ en⟩
 | cons a b => cases g
theorem YD {es : List Expr} {g : MG} {r : MGs} (h1 : JG X e g) (h2 : JGs X es r) (hs : (assignEach (e :: es) X.env).map (·.2) = assign e X.env :: (assignEach es X.env).map (·.2) := by rfl) : JGs X (e :: es) (YlD g r) :=
 PGs.imp (Ygx h1 h2 hs) fun vs σ H Q ⟨as, ρ, st, ps, ρ', en, rp, d, q, h⟩ => by
  cases d with
  | nil => cases q
  | @cons v p vs ps a b =>
   have q' : (g p ρ st).bind (fun ρ1 => r ps ρ1 st) = some ρ' := q
   cases z : g p ρ st with
   | none => rw [z] at q'; cases q'
   | some ρ1 =>
    rw [z] at q'
    exact ⟨v, vs, rfl, as, ρ, st, p, ρ1, en, rp, a, z, fun σ' en' => ⟨as, ρ1, st, ps, ρ', en', rp, b, q', h⟩⟩
structure Src where
 n : Nat
 nx : Nat -> Ylo -> Option (Option P)
abbrev MI := Rho -> Ylo -> R Src
structure Ynw (K : Frag) (as : List Addr) (H : Hp) (src : Src) (J : It) : Prop where
 go : ∀ i as2 st2 H2 p, Ext as H as2 H2 -> Rep K as2 st2 H2 -> src.nx i st2 = some (some p) -> J.go i H2 /\ ∀ x H3, J.yld i H2 x H3 -> Ext as2 H2 as2 H3 /\ Rep K as2 st2 H3 /\ Den K as2 H3 x p
 stop : ∀ i as2 st2 H2, Ext as H as2 H2 -> Rep K as2 st2 H2 -> src.nx i st2 = some none -> J.stop i H2
def YlZ (X : Cx) (as : List Addr) (H : Hp) (ρ : Rho) (r : R Src) (Q : It -> Hp -> Prop) : Prop :=
 match r with
 | .ok src st' => ∀ as' H' J, Ext as H as' H' -> Rep X.K as' st' H' -> Ynw X.K as' H' src J -> Q J H'
 | .exc k st' => XOk X as H ρ k st'
 | .bad => False
def tI (X : Cx) (m : MI) : TI := fun σ H R => ∃ as ρ st, YlI X.K as H ρ σ /\ Rep X.K as st H /\ YlZ X as H ρ (m ρ st) R
abbrev JI (X : Cx) (tg iter : Expr) (m : MI) : Prop := PI X tg iter (tI X m)
def Ymb (src : Src) (g : MG) (m : MS) : Nat -> Nat -> Rho -> Ylo -> RS
 | 0, i, ρ, st => match src.nx i st with
  | some none => .nx ρ st
  | _ => .bad
 | n + 1, i, ρ, st => match src.nx i st with
  | some none => .nx ρ st
  | none => .bad
  | some (some p) => match g p ρ st with
   | none => .bad
   | some ρ1 => match m ρ1 st with
    | .nx ρ' st' => Ymb src g m n (i + 1) ρ' st'
    | .ct ρ' st' => Ymb src g m n (i + 1) ρ' st'
    | .bk ρ' st' => .nx ρ' st'
    | r => r
def sFor (mi : MI) (g : MG) (m : MS) : MS := fun ρ st => RS.ofE ρ (mi ρ st) fun src st1 => Ymb src g m src.n 0 ρ st1
theorem YJ {mi : MI} {g : MG} (hp : PassesOwn (model X.prog X.w) X.A X.env X.xe) (hc : X.calm = true) (hi : JI X tg iter mi) (hg : JG X tg g) (hb : JSs X ss m)
 (hs : ∀ x, foldedSetIterable iter X.env x = pure x := by intro _; rfl) : JS X (.For tg iter ss [] pos) (sFor mi g m) :=
 PS.imp (Ykf hp hc hi hg hb hs) fun D σ H ⟨as, ρ, st, en, rp, h⟩ => by
  refine ⟨as, ρ, st, en, rp, ?_⟩
  unfold sFor at h
  cases q : mi ρ st with
  | bad => show 172
  | exc k st' => show 172
  | ok src st1 =>
   rw [q] at h
   intro as1 H1 J x rp1 ok
   have h1 : YlJ X as1 H1 (Ymb src g m src.n 0 ρ st1) D := YlJ.ext x h
   refine ⟨fun i n σ H => ∃ as ρ st, Ext as1 H1 as H /\ YlI X.K as H ρ σ /\ Rep X.K as st H /\ YlJ X as H (Ymb src g m n i ρ st) D, ⟨src.n, as1, ρ, st1, Ext.refl, en.ext x, rp1, h1⟩, ?_⟩
   rintro i n σ H ⟨as2, ρ, st2, x2, en, rp2, h⟩
   have stopC : src.nx i st2 = some none -> YlJ X as2 H (.nx ρ st2) D -> J.stop i H /\ D.nx σ H := fun e p => ⟨ok.stop i as2 st2 H x2 rp2 e, p as2 H σ Ext.refl rp2 en⟩
   cases n with
   | zero =>
    cases e : src.nx i st2 with
    | none => simp only [Ymb, e] at h; exact h.elim
    | some o =>
     cases o with
     | some p => simp only [Ymb, e] at h; exact h.elim
     | none => simp only [Ymb, e] at h; exact .inl (stopC e h)
   | succ n =>
    cases e : src.nx i st2 with
    | none => simp only [Ymb, e] at h; exact h.elim
    | some o =>
     cases o with
     | none => simp only [Ymb, e] at h; exact .inl (stopC e h)
     | some p =>
      obtain ⟨g1, g2⟩ := ok.go i as2 st2 H p x2 rp2 e
      cases z : g p ρ st2 with
      | none => simp only [Ymb, e, z] at h; exact h.elim
      | some ρ1 =>
       simp only [Ymb, e, z] at h
       refine .inr ⟨g1, fun σ' H' => ∃ as ρ st, Ext as1 H1 as H' /\ YlI X.K as H' ρ σ' /\ Rep X.K as st H' /\ YlJ X as H' (Ymb src g m n (i + 1) ρ st) D, fun σ' H' q => ⟨n, ZAx n, q⟩, fun v H3 y => ?_⟩
       obtain ⟨x3, rp3, d⟩ := g2 v H3 y
       refine ⟨as2, ρ, st2, p, ρ1, en.ext x3, rp3, d, z, fun σ2 en2 => ⟨as2, ρ1, st2, en2, rp3, ?_⟩⟩
       have h := YlJ.ext x3 h
       cases w : m ρ1 st2 with
       | nx ρ' st' => rw [w] at h; exact fun as' H' σ' x4 rp en => ⟨as', ρ', st', (x2.trans x3).trans x4, en, rp, YlJ.ext x4 h⟩
       | ct ρ' st' => rw [w] at h; exact fun as' H' σ' x4 rp en => ⟨as', ρ', st', (x2.trans x3).trans x4, en, rp, YlJ.ext x4 h⟩
       | bk ρ' st' => rw [w] at h; exact h
       | rt p st' => rw [w] at h; exact h
       | exc k ρ' st' => rw [w] at h; exact h
       | bad => rw [w] at h; exact h
end
def ItR (X : Cx) (tg : Expr) (r : V -> Hp -> (It -> Hp -> Prop) -> Prop) : Prop :=
 ∀ (pins : LAO) (s : Shared) (σ : St) (H : Hp) (x : V) (v : Value) (R : It -> Hp -> Prop), Inv X pins σ H s -> RelV x v -> r x H R -> wpAny (model X.prog X.w) X.A (pyIter v) (PIE X pins σ tg R) X.xe s
def Its (z : Str) : It := ⟨fun i _ => i < z.cps.size, fun i H x H' => H' = H /\ ∃ c, z.cps[i]? = some c /\ x = .str ⟨#[c]⟩, fun i _ => i = z.cps.size⟩
section
theorem YhV : ItR X tg (fun x H R => ∃ a, x = .ref a /\ (∃ xs, SqL X.K H a xs) /\ R (Itl X.K a) H) := by
 show 249
 obtain ⟨a, rfl, ⟨xs, hq⟩, q⟩ := h
 cases rx
 obtain ⟨its, rv, p, hz⟩ := I.list hq
 refine ZB1 p.isList ?_
 refine ⟨s.heap.objs.size, [s.heap.objs.size], _, _, H, rfl, I.kept (t' := s.toks) fun b o e => ZAD _ e, Ye8 a _, ⟨_, ZAH _ rfl, rfl, rfl⟩, fun b hb => ?_, q⟩
 show 59
theorem Yj2 : ItR X tg (fun x H R => ∃ a, x = .ref a /\ (∃ xs, SqT X.K H a xs) /\ R (Itt X.K a) H) := by
 show 249
 obtain ⟨a, rfl, ⟨xs, hq⟩, q⟩ := h
 cases rx
 obtain ⟨its, rv, p, hz⟩ := I.tuple hq
 refine wpAny_pyIter_tuple (show s.heap.IsTuple a its.toArray from p) ?_
 refine ⟨s.heap.objs.size, [s.heap.objs.size], _, _, H, rfl, I.kept (t' := s.toks) fun b o e => ZAD _ e, YcW a _, ⟨_, ZAH _ rfl, rfl, rfl⟩, fun b hb => ?_, q⟩
 show 59
theorem YcJ {P : Program} {n : String} {z : Str} {t : Tok} (it : Addr)
 (hn : ["enumerate", "zip", "dict_itemiterator", "dict_reverseitemiterator", "odict_iterator", "itertools.zip_longest", "itertools.pairwise"].contains n = false)
 (W : ∀ A : Around, A.handled = none -> Walks P w A it [it] [it] z.cps.size (SignAt z) (fun i h => h.IsStrIter it n z t i))
 (sf : ∀ (A : Around) (i : Nat) (s : Shared) (Q : VSP) (E : VSP), s.heap.IsStrIter it n z t i -> Q (.ref it) s -> wpAny (model P w) A (pyIter (.ref it)) Q E s) : Turn P w K tg (Its z) [it] it (fun i h => h.IsStrIter it n z t i) where
 mem := by simp
 obj := fun i h st b hb => by
  show 69
 keep := fun i h h' st k => by
  obtain ⟨o, e, r⟩ := st
  exact ⟨o, k it (by simp) o e, r⟩
 item := by
  show 76
  refine (W X.A (I.ok.hd hc)).item i s _ _ hg st fun v h' tk hv st' kk => ?_
  obtain ⟨c, u, hc', rfl⟩ := hv
  have I1 : Inv X pins σ H { s with heap := h', toks := tk } := I.turned (fun b o hb e => kk b o (by simpa using hb) e) f0 f1 f3 f4 f5
  obtain ⟨o, e, c', d⟩ := id st'
  exact ⟨_, rfl, Yci (s := { s with heap := h', toks := tk }) e c' d hn ⟨.str ⟨#[c]⟩, H, I1, ⟨u, rfl⟩, ⟨rfl, c, hc', rfl⟩, st', fun b hb => (hf b hb).1⟩⟩
 done := by
  show 76
  have e : i = z.cps.size := hg
  subst e
  exact (W X.A (I.ok.hd hc)).done s _ _ st fun h' tk kk => ⟨rfl, I.turned (fun b o hb e => kk b o (by simpa using hb) e) f0 f1 f3 f4 f5⟩
 self := fun A i s Q E st h => sf A i s Q E st h
theorem YiZ : ItR X tg (fun x H R => ∃ z, x = .str z /\ R (Its z) H) := by
 show 249
 obtain ⟨z, rfl, q⟩ := h
 show 191
 have fp : ∀ b ∈ [s.heap.objs.size], Ymx X pins H b := fun b hb => by
  show 59
 cases ha : z.cps.all (· < 128)
 ·refine wpAny_pyIter_wide ha ?_
  exact ⟨s.heap.objs.size, [s.heap.objs.size], _, _, H, rfl, I.kept (t' := s.toks) fun b o e => ZAD _ e, YcJ _ (by decide) (fun A hA => Walks.strWide hA _ z t) (fun A i s Q E st h => wpAny_pyIter_striter_wide st h), ⟨_, ZAH _ rfl, rfl, rfl⟩, fp, q⟩
 ·refine wpAny_pyIter_ascii ha ?_
  exact ⟨s.heap.objs.size, [s.heap.objs.size], _, _, H, rfl, I.kept (t' := s.toks) fun b o e => ZAD _ e, YcJ _ (by decide) (fun A hA => Walks.strAscii hA _ z t) (fun A i s Q E st h => wpAny_pyIter_striter_ascii st h), ⟨_, ZAH _ rfl, rfl, rfl⟩, fp, q⟩
def YnJ (c : Nat) : P := .str ⟨#[c]⟩
def Ym3 (xs : List P) : Src := ⟨xs.length, fun i _ => some xs[i]?⟩
def Yno (z : Str) : Src := ⟨z.cps.size, fun i _ => if i < z.cps.size then some ((z.cps[i]?).map YnJ) else if i = z.cps.size then some none else none⟩
def YmI (k : Nat) (n : Nat) : Src := ⟨n, fun i st => match st[k]? with
 | some (.lst ys) => some ys[i]?
 | some (.ro ys) => some ys[i]?
 | _ => none⟩
def srcOf (p : P) (st : Ylo) : Option Src := match p with
 | .tup xs => some (Ym3 xs)
 | .str z => some (Yno z)
 | .ref k => match st[k]? with
  | some (.lst xs) => some (YmI k xs.length)
  | some (.ro xs) => some (YmI k xs.length)
  | _ => none
 | _ => none
theorem Yba (hk : as[k]? = some a) : Ynw K as H (YmI k n) (Itl K a) where
 go := fun i as2 st2 H2 p x rp e => by
  have hk2 := x.pre k a hk
  have e' : (match st2[k]? with | some (.lst ys) => some ys[i]? | some (.ro ys) => some ys[i]? | _ => none) = some (some p) := e
  cases q : st2[k]? with
  | none => rw [q] at e'; cases e'
  | some o =>
   rw [q] at e'
   have ob := rp.ob k a o hk2 q
   cases o with
   | lst ys =>
    show 189
    obtain ⟨v, h3, h4⟩ := h2.get (Option.some.inj e')
    exact ⟨⟨vs, v, .of h1, h3⟩, fun y H3 ⟨z1, z2⟩ => by subst z1; rw [z2 vs (.of h1)] at h3; cases h3; exact ⟨Ext.refl, rp, h4⟩⟩
   | ro ys =>
    show 189
    obtain ⟨v, h3, h4⟩ := h2.get (Option.some.inj e')
    exact ⟨⟨vs, v, Z8 h1, h3⟩, fun y H3 ⟨z1, z2⟩ => by subst z1; rw [z2 vs (Z8 h1)] at h3; cases h3; exact ⟨Ext.refl, rp, h4⟩⟩
   | dct ys => cases e'
   | exc c ys => cases e'
   | dtt kvs => cases e'
   | fdc kvs => cases e'
 stop := fun i as2 st2 H2 x rp e => by
  have hk2 := x.pre k a hk
  have e' : (match st2[k]? with | some (.lst ys) => some ys[i]? | some (.ro ys) => some ys[i]? | _ => none) = some none := e
  cases q : st2[k]? with
  | none => rw [q] at e'; cases e'
  | some o =>
   rw [q] at e'
   have ob := rp.ob k a o hk2 q
   cases o with
   | lst ys =>
    show 189
    exact ⟨vs, .of h1, by rw [h2.length]; exact ZAz.mp (Option.some.inj e')⟩
   | ro ys =>
    show 189
    exact ⟨vs, Z8 h1, by rw [h2.length]; exact ZAz.mp (Option.some.inj e')⟩
   | dct ys => cases e'
   | exc c ys => cases e'
   | dtt kvs => cases e'
   | fdc kvs => cases e'
theorem Yf3 (h1 : SqT K H a vs) (h2 : Dens K as H vs xs) : Ynw K as H (Ym3 xs) (Itt K a) where
 go := fun i as2 st2 H2 p x rp e => by
  have e' : some xs[i]? = some (some p) := e
  obtain ⟨v, h3, h4⟩ := (h2.ext x).get (Option.some.inj e')
  exact ⟨⟨vs, v, SqT.ext x h1, h3⟩, fun y H3 ⟨z1, z2⟩ => by subst z1; rw [z2 vs (SqT.ext x h1)] at h3; cases h3; exact ⟨Ext.refl, rp, h4⟩⟩
 stop := fun i as2 st2 H2 x rp e => by
  have e' : some xs[i]? = some none := e
  exact ⟨vs, SqT.ext x h1, by rw [h2.length]; exact ZAz.mp (Option.some.inj e')⟩
theorem Yhp {z : Str} : Ynw K as H (Yno z) (Its z) where
 go := fun i as2 st2 H2 p x rp e => by
  have e' : (if i < z.cps.size then some ((z.cps[i]?).map YnJ) else if i = z.cps.size then some none else none) = some (some p) := e
  by_cases hi : i < z.cps.size
  ·rw [ZAF hi] at e'
   refine ⟨hi, fun y H3 ⟨z1, c, z2, z3⟩ => ?_⟩
   subst z1; subst z3
   rw [z2] at e'
   cases Option.some.inj (Option.some.inj e')
   exact ⟨Ext.refl, rp, .str⟩
  ·rw [ZAE hi] at e'
   by_cases hj : i = z.cps.size
   ·rw [ZAF hj] at e'; cases e'
   ·rw [ZAE hj] at e'; cases e'
 stop := fun i as2 st2 H2 x rp e => by
  have e' : (if i < z.cps.size then some ((z.cps[i]?).map YnJ) else if i = z.cps.size then some none else none) = some none := e
  by_cases hi : i < z.cps.size
  ·rw [ZAF hi] at e'
   have := Option.some.inj e'
   simp [hi] at this
  ·rw [ZAE hi] at e'
   by_cases hj : i = z.cps.size
   ·exact hj
   ·rw [ZAE hj] at e'; cases e'
def YmF (me : ME) : MI := fun ρ st => (me ρ st).bind fun p st1 => match srcOf p st1 with
 | some s => .ok s st1
 | none => .bad
theorem YlZ.ext {as1 : List Addr} {H1 : Hp} {r : R Src} {Q : It -> Hp -> Prop} (x : Ext as H as1 H1) (h : YlZ X as H ρ r Q) : YlZ X as1 H1 ρ r Q := by
 cases r with
 | ok p st' => exact fun as' H' J y => h as' H' J (x.trans y)
 | exc k st' => show 190
 | bad => exact h
theorem YlZ.bindE {r : R P} {f : P -> Ylo -> R Src} {Q : It -> Hp -> Prop} (h : YlZ X as H ρ (r.bind f) Q)
 (go : ∀ p st1 as1 H1 v, Ext as H as1 H1 -> Rep X.K as1 st1 H1 -> Den X.K as1 H1 v p -> YlZ X as1 H1 ρ (f p st1) Q -> Q' v H1) : YlH X as H ρ r Q' := by
 cases r with
 | ok p st1 => exact fun as1 H1 v x rp d => go p st1 as1 H1 v x rp d (YlZ.ext x h)
 | exc k st' => exact h
 | bad => exact h
theorem YlZ.bindA {r : R (List P)} {f : List P -> Ylo -> R Src} {Q : It -> Hp -> Prop} {Q' : List V -> Hp -> Prop} (h : YlZ X as H ρ (r.bind f) Q)
 (go : ∀ p st1 as1 H1 v, Ext as H as1 H1 -> Rep X.K as1 st1 H1 -> Dens X.K as1 H1 v p -> YlZ X as1 H1 ρ (f p st1) Q -> Q' v H1) : Ymh X as H ρ r Q' := by
 cases r with
 | ok p st1 => exact fun as1 H1 v x rp d => go p st1 as1 H1 v x rp d (YlZ.ext x h)
 | exc k st' => exact h
 | bad => exact h
theorem YlZ.bindL {r : R (List P)} {f : List P -> Ylo -> R Src} {Q : It -> Hp -> Prop} (h : YlZ X as H ρ (r.bind f) Q)
 (go : ∀ ps st1 as1 H1 l vs, Ext as H as1 H1 -> Rep X.K as1 st1 H1 -> H1 l = some (.lst vs) -> Yns as1 st1 l -> Dens X.K as1 H1 vs ps -> YlZ X as1 H1 ρ (f ps st1) Q -> Q' (.ref l) H1) : YlU X as H ρ r Q' := by
 cases r with
 | ok p st1 => exact fun as1 H1 l v x rp hl nl d => go p st1 as1 H1 l v x rp hl nl d (YlZ.ext x h)
 | exc k st' => exact h
 | bad => exact h
theorem YjN : ItR X tg (fun x H R => (∃ a, x = .ref a /\ (∃ xs, SqL X.K H a xs) /\ R (Itl X.K a) H) \/ (∃ a, x = .ref a /\ (∃ xs, SqT X.K H a xs) /\ R (Itt X.K a) H) \/ ∃ z, x = .str z /\ R (Its z) H) := by
 show 249
 rcases h with h | h | h
 ·exact YhV pins s σ H x v R I rx h
 ·exact Yj2 pins s σ H x v R I rx h
 ·exact YiZ pins s σ H x v R I rx h
theorem YR (he : JE X e me) : JI X tg e (YmF me) := by
 show 255
 refine thn (he pins s σ H (fun x H1 => (∃ a, x = .ref a /\ (∃ xs, SqL X.K H1 a xs) /\ R (Itl X.K a) H1) \/ (∃ a, x = .ref a /\ (∃ xs, SqT X.K H1 a xs) /\ R (Itt X.K a) H1) \/ ∃ z, x = .str z /\ R (Its z) H1) I
  ⟨as, ρ, st, en, rp, YlZ.bindE h fun p st1 as1 H1 v x rp1 d h1 => ?_⟩) fun v s1 ⟨x, H1, I1, r1, q1⟩ => YjN pins s1 σ H1 x v R I1 r1 q1
 cases d with
 | str => exact .inr (.inr ⟨_, rfl, h1 as1 H1 _ Ext.refl rp1 Yhp⟩)
 | tup e r => exact .inr (.inl ⟨_, rfl, ⟨_, e⟩, h1 as1 H1 _ Ext.refl rp1 (Yf3 e r)⟩)
 | ref e =>
  rename_i k a
  have h2 : YlZ X as1 H1 ρ (match (match st1[k]? with | some (.lst xs) => some (YmI k xs.length) | some (.ro xs) => some (YmI k xs.length) | _ => none) with | some s => .ok s st1 | none => .bad) R := h1
  cases q : st1[k]? with
  | none => rw [q] at h2; exact h2.elim
  | some o =>
   rw [q] at h2
   have ob := rp1.ob k a o e q
   cases o with
   | lst ys => obtain ⟨vs, g1, g2⟩ := ob; exact .inl ⟨a, rfl, ⟨vs, .of g1⟩, h2 as1 H1 _ Ext.refl rp1 (Yba e)⟩
   | ro ys => obtain ⟨vs, g1, g2⟩ := ob; exact .inl ⟨a, rfl, ⟨vs, Z8 g1⟩, h2 as1 H1 _ Ext.refl rp1 (Yba e)⟩
   | dct ys => exact h2.elim
   | exc c ys => exact h2.elim
   | dtt kvs => exact h2.elim
   | fdc kvs => exact h2.elim
 | _ => show 152
def Ymy (lo : Int) (n : Nat) : Src := ⟨n, fun i _ => some (if i < n then some (.int (lo + i)) else none)⟩
theorem YcL {lo : Int} : Ynw K as H (Ymy lo n) (Itr lo n) where
 go := fun i as2 st2 H2 p x rp e => by
  have e' : some (if i < n then some (P.int (lo + i)) else none) = some (some p) := e
  by_cases hi : i < n
  ·rw [ZAF hi] at e'
   cases Option.some.inj (Option.some.inj e')
   exact ⟨hi, fun y H3 ⟨z1, z2⟩ => by subst z1; subst z2; exact ⟨Ext.refl, rp, .int⟩⟩
  ·rw [ZAE hi] at e'; cases Option.some.inj e'
 stop := fun i as2 st2 H2 x rp e => by
  have e' : some (if i < n then some (P.int (lo + i)) else none) = some none := e
  by_cases hi : i < n
  ·rw [ZAF hi] at e'; cases Option.some.inj e'
  ·exact Nat.le_of_not_lt hi
def small62 (i : Int) : Bool := decide (-(2 ^ 62) <= i) && decide (i < 2 ^ 62)
theorem Zf {i : Int} (h : small62 i = true) : -(2 ^ 62) <= i /\ i < 2 ^ 62 := ⟨ZBA (ZBJ.mp h).1, ZBA (ZBJ.mp h).2⟩
def Ymi (mr : MA) : MI := fun ρ st => (mr ρ st).bind fun ps st1 => match ps with
 | [.int j] => if small62 j = true then .ok (Ymy 0 j.toNat) st1 else .bad
 | [.int i, .int j] => if small62 i = true /\ small62 j = true then .ok (Ymy i (j - i).toNat) st1 else .bad
 | _ => .bad
theorem YY {a : Expr} {p : Pos} (hg : Gl X "range") (hm : X.mg "range" = none) (ha : JA X [a] mr) (hl : ∀ ρ st ps st', mr ρ st = .ok ps st' -> ps.length = 1) (hs : starEach [a] X.env = [(false, eval a X.env)] := by rfl) : JI X tg (.Call (.Name "range" p) [a] [] pos) (Ymi mr) := by
 show 255
 refine YeO (tg := tg) hg hm ha hs pins s σ H R I ⟨as, ρ, st, en, rp, ?_⟩
 unfold Ymi at h
 cases q : mr ρ st with
 | bad => show 172
 | exc k st' => show 172
 | ok ps st1 =>
  rw [q] at h
  have hl := hl ρ st ps st1 q
  intro as1 H1 vs x rp1 d
  have h1 := YlZ.ext x h
  cases d with
  | nil => cases hl
  | cons d1 d2 =>
   cases d2 with
   | cons d3 d4 => cases hl
   | nil =>
    cases d1 with
    | int =>
     rename_i j
     have h2 : YlZ X as1 H1 ρ (if small62 j = true then .ok (Ymy 0 j.toNat) st1 else .bad) R := h1
     by_cases hj : small62 j = true
     ·rw [ZAF hj] at h2
      exact ⟨j, rfl, (Zf hj).1, (Zf hj).2, h2 as1 H1 _ Ext.refl rp1 YcL⟩
     ·rw [ZAE hj] at h2; exact h2.elim
    | _ => show 152
theorem Y0 (h : ∀ ρ st ps st', mr ρ st = .ok ps st' -> ps.length = n) : ∀ ρ st ps st', Ylm me mr ρ st = .ok ps st' -> ps.length = n + 1 := by
 intro ρ st ps st' e
 unfold Ylm at e
 cases q : me ρ st with
 | bad => show 196
 | exc k s => show 196
 | ok p s1 =>
  rw [q, R.bind_ok] at e
  cases q2 : mr ρ s1 with
  | bad => rw [q2] at e; cases e
  | exc k s => rw [q2] at e; cases e
  | ok qs s2 =>
   rw [q2, R.bind_ok] at e
   cases e
   rw [ZA2, h _ _ _ _ q2]
theorem Zh : ∀ ρ st ps st', Yls ρ st = .ok ps st' -> ps.length = 0 := by
 intro ρ st ps st' e
 cases e
 rfl
end
def Yl3 (cells : List (Str × Addr)) : List (Str × NameKind) -> List (Str × Addr) -> List (Str × Addr)
 | [], acc => acc
 | (n, k) :: r, acc => if (k == NameKind.free) = true then match cells.lookup n with
  | some c => Yl3 cells r ((n, c) :: acc)
  | none => Yl3 cells r acc
  else Yl3 cells r acc
theorem YaA (h : ∀ x ∈ scope.names, x.2 = .free -> ∃ c, env.cells.lookup x.1 = some c) : closureFor scope env = pure (Yl3 env.cells scope.names []) := by
 unfold closureFor
 have key : ∀ (names : List (Str × NameKind)) (acc : List (Str × Addr)), (∀ x ∈ names, x.2 = .free -> ∃ c, env.cells.lookup x.1 = some c) ->
  (forIn names acc fun x r => match x with | (name, kind) => (if (kind == NameKind.free) = true then do let y <- cellOf env name; pure (ForInStep.yield ((name, y) :: r)) else pure (ForInStep.yield r) : Sem (ForInStep (List (Str × Addr))))) = (pure (Yl3 env.cells names acc) : Sem _) := by
  intro names
  induction names with
  | nil => intro acc _; rfl
  | cons x r ih =>
   intro acc hx
   obtain ⟨n, k⟩ := x
   rw [List.forIn_cons]
   have hr := fun y hy => hx y (ZAQ _ hy)
   by_cases hk : (k == NameKind.free) = true
   ·obtain ⟨c, hc⟩ := hx (n, k) List.mem_cons_self (by simpa using hk)
    simp only [hk, if_true, Yl3]
    have hc' : env.cells.lookup n = some c := hc
    have e : cellOf env n = pure c := by unfold cellOf; rw [hc']
    rw [e, hc']
    exact ih _ hr
   ·simp only [hk, Yl3]
    exact ih _ hr
 exact Eq.trans (ZBI (fun m => m >>= fun cs => pure cs) (key scope.names [] h)) rfl
theorem Zw {cells : List (Str × Addr)} {x : Str} {c : Addr} : ∀ {names : List (Str × NameKind)} {acc : List (Str × Addr)}, (Yl3 cells names acc).lookup x = some c -> acc.lookup x = some c \/ cells.lookup x = some c
 | [], acc, h => .inl h
 | (n, k) :: r, acc, h => by
  unfold Yl3 at h
  split at h
  ·split at h
   ·rename_i c' hc
    rcases Zw h with z | z
    ·rw [ZBD] at z
     cases hx : x == n with
     | true =>
      rw [hx] at z
      have := eq_of_beq hx
      subst this
      exact .inr (by rw [hc]; exact z)
     | false => rw [hx] at z; exact .inl z
    ·exact .inr z
   ·exact Zw h
  ·exact Zw h
theorem Wu {cells : List (Str × Addr)} {x : Str} : ∀ {names : List (Str × NameKind)} {acc : List (Str × Addr)}, (∃ c, acc.lookup x = some c) -> ∃ c, (Yl3 cells names acc).lookup x = some c
 | [], acc, h => h
 | (n, k) :: r, acc, h => by
  unfold Yl3
  split
  ·split
   ·refine Wu ?_
    rw [ZBD]
    cases hx : x == n with
    | true => exact ⟨_, rfl⟩
    | false => exact h
   ·exact Wu h
  ·exact Wu h
theorem ZO {cells : List (Str × Addr)} {x : Str} {c : Addr} (hc : cells.lookup x = some c) : ∀ {names : List (Str × NameKind)} {acc : List (Str × Addr)}, (x, NameKind.free) ∈ names -> ∃ c, (Yl3 cells names acc).lookup x = some c
 | [], acc, h => by cases h
 | (n, k) :: r, acc, h => by
  unfold Yl3
  rcases ZAc.mp h with e | e
  ·cases e
   simp only [beq_self_eq_true, if_true, hc]
   exact Wu ⟨c, by simp [List.lookup_cons]⟩
  ·split
   ·split
    ·exact ZO hc e
    ·exact ZO hc e
   ·exact ZO hc e
theorem ZM {k : NameKind} (h : (relabel scope env).names.lookup x = some k) : scope.names.lookup x = some k \/ (k = .cell /\ scope.names.lookup x = some .free) := by
 unfold relabel at h
 simp only at h
 generalize scope.names = names at h ⊢
 induction names with
 | nil => cases h
 | cons y r ih =>
  obtain ⟨n, j⟩ := y
  rw [ZAX] at h
  rw [ZBD]
  cases hx : x == n with
  | true =>
   simp only
   split at h
   ·rename_i hc
    rw [ZBD, hx] at h
    simp only [Bool.and_eq_true, beq_iff_eq] at hc
    rw [hc.1.1]
    exact .inr ⟨(Option.some.inj h).symm, rfl⟩
   ·rw [ZBD, hx] at h
    exact .inl h
  | false =>
   simp only
   split at h
   ·rw [ZBD, hx] at h; exact ih h
   ·rw [ZBD, hx] at h; exact ih h
theorem Yej {R : Result -> Shared -> Prop} {target : Expr} {it acc : Value} (I : Nat -> Shared -> Prop)
 (turn : ∀ n s, I n s -> wpAny (model prog w) A (pyNext it) (fun r s₁ => match r with
  | none => R (.ok .next) s₁
  | some v => wpAny (model prog w) A (letOwnedTupleGo target it v) (fun _ s₁' => wpAny (model prog w) A (assign target env v) (fun _ s₂ =>
   wpAny (model prog w) A (forIn ifs true fun c r => if r = true then do let ok <- isTrue c env (eval c env); pure (ForInStep.yield ok) else pure (ForInStep.yield r)) (fun ok s₃ =>
    if ok = true then wpAny (model prog w) A (eval elt env) (fun x s₄ =>
     wpAny (model prog w) A (call (.builtin "list.append") [acc, x]) (fun _ s₅ => ∃ m, m < n /\ I m s₅) (notedBy (model prog w) A env fun e s' => R (.error e) s') s₄) (notedBy (model prog w) A env fun e s' => R (.error e) s') s₃
    else ∃ m, m < n /\ I m s₃) (notedBy (model prog w) A env fun e s' => R (.error e) s') s₂) (notedBy (model prog w) A env fun e s' => R (.error e) s') s₁') (notedBy (model prog w) A env fun e s' => R (.error e) s') s₁) (notedBy (model prog w) A env fun e s' => R (.error e) s') s)
 (n : Nat) (h : I n s) :
 codeAny (model prog w) A (.compLoop (.ListComp elt [⟨target, iter, ifs, 0⟩] scope pos) 0 it acc env) R s := by
 refine codeAny_loop rfl I (fun n s hI => ?_) n h
 show wpAny _ A ((compTurn (.ListComp elt [⟨target, iter, ifs, 0⟩] scope pos) 0 it acc env).onRaise (fun x => do noteFrame x env; theTreesLotGoes x)) _ _ s
 refine wpAny_noted ?_
 rw [compTurn_list]
 refine ZAA (ZCb (ZAA (ZA8 (turn n s hI) (fun r s₁ h₁ => ?_) fun _ _ h' => h')))
 cases r with
 | none => exact ZAC h₁
 | some v =>
  refine ZAA (ZA8 h₁ (fun _ s₁' h₁' => ?_) fun _ _ h' => h')
  refine ZAA (ZA8 h₁' (fun _ s₂ h₂ => ZAA (ZA8 h₂ (fun ok s₃ h₃ => ?_) fun _ _ h' => h')) fun _ _ h' => h')
  cases ok with
  | false => exact ZAC ⟨rfl, h₃⟩
  | true =>
   exact ZAA (ZAA (ZA8 h₃ (fun x s₄ h₄ => ZAA (ZA8 h₄ (fun _ s₅ h₅ => ZAC (ZAC ⟨rfl, h₅⟩)) fun _ _ h' => h')) fun _ _ h' => h'))
def YlR (X : Cx) (scope : Scope) (N : List Str) (C : Addr) (s₀ : Shared) (H₀ : Hp) (ex : List Addr) : Cx where
 prog := X.prog
 w := X.w
 K := X.K
 mg := X.mg
 base := X.base
 A := X.A
 N := N
 s₀ := s₀
 H₀ := H₀
 env := compEnvC scope (Yl3 X.env.cells scope.names []) C X.env
 outer := X.stack
 stack := X.stack
 ex := ex
 fn := fun _ => false
 calm := X.calm
 pn := []
 xe := fun _ _ => False
structure Ymm (X : Cx) (scope : Scope) (TN FN : List Str) (fr : List Nat) : Prop where
 cell : ∀ y ∈ scope.names, y.2 ≠ .cell
 kind : scope.kind = .function
 names : ∀ y ∈ scope.names, y.2 = .local -> scope.names.lookup y.1 = some .local
 free : ∀ y ∈ scope.names, y.2 = .free -> X.env.kindOf y.1 = some .cell \/ X.env.kindOf y.1 = some .free
 lk : ∀ y, scope.names.lookup y = some .free -> (y, NameKind.free) ∈ scope.names
 flen : FN.length = fr.length
 at_ : ∀ (j : Nat) x k, FN[j]? = some x -> fr[j]? = some k -> X.N[k]? = some x /\ scope.names.lookup x = some .free
def rho0 (n : Nat) (fr : List Nat) (ρ : Rho) : Rho := List.replicate n none ++ fr.map fun k => (ρ[k]?).join
section
variable {pins : LAO} {s₂ s₄ : Shared} {fp : List Addr} {C : Addr}
theorem Ymm.has (c : Ymm X scope TN FN fr) (ok : X.Ok) : ∀ x ∈ scope.names, x.2 = .free -> ∃ c, X.env.cells.lookup x.1 = some c := fun x hx e => ok.has x.1 (c.free x hx e)
theorem Ymm.cl (c : Ymm X scope TN FN fr) (h : (Yl3 X.env.cells scope.names []).lookup x = some a) : X.env.cells.lookup x = some a := by
 rcases Zw h with z | z
 ·cases z
 ·exact z
theorem Ymm.freeOf (c : Ymm X scope TN FN fr) (h : (relabel scope X.env).names.lookup x = some .cell \/ (relabel scope X.env).names.lookup x = some .free) : scope.names.lookup x = some .free := by
 have nc : scope.names.lookup x ≠ some .cell := fun z => c.cell _ (PySem.mem_of_lookup z) rfl
 show 226
 ·rcases ZM h with z | ⟨_, z⟩
  ·exact absurd z nc
  ·exact z
 ·rcases ZM h with z | ⟨z, _⟩
  ·exact z
  ·cases z
theorem Yk5 (c : Ymm X scope TN FN fr) (I : Inv X pins σ H s₂) (hf : ∀ b ∈ fp, Ymx X pins H b) (hfo : ∀ b ∈ fp, ∃ o, s₂.heap.get? b = some o) (hC : s₂.heap.objs.size <= C) : (YlR X scope (TN ++ FN) C s₂ H fp).Ok where
 mod := I.ok.mod
 kind := c.kind
 glob := I.ok.glob
 blt := I.ok.blt
 above := hC
 inj := fun x y a h1 h2 => I.ok.inj x y a (c.cl h1) (c.cl h2)
 has := fun x h => by
  have hx := c.freeOf h
  obtain ⟨a, ha⟩ := c.has I.ok _ (c.lk x hx) rfl
  exact ZO ha (c.lk x hx)
 cab := fun x a h => by cases h
 hd := I.ok.hd
 frames := I.ok.frames
 stk := .inl rfl
 exf := fun b hb => by
  obtain ⟨f0, f1, f2, f3, f4, f5⟩ := hf b hb
  obtain ⟨o, ho⟩ := hfo b hb
  exact ⟨ZAN (ZAP (ZAG ho) hC), fun x a h => f4 x a (c.cl h)⟩
 bs := I.bs
 bsz := ZAV I.ok.bsz I.sz
 noex := fun b o e hb => by
  obtain ⟨f0, f1, f2, f3, f4, f5⟩ := hf b hb
  rcases f3 with z | z
  ·exact I.ok.noex b o e z
  ·exact absurd (ZAP (ZAG e) (ZAV I.ok.bsz z)) (ZBK _)
 exfs := fun b hb hz => by
  obtain ⟨f0, f1, f2, f3, f4, f5⟩ := hf b hb
  rcases ZAc.mp (I.stkSub b hz) with e | e
  ·exact f1 e
  ·exact f2 e
 funs := I.stack
 frf := I.stkFree
theorem getElem?_rho0 (h : (rho0 n fr ρ)[i]? = some (some p)) : ∃ j k, i = n + j /\ fr[j]? = some k /\ ρ[k]? = some (some p) := by
 unfold rho0 at h
 by_cases hi : i < n
 ·rw [List.getElem?_append_left (by simpa using hi), List.getElem?_replicate, if_pos hi] at h
  cases h
 ·rw [List.getElem?_append_right (by simpa using hi), List.length_replicate, List.getElem?_map] at h
  refine ⟨i - n, ?_⟩
  cases q : fr[i - n]? with
  | none => show 171
  | some k =>
   rw [q] at h
   refine ⟨k, by omega, rfl, ?_⟩
   have h' : (ρ[k]?).join = some p := Option.some.inj h
   cases w : ρ[k]? with
   | none => rw [w] at h'; cases h'
   | some o => rw [w] at h'; rw [show o = some p from h']
def sig0 (n : Nat) (fr : List Nat) (σ : St) : St := List.replicate n none ++ fr.map fun k => (σ[k]?).join
theorem YfE : (sig0 n fr σ).length = n + fr.length := by simp [sig0]
theorem getElem?_sig0 (h : (sig0 n fr σ)[i]? = some (some v)) : ∃ j k, i = n + j /\ fr[j]? = some k /\ σ[k]? = some (some v) := by
 unfold sig0 at h
 by_cases hi : i < n
 ·rw [List.getElem?_append_left (by simpa using hi), List.getElem?_replicate, if_pos hi] at h
  cases h
 ·rw [List.getElem?_append_right (by simpa using hi), List.length_replicate, List.getElem?_map] at h
  refine ⟨i - n, ?_⟩
  cases q : fr[i - n]? with
  | none => show 171
  | some k =>
   rw [q] at h
   refine ⟨k, by omega, rfl, ?_⟩
   have h' : (σ[k]?).join = some v := Option.some.inj h
   cases w : σ[k]? with
   | none => rw [w] at h'; cases h'
   | some o => rw [w] at h'; rw [show o = some v from h']
theorem env0 (en : YlI K as H ρ σ) : YlI K as H (rho0 n fr ρ) (sig0 n fr σ) :=
 ⟨by simp [rho0, sig0], fun i p e => by
  obtain ⟨j, k, e1, e2, e3⟩ := getElem?_rho0 e
  obtain ⟨v, h1, h2⟩ := en.val k p e3
  refine ⟨v, ?_, h2⟩
  subst e1
  unfold sig0
  rw [List.getElem?_append_right (by simp), List.length_replicate, List.getElem?_map]
  have : n + j - n = j := by omega
  rw [this, e2]
  simp [h1]⟩
theorem Yhr (c : Ymm X scope TN FN fr) (I : Inv X pins σ H s₂) (hf : ∀ b ∈ fp, Ymx X pins H b) (hfo : ∀ b ∈ fp, ∃ o, s₂.heap.get? b = some o) (hC : s₂.heap.objs.size <= C) {h' : Heap} {tk : Nat}
 (hk : ∀ b o, s₂.heap.get? b = some o -> h'.get? b = some o) (hn : h'.Ns C fun _ => none) : Inv (YlR X scope (TN ++ FN) C s₂ H fp) [] (sig0 TN.length fr σ) H { s₂ with heap := h', toks := tk } where
 ok := Yk5 c I hf hfo hC
 os := rfl
 bare := I.bare
 base := Un.kept hk
 loc := ⟨_, hn, fun i x v h1 h2 h3 => by
  obtain ⟨j, k, e1, e2, e3⟩ := getElem?_sig0 h2
  have h1' : (TN ++ FN)[i]? = some x := h1
  subst e1
  rw [ZBR (by omega)] at h1'
  have : TN.length + j - TN.length = j := by omega
  rw [this] at h1'
  obtain ⟨g1, g2⟩ := c.at_ j x k h1' e2
  obtain ⟨m, _, hl⟩ := I.loc
  have hcf := c.free _ (c.lk x g2) rfl
  have vis : Vis X.env.scope x := .inr hcf
  obtain ⟨u, r, q⟩ := hl k x v g1 e3 vis
  refine ⟨u, r, .inr ?_⟩
  rcases q with ⟨q1, _⟩ | ⟨_, a, q2, q3⟩
  ·rcases hcf with z | z
   ·have : X.env.kindOf x = some .cell := z
    rw [q1] at this; cases this
   ·have : X.env.kindOf x = some .free := z
    rw [q1] at this; cases this
  ·refine ⟨?_, a, ?_, ?_⟩
   ·rcases h3 with z | z | z
    ·have w : (relabel scope X.env).names.lookup x = some .local := z
     rcases ZM w with w | ⟨w, _⟩
     ·rw [g2] at w; cases w
     ·cases w
    ·exact .inl z
    ·exact .inr z
   ·obtain ⟨a', ha'⟩ := ZO (cells := X.env.cells) q2 (acc := []) (c.lk x g2)
    have := c.cl ha'
    rw [q2] at this; cases this
    exact ha'
   ·obtain ⟨o, ho, hd⟩ := q3
    exact ⟨o, hk a o ho, hd⟩⟩
 cell := fun x a h => by
  obtain ⟨v, o, ho, hd⟩ := I.cell x a (c.cl h)
  exact ⟨v, o, hk a o ho, hd⟩
 free := I.hok.fresh hC
 freeC := fun x a h => I.freeC x a (c.cl h)
 pin := fun p hp => absurd (show p ∈ ([] : LAO) from hp) (by simp)
 hok := I.hok.kept hk
 len := by
  rw [YfE]
  show _ = (TN ++ FN).length
  rw [ZAJ, c.flen]
theorem Inv.track {D : Addr} {its : List Value} (I : Inv X pins σ H s) (hD : s.heap.get? D = some { cls := .type "list", data := .seq its.toArray n }) (hn : H D = none) (rv : Vals vs its) (hz : vs.length <= sizeLine)
 (h1 : X.s₀.heap.objs.size <= D) (h2 : D ≠ X.env.locals) (h3 : ∀ x c, X.env.cells.lookup x = some c -> c ≠ D) (h4 : ∀ p ∈ X.pn ++ pins, p.1 ≠ D) : Inv X pins σ (upd H D (.lst vs)) s := by
 have q := I.step (H' := upd H D (.lst vs)) (h' := s.heap) (g' := s.gens) (t' := s.toks) (d' := s.drawn) (ch := [D]) (fun b hb => by
  have e : b = D := by simpa using hb
  subst e
  exact ⟨.inr h1, h2, h3, h4⟩) (fun b o _ _ _ e _ => e) (fun b o _ _ _ e _ => ⟨o.slots, e⟩) (fun b o hb e n => by rw [Yf (by simpa using hb)]; exact n) (fun b o _ e => ⟨o, e⟩)
  (fun b xs e => by rw [Yf (Ye e hn)]; exact e) (fun b o u e => by rw [Yf (Ye e hn)]; exact e) (fun b ps e => ⟨#[], by rw [Yf (Ye e hn), e]; simp⟩) (fun m h => h) (fun b u e => ?_) I.bare
 ·exact q
 ·by_cases hb : b = D
  ·subst hb
   rw [Yn] at e
   cases e
   exact ⟨hz, its, n, rv, hD⟩
  ·rw [Yf hb] at e
   exact (I.hok b u e).stay (fun c v _ q => q) (fun c q => by rw [Yf (Ye q hn)]; exact q) fun c xs q => by rw [Yf (Ye q hn)]; exact q
end
def YlX (src : Src) (g : MG) (nt : MT) (me : ME) (ρ0 : Rho) : Nat -> Nat -> Ylo -> List P -> R (List P)
 | 0, i, st, acc => match src.nx i st with
  | some none => .ok acc st
  | _ => .bad
 | n + 1, i, st, acc => match src.nx i st with
  | some none => .ok acc st
  | none => .bad
  | some (some p) => match g p ρ0 st with
   | none => .bad
   | some ρ1 => match nt ρ1 st with
    | .ok false st1 => YlX src g nt me ρ0 n (i + 1) st1 acc
    | .ok true st1 => match me ρ1 st1 with
     | .ok q st2 => if acc.length < cap then YlX src g nt me ρ0 n (i + 1) st2 (acc ++ [q]) else .bad
     | _ => .bad
    | _ => .bad
def Ymr (mi : MI) (n : Nat) (fr : List Nat) (g : MG) (nt : MT) (me : ME) : MA := fun ρ st => (mi ρ st).bind fun src st1 => YlX src g nt me (rho0 n fr ρ) src.n 0 st1 []
def PTs (X : Cx) (ifs : List Expr) (t : TT) : Prop :=
 ∀ (pins : LAO) (s : Shared) (σ : St) (H : Hp) (Q : Bool -> Hp -> Prop), Inv X pins σ H s -> t σ H Q ->
  wpAny (model X.prog X.w) X.A (forIn ifs true fun c r => if r = true then do let ok <- isTrue c X.env (eval c X.env); pure (ForInStep.yield ok) else pure (ForInStep.yield r)) (TP X pins σ Q) X.xe s
abbrev JTs (X : Cx) (ifs : List Expr) (nt : MT) : Prop := PTs X ifs (tT X nt)
def Ymv : MT := fun _ st => .ok true st
theorem ZT : JTs X [] Ymv := fun pins s σ H Q I ⟨as, ρ, st, en, rp, h⟩ => wpAny_tests_nil ⟨H, I, h as H Ext.refl rp⟩
theorem YdK (h : JT X c nt) : JTs X [c] nt := fun pins s σ H Q I t => wpAny_tests_one (h pins s σ H Q I t)
def Ynr (n : Nat) (g : MG) : Prop := ∀ p ρ st ρ1, g p ρ st = some ρ1 -> ρ1.length = ρ.length /\ ∀ i : Nat, n <= i -> ρ1[i]? = ρ[i]?
def Ynv (n : Nat) (g : MGs) : Prop := ∀ p ρ st ρ1, g p ρ st = some ρ1 -> ρ1.length = ρ.length /\ ∀ i : Nat, n <= i -> ρ1[i]? = ρ[i]?
theorem Zc (h : i < n) : Ynr n (Ylp i) := fun p ρ st ρ1 e => by
 cases e
 exact ⟨by simp, fun j hj => by rw [List.getElem?_set_ne (by omega)]⟩
theorem YdU : Ynv n Ymg := fun p ρ st ρ1 e => by
 cases p with
 | nil => cases e; exact ⟨rfl, fun _ _ => rfl⟩
 | cons a b => cases e
theorem Vx {g : MG} {r : MGs} (h1 : Ynr n g) (h2 : Ynv n r) : Ynv n (YlD g r) := fun p ρ st ρ1 e => by
 cases p with
 | nil => cases e
 | cons a b =>
  have e' : (g a ρ st).bind (fun ρ1 => r b ρ1 st) = some ρ1 := e
  cases z : g a ρ st with
  | none => rw [z] at e'; cases e'
  | some ρ2 =>
   rw [z] at e'
   obtain ⟨a1, a2⟩ := h1 _ _ _ _ z
   obtain ⟨b1, b2⟩ := h2 _ _ _ _ (show r b ρ2 st = some ρ1 from e')
   exact ⟨b1.trans a1, fun i hi => (b2 i hi).trans (a2 i hi)⟩
section
theorem YlI.back {ρ1 : Rho} (e : YlI K as H ρ1 σ) (hl : ρ1.length = (rho0 n fr ρ).length) (hk : ∀ i : Nat, n <= i -> ρ1[i]? = (rho0 n fr ρ)[i]?) : YlI K as H (rho0 n fr ρ) σ :=
 ⟨by rw [<- hl]; exact e.len, fun i p q => by
  obtain ⟨j, k, e1, _, _⟩ := getElem?_rho0 q
  exact e.val i p (by rw [hk i (by omega)]; exact q)⟩
set_option maxHeartbeats 4000000 in
theorem Ybh {pos0 : Pos} {mi : MI} {g : MG} {use : Option (Value -> Sem Unit)} {Q0 : VSP} {pins : LAO} {Q : VK}
 (hc : X.calm = true) (c : Ymm X scope TN FN fr) (hi : JI X tg iter mi) (hgo : Ynr TN.length g)
 (hb : ∀ C s₀ H₀ ex, JG (YlR X scope (TN ++ FN) C s₀ H₀ ex) tg g /\ JTs (YlR X scope (TN ++ FN) C s₀ H₀ ex) ifs nt /\ JE (YlR X scope (TN ++ FN) C s₀ H₀ ex) elt me)
 (hs : ∀ x, foldedSetIterable iter X.env x = pure x) (I : Inv X pins σ H s) (ht : tL X (Ymr mi TN.length fr g nt me) σ H Q)
 (hend : ∀ (s4 : Shared) (C D : Addr) (H' : Hp), (∃ m, s4.heap.Ns C m) -> H' C = none -> Ymx X pins H' C -> (∀ h', Heap.SameBut C s4.heap h' -> Inv X pins σ H' { s4 with heap := h' }) -> Q (.ref D) H' -> compPost (model X.prog X.w) X.A X.xe use Q0 (.ref D) C (.ok .next) s4) :
 wpAny (model X.prog X.w) X.A (comprehension (.ListComp elt [⟨tg, iter, ifs, 0⟩] scope pos) scope X.env pos0 (newList []) false (eval iter X.env) use) Q0 X.xe s := by
 obtain ⟨as, ρ, st, en, rp, h⟩ := ht
 refine wpAny_comprehension_free (use := use) rfl hs (YaA (c.has I.ok)) c.kind c.names ?_
 refine thn (hi pins s σ H (fun J H1 => ∃ as1 src st1, Ext as H as1 H1 /\ Rep X.K as1 st1 H1 /\ Ynw X.K as1 H1 src J /\ YlU X as1 H1 ρ (YlX src g nt me (rho0 TN.length fr ρ) src.n 0 st1 []) Q) I ⟨as, ρ, st, en, rp, ?_⟩) fun v s1 h1 => thn h1 fun itv s2 h2 => ?_
 ·unfold Ymr at h
  cases q : mi ρ st with
  | bad => show 172
  | exc k st' => show 172
  | ok src st1 =>
   rw [q] at h
   exact fun as1 H1 J x rp1 ok => ⟨as1, src, st1, x, rp1, ok, YlU.ext x h⟩
 obtain ⟨it, fp, tn, J, H2, rfl, I2, T, st2, f2, as1, src, st1, x1, rp1, ok, hp⟩ := h2
 have hfo : ∀ b ∈ fp, ∃ o, s2.heap.get? b = some o := fun b hb => let ⟨o, e, _⟩ := T.obj 0 _ st2 b hb; ⟨o, e⟩
 have hfl : ∀ b ∈ fp, b < s2.heap.objs.size := fun b hb => let ⟨o, e⟩ := hfo b hb; ZAG e
 refine wpAny_newObj_type (wpAny_newFunctionEnv c.cell (by intro y hy; simp at hy) (fun h₁ hns hsb => ?_) c.kind)
 dsimp only at hns hsb ⊢
 generalize hH2 : s2.heap.push { cls := .type "list", dict := none, data := .seq ([] : List Value).toArray } = G at hns hsb ⊢
 have hGC : G.objs.size = s2.heap.objs.size + 1 := by rw [<- hH2, ZAf]
 have hDC : s2.heap.objs.size ≠ G.objs.size := by omega
 have hC : s2.heap.objs.size <= G.objs.size := by omega
 have keep : ∀ b o, s2.heap.get? b = some o -> h₁.get? b = some o := fun b o e => hsb.extBut b o (ZAN (ZAP (ZAG e) hC)) (ZAD _ (hH2 ▸ ZAD _ e))
 have hD0 : h₁.get? s2.heap.objs.size = some { cls := .type "list", data := .seq ([] : List Value).toArray 0 } := hsb.extBut _ _ hDC (ZAD _ (hH2 ▸ ZAH _ rfl))
 have hns' : h₁.Ns G.objs.size fun _ => none := by simpa using hns
 obtain ⟨bg, bt, be⟩ := hb G.objs.size s2 H2 fp
 have HD0 : H2 s2.heap.objs.size = none := I2.hok.fresh (ZAI _)
 have loop : ∀ s₃ : Shared, s₃ = { s2 with heap := h₁, toks := s2.toks + ([] : List (Str × Value)).length } ->
  codeAny (model X.prog X.w) X.A (.compLoop (.ListComp elt [⟨tg, iter, ifs, 0⟩] scope pos) 0 (.ref it) (.ref s2.heap.objs.size) (compEnvC scope (Yl3 X.env.cells scope.names []) G.objs.size X.env))
   (compPost (model X.prog X.w) X.A X.xe use Q0 (.ref s2.heap.objs.size) G.objs.size) s₃ := by
  rintro s₃ rfl
  have IY := Yhr (tk := s2.toks + ([] : List (Str × Value)).length) c I2 f2 hfo hC keep hns'
  have stat : ∀ {H' : Hp} {pl : LAO}, (∀ b ∈ fp, H' b = none) -> (∀ p ∈ pl, ∀ b ∈ fp, p.1 ≠ b) -> ∀ b ∈ fp, Ymx (YlR X scope (TN ++ FN) G.objs.size s2 H2 fp) pl H' b := fun {H' pl} hn hpl b hb => by
   obtain ⟨f0, f1, f2', f3, f4, f5⟩ := f2 b hb
   refine ⟨hn b hb, ?_, ?_, .inl hb, fun y a e => f4 y a (c.cl e), fun p hp => hpl p hp b hb⟩
   ·exact ZAN (ZAP (hfl b hb) hC)
   ·intro z
    rcases ZAc.mp (I2.stkSub b z) with e | e
    ·exact f1 e
    ·exact f2' e
  have nDf : s2.heap.objs.size ∉ frs X.stack := fun z => by
   rcases ZAc.mp (I2.stkSub _ z) with e | e
   ·exact absurd (e ▸ I2.lt) (ZBK _)
   ·exact I2.nofs (ZAI _) e
  have cellD : ∀ y a, X.env.cells.lookup y = some a -> a ≠ s2.heap.objs.size := fun y a e => by
   obtain ⟨v, q⟩ := I2.cell y a e
   exact ZAN q.lt
  refine Yej (fun n s' => ∃ i as' st' H' σ' acc vs its m, Inv (YlR X scope (TN ++ FN) G.objs.size s2 H2 fp) [] σ' H' s' /\ YlI X.K as' H' (rho0 TN.length fr ρ) σ' /\ Ext as1 H2 as' H' /\ Rep X.K as' st' H' /\ tn i s'.heap /\ (∀ b ∈ fp, H' b = none) /\
   s'.heap.get? s2.heap.objs.size = some { cls := .type "list", data := .seq its.toArray m } /\ H' s2.heap.objs.size = none /\ Vals vs its /\ Dens X.K as' H' vs acc /\ acc.length <= cap /\ YlU X as' H' ρ (YlX src g nt me (rho0 TN.length fr ρ) n i st' acc) Q) ?_ src.n
   ⟨0, as1, st1, H2, _, [], [], [], 0, IY, env0 (YlI.ext x1 en), Ext.refl, rp1, T.keep _ _ _ st2 fun b hb o e => keep b o e, fun b hb => (f2 b hb).1, hD0, HD0, .nil, .nil, ZBN _, hp⟩
  rintro n s3 ⟨i, as3, st3, H3, σ3, acc, vs, its, m, I3, en3, x3, rp3, tn3, fr3, hD, nD, rv, dn, hl, h⟩
  have nDloc : s2.heap.objs.size ≠ (YlR X scope (TN ++ FN) G.objs.size s2 H2 fp).env.locals := hDC
  have IP : Inv (YlR X scope (TN ++ FN) G.objs.size s2 H2 fp) [(s2.heap.objs.size, { cls := .type "list", data := .seq its.toArray m })] σ3 H3 s3 := I3.pins_of fun p hp => by
   have e : p = (s2.heap.objs.size, { cls := .type "list", data := .seq its.toArray m }) := by simpa using hp
   subst e
   exact ⟨hD, nD, nDloc, nDf, fun v z => by cases z⟩
  have hpl : ∀ p ∈ [(s2.heap.objs.size, ({ cls := .type "list", data := .seq its.toArray m } : Obj))], ∀ b ∈ fp, p.1 ≠ b := fun p hp b hb => by
   have e : p = (s2.heap.objs.size, { cls := .type "list", data := .seq its.toArray m }) := by simpa using hp
   subst e
   exact ZA6 (hfl b hb)
  have done : src.nx i st3 = some none -> YlU X as3 H3 ρ (.ok acc st3) Q -> wpAny (model X.prog X.w) X.A (pyNext (.ref it)) (fun r s₁ => r = none /\ compPost (model X.prog X.w) X.A X.xe use Q0 (.ref s2.heap.objs.size) G.objs.size (.ok .next) s₁)
   (notedBy (model X.prog X.w) X.A (compEnvC scope (Yl3 X.env.cells scope.names []) G.objs.size X.env) fun e s' => compPost (model X.prog X.w) X.A X.xe use Q0 (.ref s2.heap.objs.size) G.objs.size (.error e) s') s3 := fun e h => by
   refine thn (T.done (YlR X scope (TN ++ FN) G.objs.size s2 H2 fp) rfl rfl rfl hc i _ s3 σ3 H3 _ IP (stat fr3 hpl) tn3 (ok.stop i as3 st3 H3 x3 rp3 e)) fun r s4 ⟨hr, I4⟩ => ⟨hr, ?_⟩
   obtain ⟨m4, hn4, _⟩ := id I4.loc
   obtain ⟨hD4, nD4, _⟩ := I4.pin _ (ZAe _ ZAM)
   have inv : ∀ h', Heap.SameBut G.objs.size s4.heap h' -> Inv X pins σ (upd H3 s2.heap.objs.size (.lst vs)) { s4 with heap := h' } := fun h' sb => by
    have un : Un (frs X.stack) fp H2 H3 s2.heap h' := by
     have u := I4.base
     have up : ∀ b o, s2.heap.get? b = some o -> b ≠ G.objs.size := fun b o e => ZAN (ZAP (ZAG e) hC)
     exact ⟨fun b o e n hb hx => (sb.2 b (up b o e)).trans (u.keep b o e n hb hx), fun b o e n hb hx => let ⟨sl, q⟩ := u.slot b o e n hb hx; ⟨sl, (sb.2 b (up b o e)).trans q⟩, u.free, fun b o e hx => let ⟨o', q⟩ := u.there b o e hx; ⟨o', (sb.2 b (up b o e)).trans q⟩, u.tups, u.frzs, u.tbls⟩
    have hok : HOk X.prog X.w H3 h' := fun b u e => (I4.hok b u e).stay (fun c' v hc' q => by
     refine (sb.2 c' ?_).trans q
     rintro rfl
     have nC : H3 G.objs.size = none := I4.free
     rcases hc' with z | z
     ·rw [<- z, nC] at e; cases e
     ·rw [nC] at z; cases z) (fun _ q => q) fun _ _ q => q
    have IX : Inv X pins σ H3 { s4 with heap := h' } := I2.call' (s' := { s4 with heap := h' }) (ch := fp) I4.os un hok I4.bare fun b hb => ⟨(f2 b hb).2.2.2.1, (f2 b hb).2.1, (f2 b hb).2.2.2.2.1, (f2 b hb).2.2.2.2.2⟩
    have hDh : h'.get? s2.heap.objs.size = some { cls := .type "list", data := .seq its.toArray m } := (sb.2 _ hDC).trans hD4
    have IT := Inv.track (s := { s4 with heap := h' }) IX hDh nD rv (by rw [dn.length]; exact ZAV hl Yt) I2.sz (by have := I2.lt; exact ZA6 this) cellD (fun p hp => ZAN (ZAG (I2.pin p hp).1))
    exact IT
   have nC : (upd H3 s2.heap.objs.size (.lst vs)) G.objs.size = none := by rw [Yf (ZAs hDC)]; exact I4.free
   exact hend s4 G.objs.size s2.heap.objs.size _ ⟨m4, hn4⟩ nC (I2.fpOk hC nC) inv (h as3 _ _ vs (Ext.laid nD) (rp3.laid nD) Yn (rp3.fresh nD) (dn.ext (Ext.laid nD)))
  have bad : ∀ {r : Option Value -> Shared -> Prop} {E : VSP}, False -> wpAny (model X.prog X.w) X.A (pyNext (.ref it)) r E s3 := fun f => f.elim
  cases e : src.nx i st3 with
  | none => cases n <;> (simp only [YlX, e] at h; exact h.elim)
  | some o =>
   cases o with
   | none =>
    have h' : YlU X as3 H3 ρ (.ok acc st3) Q := by cases n <;> (simp only [YlX, e] at h; exact h)
    exact thn (done e h') fun r s4 ⟨hr, q⟩ => by subst hr; exact q
   | some p =>
    cases n with
    | zero => simp only [YlX, e] at h; exact h.elim
    | succ n =>
     obtain ⟨g1, g2⟩ := ok.go i as3 st3 H3 p x3 rp3 e
     cases zg : g p (rho0 TN.length fr ρ) st3 with
     | none => simp only [YlX, e, zg] at h; exact h.elim
     | some ρ1 =>
      obtain ⟨gl, gk⟩ := hgo _ _ _ _ zg
      refine thn (T.item (YlR X scope (TN ++ FN) G.objs.size s2 H2 fp) rfl rfl rfl hc i _ s3 σ3 H3 _ IP (stat fr3 hpl) tn3 g1) fun r s4 ⟨u, hr, h4⟩ => ?_
      subst hr
      refine thn h4 fun _ s5 ⟨x, H5, I5, r5, y5, st5, fr5⟩ => ?_
      obtain ⟨x5, rp5, d5⟩ := g2 x H5 y5
      have nD5 : H5 s2.heap.objs.size = none := (I5.pin _ (ZAe _ ZAM)).2.1
      have I5' := I5.pinned (stat fr5 hpl) (T.obj _ _ st5)
      refine ZA8 (bg _ s5 σ3 H5 x u (fun σ' H' => H' = H5 /\ YlI X.K as3 H5 ρ1 σ') I5' r5 ⟨as3, _, st3, p, ρ1, en3.ext x5, rp5, d5, zg, fun σ' en' => ⟨rfl, en'⟩⟩) (fun _ s6 ⟨σ6, H6, I6, e6, en6⟩ => ?_) fun _ _ f => f.elim
      subst e6
      cases zt : nt ρ1 st3 with
      | bad => simp only [YlX, e, zg, zt] at h; exact h.elim
      | exc k st' => simp only [YlX, e, zg, zt] at h; exact h.elim
      | ok k st4 =>
       refine ZA8 (bt _ s6 σ6 H6 (fun k' H' => k' = k /\ ∃ as', Ext as3 H6 as' H' /\ Rep X.K as' st4 H') I6 ⟨as3, ρ1, st3, en6, rp5, by rw [zt]; exact fun as' H' x rp => ⟨rfl, as', x, rp⟩⟩) (fun k' s7 ⟨H7, I7, ek, as7, x7, rp7⟩ => ?_) fun _ _ f => f.elim
       subst ek
       have fin : ∀ {H8 : Hp} {s8 : Shared} {as8 : List Addr} {st8 : Ylo} {acc' : List P} {vs' : List V} {its' : List Value} {m' : Nat} {s9 : Shared}, Inv (YlR X scope (TN ++ FN) G.objs.size s2 H2 fp) ([] : LAO) σ6 H8 s9 -> Ext as7 H7 as8 H8 -> Rep X.K as8 st8 H8 ->
        tn (i + 1) s9.heap -> (∀ b ∈ fp, H8 b = none) -> s9.heap.get? s2.heap.objs.size = some { cls := .type "list", data := .seq its'.toArray m' } -> H8 s2.heap.objs.size = none -> Vals vs' its' -> Dens X.K as8 H8 vs' acc' -> acc'.length <= cap ->
        YlU X as8 H8 ρ (YlX src g nt me (rho0 TN.length fr ρ) n (i + 1) st8 acc') Q -> ∃ m, m < n + 1 /\ ∃ i as' st' H' σ' acc vs its m_1, Inv (YlR X scope (TN ++ FN) G.objs.size s2 H2 fp) [] σ' H' s9 /\ YlI X.K as' H' (rho0 TN.length fr ρ) σ' /\ Ext as1 H2 as' H' /\ Rep X.K as' st' H' /\ tn i s9.heap /\ (∀ b ∈ fp, H' b = none) /\
         s9.heap.get? s2.heap.objs.size = some { cls := .type "list", data := .seq its.toArray m_1 } /\ H' s2.heap.objs.size = none /\ Vals vs its /\ Dens X.K as' H' vs acc /\ acc.length <= cap /\ YlU X as' H' ρ (YlX src g nt me (rho0 TN.length fr ρ) m i st' acc) Q :=
        fun {H8 s8 as8 st8 acc' vs' its' m' s9} I8 x8 rp8 t8 fr8 hD8 nD8 rv8 dn8 hl8 h8 => ⟨n, ZAx n, i + 1, as8, st8, H8, σ6, acc', vs', its', m', I8, YlI.ext x8 (YlI.ext x7 (en6.back gl gk)), ((x3.trans x5).trans x7).trans x8, rp8, t8, fr8, hD8, nD8, rv8, dn8, hl8, h8⟩
       have stay : ∀ {H8 : Hp} {s8 : Shared}, Inv (YlR X scope (TN ++ FN) G.objs.size s2 H2 fp) ([(s2.heap.objs.size, ({ cls := .type "list", data := .seq its.toArray m } : Obj))] ++ Yni fp s5.heap) σ6 H8 s8 ->
        tn (i + 1) s8.heap /\ (∀ b ∈ fp, H8 b = none) /\ s8.heap.get? s2.heap.objs.size = some { cls := .type "list", data := .seq its.toArray m } /\ H8 s2.heap.objs.size = none := fun {H8 s8} I8 => by
        refine ⟨T.keep _ _ _ st5 fun b hb o e => (I8.pin (b, o) (ZAe _ (ZAe _ (Ws hb e)))).1, fun b hb => ?_, ?_⟩
        ·obtain ⟨o, e, d⟩ := T.obj _ _ st5 b hb
         exact (I8.pin (b, o) (ZAe _ (ZAe _ (Ws hb e)))).2.1
        ·have q := I8.pin (s2.heap.objs.size, { cls := .type "list", data := .seq its.toArray m }) (ZAe _ (ZBH _ ZAM))
         exact ⟨q.1, q.2.1⟩
       have nopins : ∀ {H8 : Hp} {s8 : Shared} {pl : LAO}, Inv (YlR X scope (TN ++ FN) G.objs.size s2 H2 fp) pl σ6 H8 s8 -> Inv (YlR X scope (TN ++ FN) G.objs.size s2 H2 fp) [] σ6 H8 s8 := fun {H8 s8 pl} I8 => I8.pins_of fun p hp => by cases hp
       cases k' with
       | false =>
        simp only [YlX, e, zg, zt] at h
        rw [ZAE ZAO]
        obtain ⟨t7, f7, hD7, nD7⟩ := stay I7
        exact fin (s8 := s7) (nopins I7) Ext.refl rp7 t7 f7 hD7 nD7 rv (dn.ext (x5.trans x7)) hl (YlU.ext (x5.trans x7) h)
       | true =>
        rw [ZAF rfl]
        cases ze : me ρ1 st4 with
        | bad => simp only [YlX, e, zg, zt, ze] at h; exact h.elim
        | exc k st' => simp only [YlX, e, zg, zt, ze] at h; exact h.elim
        | ok q st8 =>
         simp only [YlX, e, zg, zt, ze] at h
         by_cases hlt : acc.length < cap
         ·rw [ZAF hlt] at h
          refine ZA8 (be _ s7 σ6 H7 (fun v' H' => ∃ as', Ext as7 H7 as' H' /\ Rep X.K as' st8 H' /\ Den X.K as' H' v' q) I7 ⟨as7, ρ1, st4, en6.ext x7, rp7, by rw [ze]; exact fun as' H' v' x rp d => ⟨as', x, rp, d⟩⟩) (fun w' s8 ⟨y, H8, I8, r8, as8, x8, rp8, d8⟩ => ?_) fun _ _ f => f.elim
          obtain ⟨t8, f8, hD8, nD8⟩ := stay I8
          have hll : its.length <= cap := by rw [<- rv.length, dn.length]; exact hl
          refine call_meets F.slot_list_append ⟨_, hD8, rfl⟩ F.entry_list_append (F.args_list_append_2 _ _) (PySem.list_append s2.heap.objs.size its.toArray m w' (by rw [ZAl]; exact ZAV hll Yt)) ⟨hD8, ?_⟩
          have hD9 := PySem.IsL.update hD8 (fun a => a.push w')
          rw [show its.toArray.push w' = (its ++ [w']).toArray by simp] at hD9
          have oth : ∀ b o, b ≠ s2.heap.objs.size -> s8.heap.get? b = some o -> (s8.heap.update s2.heap.objs.size (Obj.mapSeq fun a => a.push w')).get? b = some o := fun b o hb e => (ZAq _ _ (ZAs hb)).trans e
          have I9 : Inv (YlR X scope (TN ++ FN) G.objs.size s2 H2 fp) [] σ6 H8 { s8 with heap := s8.heap.update s2.heap.objs.size (Obj.mapSeq fun a => a.push w'), toks := s8.toks } :=
           Inv.turned (it := s2.heap.objs.size) (nopins I8) oth nD8 nDloc (.inr (ZAI _)) (fun y a e => cellD y a (c.cl e)) fun p hp => by cases hp
          refine fin (s8 := s8) (its' := its ++ [w']) I9 x8 rp8 (T.keep _ _ _ t8 fun b hb o e => oth b o (ZAN (hfl b hb)) e) f8 hD9 nD8 (rv.append (.cons r8 .nil)) ((dn.ext ((x5.trans x7).trans x8)).append (.cons d8 .nil)) ?_ (YlU.ext ((x5.trans x7).trans x8) h)
          rw [ZAJ, ZAg]; exact hlt
         ·rw [ZAE hlt] at h; exact h.elim
 exact codeAny_compStart_list (loop _ rfl) (T.self _ 0 _ _ _ (T.keep _ _ _ st2 fun b hb o e => keep b o e) (loop _ rfl))
theorem ZG {mi : MI} {g : MG} (hc : X.calm = true) (c : Ymm X scope TN FN fr) (hi : JI X tg iter mi) (hgo : Ynr TN.length g)
 (hb : ∀ C s₀ H₀ ex, JG (YlR X scope (TN ++ FN) C s₀ H₀ ex) tg g /\ JTs (YlR X scope (TN ++ FN) C s₀ H₀ ex) ifs nt /\ JE (YlR X scope (TN ++ FN) C s₀ H₀ ex) elt me)
 (hs : ∀ x, foldedSetIterable iter X.env x = pure x := by intro _; rfl) : JL X (.ListComp elt [⟨tg, iter, ifs, 0⟩] scope pos) (Ymr mi TN.length fr g nt me) := by
 intro pins s σ H Q I ht
 rw [eval_ListComp]
 exact Ybh hc c hi hgo hb hs I ht fun s4 C D H' ⟨m, hn⟩ _ _ inv q => ⟨m, hn, fun h' sb => ⟨.ref D, H', inv h' sb, rfl, q⟩⟩
def Yn3 (i : Nat) (ml : MA) : MS := fun ρ st => RS.ofE ρ (ml ρ st) fun ps st1 => .nx (ρ.set i (some (.ref st1.length))) (st1 ++ [.lst ps])
theorem Yc4 {pos' cpos : Pos} {mi : MI} {g : MG} (hN : X.N.Nodup) (hi' : X.N[i]? = some x) (hx : Loc X.env.scope x)
 (hc : X.calm = true) (c : Ymm X scope TN FN fr) (hi : JI X tg iter mi) (hgo : Ynr TN.length g)
 (hb : ∀ C s₀ H₀ ex, JG (YlR X scope (TN ++ FN) C s₀ H₀ ex) tg g /\ JTs (YlR X scope (TN ++ FN) C s₀ H₀ ex) ifs nt /\ JE (YlR X scope (TN ++ FN) C s₀ H₀ ex) elt me)
 (hs : ∀ x, foldedSetIterable iter X.env x = pure x := by intro _; rfl) (hsw : swapsWith (.ListComp elt [⟨tg, iter, ifs, 0⟩] scope cpos) (some (.Name x pos')) pos.line X.env = pure true := by rfl)
 (hf : X.fn x = true \/ X.env.scope.names.lookup x = some .local := by first | exact .inl rfl | exact .inr rfl | assumption) :
 JS X (.Assign [.Name x pos'] (.ListComp elt [⟨tg, iter, ifs, 0⟩] scope cpos) pos) (Yn3 i (Ymr mi TN.length fr g nt me)) := by
 intro pins s σ H D I ⟨as, ρ, st, en, rp, h⟩
 rw [exec_Assign_Name_used _ _ _ _ hsw]
 refine ZAA (ZCb (ZAA ?_))
 rw [arm_evalThenUse_ListComp]
 show 156
 refine Ybh (Q := fun v H' => ∃ as' ρ' st', YlI X.K as' H' ρ σ /\ Rep X.K as' st' H' /\ Den X.K as' H' v (.ref (st'.length - 1)) /\ ρ' = ρ.set i (some (.ref (st'.length - 1))) /\ YlJ X as' H' (.nx ρ' st') D) hc c hi hgo hb hs I ⟨as, ρ, st, en, rp, ?_⟩ ?_
 ·unfold Yn3 at h
  cases q : Ymr mi TN.length fr g nt me ρ st with
  | bad => show 172
  | exc k st' => show 172
  | ok ps st1 =>
   rw [q] at h
   intro as' H' l vs x rp' hl fr' d
   have en' : YlI X.K (as' ++ [l]) H' ρ σ := (en.ext x).ext Ext.add
   have rp'' : Rep X.K (as' ++ [l]) (st1 ++ [.lst ps]) H' := rp'.add fr' ⟨vs, hl, d.ext Ext.add⟩
   have el : (st1 ++ [O.lst ps]).length - 1 = st1.length := by simp
   refine ⟨as' ++ [l], _, st1 ++ [.lst ps], en', rp'', ?_, rfl, ?_⟩
   ·rw [el]; exact .ref (by rw [<- rp'.len]; exact Vg)
   ·rw [el]; exact YlJ.ext (x.trans Ext.add) h
 ·intro s4 C Dl H' ⟨m, hn⟩ nC fo inv ⟨as', ρ', st', en', rp', d', hρ, hq⟩
  have I4 : Inv X pins σ H' s4 := inv s4.heap (Heap.SameBut.refl _ _)
  show wpAny _ _ (assign (.Name x pos') X.env (.ref Dl)) _ _ _
  refine wpAny_assign_Name (Ya7 I4 hN hi' hx (v := .ref Dl) rfl (fun s5 I5 ⟨a, sb, ha⟩ => ?_) hf)
  have hCa : C ≠ a := by
   rcases ha with rfl | ha
   ·exact fo.2.1
   ·exact fun z => fo.2.2.2.2.1 x a ha z.symm
  have hn5 : s5.heap.Ns C m := by
   obtain ⟨o, es, ep, e, r⟩ := hn
   exact ⟨o, es, ep, (sb.2 C hCa).trans e, r⟩
  refine ⟨m, hn5, fun h' sb' => ZAC ?_⟩
  have I6 : Inv X pins (σ.set i (some (.ref Dl))) H' { s5 with heap := h', toks := s5.toks } := I5.turned (it := C) (fun b o hb e => (sb'.2 b hb).trans e) nC fo.2.1 fo.2.2.2.1 fo.2.2.2.2.1 fo.2.2.2.2.2
  refine ZAC ⟨σ.set i (some (.ref Dl)), H', I6, hq as' H' _ Ext.refl rp' ?_⟩
  rw [hρ]
  exact en'.set d'
end
abbrev MF := List P -> Ylo -> R P
def fnM (n : Nat) (m : MS) : MF := fun ps st => match m (ps.map some ++ List.replicate (n - ps.length) none) st with
 | .nx _ st' => .ok .non st'
 | .rt p st' => .ok p st'
 | _ => .bad
def spM (K : Frag) (n : Nat) (mf : MF) : Sp := fun vs H Q _ => vs.length = n /\ ∃ as st ps, Rep K as st H /\ Dens K as H vs ps /\ match mf ps st with
 | .ok p st' => ∀ as' H' v, Ext as H as' H' -> Rep K as' st' H' -> Den K as' H' v p -> Q v H'
 | _ => False
abbrev FM (P' : Program) (w : World) (K : Frag) (mg : SOV) (base : Heap) (k : Nat) (f : Addr) (fd : FuncData) (ps : List Str) (mf : MF) : Prop := YmV P' w K mg base CX0 k f fd ps (spM K ps.length mf)
theorem Yfh {ps : List P} {N : List Str} (d : Dens K as H vs ps) : YlI K as H (ps.map some ++ List.replicate (N.length - ps.length) none) (L2.start N vs) :=
 ⟨by unfold L2.start; simp [d.length], fun i p e => by
  have hl := d.length
  by_cases hi : i < ps.length
  ·rw [List.getElem?_append_left (by simpa using hi), List.getElem?_map] at e
   cases q : ps[i]? with
   | none => show 196
   | some p' =>
    rw [q] at e
    cases e
    obtain ⟨v, h1, h2⟩ := d.get q
    refine ⟨v, ?_, h2⟩
    unfold L2.start
    rw [List.getElem?_append_left (by simp; omega), List.getElem?_map, h1]
    rfl
  ·rw [List.getElem?_append_right (by simpa using hi), List.getElem?_replicate] at e
   split at e <;> cases e⟩
section
variable {P' : Program} {w : World} {K : Frag} {mg : SOV} {base : Heap}
theorem Fun.mirror {x qual : Str} {st : Stmt} {f : Addr} {fd : FuncData} {N ps : List Str} {k : Nat} {m : MS} (F : Fun K x qual st f fd) (S : YlC N ps (Yln st))
 (hbody : ∀ (cdv : Value) (A : Around) (outer : List Env) (s : Shared) (H : Hp) (E : XK), Ymn k (A.deeper (envOfC qual (Yln st) s.heap.objs.size f cdv)) -> JSs (YnL CX0 P' w K mg base N qual (Yln st) f cdv A outer s H E).nox (Ylw st) m) :
 FM P' w K mg base (k + 1) f fd ps (fnM N.length m) := by
 refine F.ok S (fun vs H Q E h => h.1) (fun cdv A outer s H vs Q E hr h => ⟨_, hbody cdv A outer s H E hr, ?_⟩)
 obtain ⟨hl, as, st', qs, rp, d, h⟩ := h
 refine ⟨as, _, st', Yfh d, rp, ?_⟩
 unfold fnM at h
 cases q : m (qs.map some ++ List.replicate (N.length - qs.length) none) st' with
 | nx ρ' s' => rw [q] at h; exact fun as' H' σ' x rp en => h as' H' .non x rp .non
 | rt p s' => show 172
 | bk ρ' s' => show 246
 | ct ρ' s' => show 246
 | exc k ρ' s' => show 246
 | bad => show 246
end
section
variable {f : Addr} {fd : FuncData} {ps : List Str} {mf : MF} {p : Pos} {es : List Expr}
def YlK (n : Nat) (mf : MF) (mr : MA) : ME := fun ρ st => (mr ρ st).bind fun ps st1 => if ps.length = n then match mf ps st1 with
 | .ok p st2 => .ok p st2
 | _ => .bad else .bad
theorem YhS (F : FM X.prog X.w X.K X.mg X.base k f fd ps mf) (hr : Ymn k X.A) (hg : Gl X x) (hm : X.mg x = some (.ref f)) (hk : PySem.W.keepIn X.K (.ref f) = true) (hb : Binds X.K fd ps [])
 (ha : JA X (e :: es) mr) (hdb : (x == ("__debug__" : Str)) = false := by decide) (he : starEach (e :: es) X.env = (false, eval e X.env) :: starEach es X.env := by rfl) (hpl : (backTo pos (starEach es X.env)).any (·.1) = false := by rfl) :
 JE X (.Call (.Name x p) (e :: es) [] pos) (YlK ps.length mf mr) :=
 PE.imp (Yiy F hr hg hm hk hb .nil (pass0 (X := X)) ha hdb he hpl) fun σ H Q ⟨as, ρ, st, en, rp, h⟩ => ⟨as, ρ, st, en, rp, YlH.bindA h fun qs st1 as1 H1 vs x rp1 d h1 => by
  rw [ZBu]
  by_cases hl : qs.length = ps.length
  ·rw [ZAF hl] at h1
   refine ⟨by rw [d.length]; exact hl, as1, st1, qs, rp1, d, ?_⟩
   cases z : mf qs st1 with
   | ok p' st2 => rw [z] at h1; exact h1
   | exc k s' => rw [z] at h1; exact h1.elim
   | bad => rw [z] at h1; exact h1.elim
  ·rw [ZAE hl] at h1; exact h1.elim⟩
end
abbrev GC := List P -> Ylo -> Option (P × Ylo)
def rMC (X : Cx) (g : GC) : List V -> Hp -> VK -> Prop := fun xs H Q => ∃ as st ps, Rep X.K as st H /\ Dens X.K as H xs ps /\ YlG X as H (g ps st) Q
def eB (g : GC) (mr : MA) : ME := fun ρ st => (mr ρ st).bind fun ps st1 => ofO (g ps st1)
section
variable {p : Pos} {es : List Expr} {id : String} {g : GC}
theorem Yl2.imp {r r' : List V -> Hp -> VK -> Prop} (h : Yl2 X f r) (i : ∀ xs H Q, r' xs H Q -> r xs H Q) : Yl2 X f r' := fun pins s σ H xs us Q I rv q => h pins s σ H xs us Q I rv (i xs H Q q)
theorem YfO {Q : VK} (h : tE X (eB g mr) σ H Q) : tCB (rMC X g) (tA X mr) σ H Q := by
 show 236
 exact ⟨as, ρ, st, en, rp, YlH.bindA h fun ps st1 as1 H1 vs x rp1 d h1 => ⟨as1, st1, ps, rp1, d, YlH.ofO h1⟩⟩
theorem je_B (hc : Yl2 X (.builtin id) (rMC X g)) (hg : Gl X x) (hm : X.mg x = none) (hv : bootBuiltins x = some (.builtin id)) (ha : JA X (e :: es) mr) (hn : x ≠ "__name__" := by decide) (hdb : (x == ("__debug__" : Str)) = false := by decide)
 (he : starEach (e :: es) X.env = (false, eval e X.env) :: starEach es X.env := by rfl) (hpl : (backTo pos (starEach es X.env)).any (·.1) = false := by rfl) : JE X (.Call (.Name x p) (e :: es) [] pos) (eB g mr) :=
 PE.imp (Ycv hc hg hm hv ha hn hdb he hpl) fun _ _ _ h => YfO h
theorem YdG (hc : Yl2 X (.type T) (rMC X g)) (hg : Gl X x) (hm : X.mg x = none) (hv : bootBuiltins x = some (.type T)) (ha : JA X (e :: es) mr) (hn : x ≠ "__name__" := by decide) (hdb : (x == ("__debug__" : Str)) = false := by decide)
 (he : starEach (e :: es) X.env = (false, eval e X.env) :: starEach es X.env := by rfl) (hpl : (backTo pos (starEach es X.env)).any (·.1) = false := by rfl) : JE X (.Call (.Name x p) (e :: es) [] pos) (eB g mr) :=
 PE.imp (VN hc hg hm hv ha hn hdb he hpl) fun _ _ _ h => YfO h
theorem cM (h : ∀ pins s σ H xs us Q as st ps, Inv X pins σ H s -> Vals xs us -> Rep X.K as st H -> Dens X.K as H xs ps -> YlG X as H (g ps st) Q -> wpAny (model X.prog X.w) X.A (call f us) (EP X pins σ Q) X.xe s) : Yl2 X f (rMC X g) :=
 fun pins s σ H xs us Q I rv ⟨as, st, ps, rp, d, po⟩ => h pins s σ H xs us Q as st ps I rv rp d po
def Ymw : GC := fun ps st => match ps with
 | [.str z] => if z.length <= cap then okP (.int z.length) st else none
 | [.ref k] => match st[k]? with
  | some (.lst xs) => okP (.int xs.length) st
  | some (.ro xs) => okP (.int xs.length) st
  | some (.dct kvs) => okP (.int kvs.length) st
  | _ => none
 | [.tup xs] => okP (.int xs.length) st
 | _ => none
theorem Dens.one {xs : List V} {p : P} (d : Dens K as H xs [p]) : ∃ v, xs = [v] /\ Den K as H v p := by
 cases d with
 | cons a b => cases b; exact ⟨_, rfl, a⟩
theorem Dens.two {xs : List V} {p q : P} (d : Dens K as H xs [p, q]) : ∃ v w, xs = [v, w] /\ Den K as H v p /\ Den K as H w q := by
 cases d with
 | cons a b =>
  cases b with
  | cons c d => cases d; exact ⟨_, _, rfl, a, c⟩
theorem Yli {ps : List P} {α : Type} {f : P -> Option α} {r : α} (h : (match ps with | [p] => f p | _ => none) = some r) : ∃ p, ps = [p] /\ f p = some r := by
 match ps, h with
 | [p], h => exact ⟨p, rfl, h⟩
theorem ZC : Yl2 X (.builtin "len") (rMC X Ymw) := cM fun pins s σ H xs us Q as st ps I rv rp d h => by
 match ps, d, h with
 | [], _, h => show 144
 | _ :: _ :: _, _, h => exact (by simp only [Ymw] at h; exact h.elim)
 | [p], d, h =>
  show 245
  cases d1 with
  | @str z =>
   have h' : YlG X as H (if z.length <= cap then okP (.int z.length) st else none) Q := h
   by_cases hz : z.length <= cap
   ·rw [ZAF hz] at h'
    exact YbT pins s σ H _ us Q I rv ⟨z, rfl, ZAV hz Yt, h' as H _ Ext.refl rp .int⟩
   ·rw [ZAE hz] at h'; exact h'.elim
  | tup e r =>
   refine Wl pins s σ H _ us Q I rv ⟨_, _, rfl, .inr e, ?_⟩
   rw [r.length]
   exact h as H _ Ext.refl rp .int
  | @ref k a e =>
   have h' : YlG X as H (match st[k]? with | some (.lst xs) => okP (.int xs.length) st | some (.ro xs) => okP (.int xs.length) st | some (.dct kvs) => okP (.int kvs.length) st | _ => none) Q := h
   cases q : st[k]? with
   | none => show 201
   | some o =>
    rw [q] at h'
    have ob := rp.ob k a o e q
    cases o with
    | lst ys =>
     show 189
     refine Wl pins s σ H _ us Q I rv ⟨_, _, rfl, .inl (.of h1), ?_⟩
     rw [h2.length]
     show 252
    | ro ys =>
     show 189
     refine Wl pins s σ H _ us Q I rv ⟨_, _, rfl, .inl (Z8 h1), ?_⟩
     rw [h2.length]
     show 252
    | dct kvs =>
     obtain ⟨ws, h1, h2, h3⟩ := ob
     refine YeK pins s σ H _ us Q I rv ⟨_, _, rfl, h1, ?_⟩
     have : ws.length = kvs.length := by simpa using congrArg List.length h2
     show 164
     show 252
    | exc c fs => show 166
    | dtt kvs => show 166
    | fdc kvs => show 166
  | _ => show 144
def Ym0 : GC := fun ps st => match ps with
 | [p] => match Yl4 p st with
  | some xs => okP (.tup xs) st
  | none => none
 | _ => none
theorem Ygj : Yl2 X (.type "tuple") (rMC X Ym0) := cM fun pins s σ H xs us Q as st ps I rv rp d h => by
 match ps, d, h with
 | [], _, h => show 144
 | _ :: _ :: _, _, h => exact (by simp only [Ym0] at h; exact h.elim)
 | [p], d, h =>
  show 245
  have h' : YlG X as H (match Yl4 p st with | some xs => okP (.tup xs) st | none => none) Q := h
  cases q : Yl4 p st with
  | none => show 201
  | some xs =>
   rw [q] at h'
   obtain ⟨a, vs, rfl, hq, r⟩ := YhZ rp d1 q
   refine W3 pins s σ H _ us Q I rv ⟨a, vs, rfl, ?_⟩
   rcases hq with hq | ⟨hq, tk⟩
   ·exact .inl ⟨hq, fun l hl => h' as _ _ (Ext.laid hl) (rp.laid hl) (.tup (.of Yn) (r.ext (Ext.laid hl)))⟩
   ·exact .inr ⟨hq, h' as H _ Ext.refl rp (.tup hq r)⟩
def Yn1 (m : MA) : ME := fun ρ st => (m ρ st).bind fun ps st1 => .ok (.tup ps) st1
theorem Ya6 {m : MA} (hg : Gl X "tuple") (hm : X.mg "tuple" = none) (hv : bootBuiltins "tuple" = some (.type "tuple")) (h : JL X e m)
 (he : starEach [e] X.env = (false, eval e X.env) :: starEach [] X.env := by rfl) : JE X (.Call (.Name "tuple" p) [e] [] pos) (Yn1 m) :=
 PE.imp (VN W3 hg hm hv (WW h Yad he) (by decide) (by decide) he) fun σ H Q ⟨as, ρ, st, en, rp, h⟩ => ⟨as, ρ, st, en, rp, YlH.bindL h fun ps st1 as1 H1 l vs x rp1 hl fr d h1 =>
  ⟨l, vs, rfl, .inl ⟨.of hl, fun p hp => h1 as1 _ _ (Ext.laid hp) (rp1.laid hp) (.tup (.of Yn) (d.ext (Ext.laid hp)))⟩⟩⟩
end
abbrev GM := P -> List P -> Ylo -> Option (P × Ylo)
def rMM (X : Cx) (g : GM) : V -> List V -> Hp -> VK -> Prop := fun x xs H Q => ∃ as st p ps, Rep X.K as st H /\ Den X.K as H x p /\ Dens X.K as H xs ps /\ YlG X as H (g p ps st) Q
def isStr : P -> Ylo -> Bool := fun p _ => match p with
 | .str _ => true
 | _ => false
def Ymq : P -> Ylo -> Bool := fun p st => match p with
 | .ref k => (match st[k]? with
  | some (.lst _) => true
  | some (.ro _) => true
  | _ => false)
 | _ => false
def eM (ty : P -> Ylo -> Bool) (g : GM) (me : ME) (mr : MA) : ME := fun ρ st => (me ρ st).bind fun p st1 => if ty p st1 = true then (mr ρ st1).bind fun ps st2 => ofO (g p ps st2) else .bad
def Ypd (T : String) (ty : P -> Ylo -> Bool) : Prop := ∀ (K : Frag) as st H v p, Rep K as st H -> Den K as H v p -> ty p st = true -> tyV K T v H
theorem ZD : Ypd "list" Ymq := fun K as st H v p rp d h => by
 cases d with
 | @ref k a e =>
  have h' : (match st[k]? with | some (.lst _) => true | some (.ro _) => true | _ => false) = true := h
  cases q : st[k]? with
  | none => rw [q] at h'; cases h'
  | some o =>
   rw [q] at h'
   have ob := rp.ob k a o e q
   cases o with
   | lst ys => obtain ⟨vs, h1, _⟩ := ob; exact .inl ⟨rfl, vs, .of h1⟩
   | ro ys => obtain ⟨vs, h1, _⟩ := ob; exact .inl ⟨rfl, vs, Z8 h1⟩
   | dct ys => cases h'
   | exc c fs => cases h'
   | dtt kvs => cases h'
   | fdc kvs => cases h'
 | _ => cases h
section
variable {o : Expr} {es : List Expr} {name : Str} {apos cpos : Pos} {id : String} {g : GM} {ty : P -> Ylo -> Bool}
theorem je_M (hT : Ypd T ty) (pa : PlainAttrs T) (slot : Slot T name id) (hty : typeOf (.builtin id) = pure (.type "method_descriptor")) (hm : MtR X id (rMM X g)) (ho : JE X o me) (ha : JA X (e :: es) mr)
 (hbase : attributeBase o name X.env (eval o X.env) = eval o X.env := by rfl)
 (hfew : ((backTo cpos (starEach (e :: es) X.env)).all (fun x => !x.1) && (backToKw cpos (keywordEach [] X.env)).all (fun x => x.1.isSome)
  && decide ((e :: es).length + ([] : List Keyword).length + (if ([] : List Keyword).isEmpty then 0 else 1) < 30)) = true := by rfl)
 (hline : (apos.endLine == cpos.line) = true := by rfl) (hs : starEach (e :: es) X.env = (false, eval e X.env) :: starEach es X.env := by rfl) (hplain : (backTo cpos (starEach es X.env)).any (·.1) = false := by rfl) :
 JE X (.Call (.Attribute o name apos) (e :: es) [] cpos) (eM ty g me mr) :=
 PE.imp (YiV pa slot hty hm ho ha hbase hfew hline hs hplain) fun σ H Q ⟨as, ρ, st, en, rp, h⟩ => ⟨as, ρ, st, en, rp, YlH.bindE h fun p st1 as1 H1 v x rp1 d h1 => by
  by_cases z : ty p st1 = true
  ·rw [ZAF z] at h1
   exact ⟨hT _ _ _ _ _ _ rp1 d z, as1, ρ, st1, en.ext x, rp1, YlH.bindA h1 fun ps st2 as2 H2 vs x2 rp2 d2 h2 => ⟨as2, st2, p, ps, rp2, d.ext x2, d2, YlH.ofO h2⟩⟩
  ·rw [ZAE z] at h1; exact h1.elim⟩
theorem mM (h : ∀ pins s σ H x xs v us Q as st p ps, Inv X pins σ H s -> RelV x v -> Vals xs us -> Rep X.K as st H -> Den X.K as H x p -> Dens X.K as H xs ps -> YlG X as H (g p ps st) Q ->
 wpAny (model X.prog X.w) X.A (call (.builtin id) (v :: us)) (EP X pins σ Q) X.xe s) : MtR X id (rMM X g) :=
 fun pins s σ H x xs v us Q I rx rv ⟨as, st, p, ps, rp, d1, d2, po⟩ => h pins s σ H x xs v us Q as st p ps I rx rv rp d1 d2 po
def Ypv : GM := fun p ps st => match p, ps with
 | .str x, [] => if x.length <= cap then okP (.str (Txt.upper x)) st else none
 | _, _ => none
def Yl5 : GM := fun p ps st => match p, ps with
 | .ref k, [q] => match YlM st k with
  | some xs => if xs.length < cap then some (.non, st.set k (.lst (xs ++ [q]))) else none
  | none => none
 | _, _ => none
theorem YZ : MtR X "list.append" (rMM X Yl5) := mM fun pins s σ H x xs v us Q as st p ps I rx rv rp d1 d2 h => by
 match p, ps, d1, d2, h with
 | .ref k, [q], d1, d2, h =>
  have h' : YlG X as H (match YlM st k with | some xs => if xs.length < cap then some (.non, st.set k (.lst (xs ++ [q]))) else none | none => none) Q := h
  cases z : YlM st k with
  | none => rw [z] at h'; exact h'.elim
  | some ys =>
   show 168
   obtain ⟨a, vs, rfl, e, hk, h1, h2⟩ := Vj rp d1 z
   obtain ⟨y, rfl, dy⟩ := d2.one
   by_cases hl : ys.length < cap
   ·simp only [if_pos hl] at h'
    refine YeM pins s σ H _ _ v us Q I rx rv ⟨a, vs, y, rfl, rfl, h1, by rw [h2.length]; exact ZAP hl Yt, ?_⟩
    exact h' as _ _ (Ext.write h1 trivial) (rp.lset e h1 hk (h2.append (.cons dy .nil))) .non
   ·simp only [if_neg hl] at h'; exact h'.elim
 | .ref k, [], _, _, h => show 144
 | .ref k, _ :: _ :: _, _, _, h => show 144
 | .non, _, _, _, h => show 144
 | .bl _, _, _, _, h => show 144
 | .int _, _, _, _, h => show 144
 | .str _, _, _, _, h => show 144
 | .tup _, _, _, _, h => show 144
def YmB : List P -> Option (List Str)
 | [] => some []
 | .str x :: r => (YmB r).map (x :: ·)
 | _ :: _ => none
theorem Vi {K : Frag} {as : List Addr} {H : Hp} : ∀ {ps : List P} {vs : List V} {us : List Value} {ys : List Str}, Dens K as H vs ps -> Vals vs us -> YmB ps = some ys -> StrsAre us ys
 | [], _, _, _, .nil, .nil, h => by cases h; exact .nil
 | p :: r, _, _, ys, .cons d d', .cons r1 r2, h => by
  cases d with
  | @str x =>
   have h' : (YmB r).map (x :: ·) = some ys := h
   cases q : YmB r with
   | none => rw [q] at h'; cases h'
   | some zs =>
    rw [q] at h'
    cases h'
    obtain ⟨t, rfl⟩ := r1
    exact .cons x t (Vi d' r2 q)
  | _ => cases h
def YmH (x : Str) (ys : List Str) : Nat := (ys.map (·.length)).sum + ys.length * x.length
def Ym2 (me : ME) (m : MA) : ME := fun ρ st => (me ρ st).bind fun p st1 => match p with
 | .str x => (m ρ st1).bind fun ps st2 => match YmB ps with
  | some ys => if YmH x ys <= cap then .ok (.str (Txt.join x ys)) st2 else .bad
  | none => .bad
 | _ => .bad
theorem Ygi : MtR X "str.join" (fun x xs H Q => ∃ z a vs ys, x = .str z /\ xs = [.ref a] /\ (SqL X.K H a vs \/ SqT X.K H a vs) /\ (∀ us, Vals vs us -> StrsAre us ys) /\ YmH z ys <= cap /\ Q (.str (Txt.join z ys)) H) := by
 intro pins s σ H x xs v us Q I rx rv h
 obtain ⟨z, a, vs, ys, rfl, rfl, hq, hs, hl, q⟩ := h
 show 191
 obtain ⟨u, rfl, ru⟩ := rv.one
 cases ru
 have hc : YmH z ys <= 16777216 := ZAV hl (by decide)
 show 213
 ·obtain ⟨its, r, p, _⟩ := I.list hq
  exact join_list p.isList (hs _ (by simpa using r)) hc fun t' k => ⟨.str _, H, I.tok _, ⟨_, rfl⟩, q⟩
 ·obtain ⟨its, r, p, _⟩ := I.tuple hq
  exact join_tuple p (hs _ (by simpa using r)) hc fun t' k => ⟨.str _, H, I.tok _, ⟨_, rfl⟩, q⟩
theorem VL {m : MA} (ho : JE X o me) (h : JL X e m)
 (hbase : attributeBase o "join" X.env (eval o X.env) = eval o X.env := by rfl)
 (hfew : ((backTo cpos (starEach [e] X.env)).all (fun x => !x.1) && (backToKw cpos (keywordEach [] X.env)).all (fun x => x.1.isSome)
  && decide (([e] : List Expr).length + ([] : List Keyword).length + (if ([] : List Keyword).isEmpty then 0 else 1) < 30)) = true := by rfl)
 (hline : (apos.endLine == cpos.line) = true := by rfl) (hs : starEach [e] X.env = (false, eval e X.env) :: starEach [] X.env := by rfl) : JE X (.Call (.Attribute o "join" apos) [e] [] cpos) (Ym2 me m) :=
 PE.imp (YiV PySem.F.plainAttrs_str PySem.F.slot_str_join PySem.F.type_str_join Ygi ho (WW h Yad hs) hbase hfew hline hs) fun σ H Q ⟨as, ρ, st, en, rp, h⟩ => ⟨as, ρ, st, en, rp, YlH.bindE h fun p st1 as1 H1 v x rp1 d h1 => by
  cases d with
  | @str z =>
   refine ⟨rfl, as1, ρ, st1, en.ext x, rp1, YlH.bindL h1 fun ps st2 as2 H2 l vs x2 rp2 hl fr d2 h2 => ?_⟩
   cases q : YmB ps with
   | none => rw [q] at h2; exact h2.elim
   | some ys =>
    rw [q] at h2
    by_cases hz : YmH z ys <= cap
    ·simp only [if_pos hz] at h2
     exact ⟨z, l, vs, ys, rfl, rfl, .inl (.of hl), fun us r => Vi d2 r q, hz, h2 as2 H2 _ Ext.refl rp2 .str⟩
    ·simp only [if_neg hz] at h2; exact h2.elim
  | _ => exact h1.elim⟩
end
def Ymt : P -> Option Key
 | .int i => some (.inl i)
 | .str x => some (.inr x)
 | _ => none
theorem Vb {k : Key} (d : Den K as H v p) (h : Ymt p = some k) : v = kV k := by
 cases d with
 | int => cases h; rfl
 | str => cases h; rfl
 | _ => cases h
def YlL {κ : Type} [DecidableEq κ] (kvs : List (κ × P)) (k : κ) : Option P := (kvs.find? fun kv => decide (kv.1 = k)).map (·.2)
def Ymp {κ : Type} [DecidableEq κ] (kvs : List (κ × P)) (k : κ) (v : P) : List (κ × P) :=
 if (kvs.any fun kv => decide (kv.1 = k)) = true then kvs.map fun kv => if kv.1 = k then (kv.1, v) else kv else kvs ++ [(k, v)]
inductive OptDen (K : Frag) (as : List Addr) (H : Hp) : Option V -> Option P -> Prop where
 | none : OptDen K as H none none
 | some {v : V} {p : P} : Den K as H v p -> OptDen K as H (some v) (some p)
section
theorem Zk {κ : Type} [DecidableEq κ] {k : κ} : ∀ {ws : List (κ × V)} {kvs : List (κ × P)}, ws.map (·.1) = kvs.map (·.1) -> Dens K as H (ws.map (·.2)) (kvs.map (·.2)) -> OptDen K as H (YmK ws k) (YlL kvs k)
 | [], [], _, _ => .none
 | [], _ :: _, h, _ => by simp at h
 | _ :: _, [], h, _ => by simp at h
 | (k1, v) :: ws, (k2, p) :: kvs, h, d => by
  simp only [List.map_cons, List.cons.injEq] at h
  obtain ⟨rfl, h⟩ := h
  cases d with
  | cons d1 d2 =>
   by_cases e : k1 = k
   ·rw [Vr (p := (k1, v)) e]
    have : YlL ((k1, p) :: kvs) k = some p := by simp [YlL, List.find?_cons, e]
    rw [this]; exact .some d1
   ·rw [Vy (p := (k1, v)) e]
    have : YlL ((k1, p) :: kvs) k = YlL kvs k := by simp [YlL, List.find?_cons, e]
    rw [this]; exact Zk h d2
theorem Ybv {κ : Type} [DecidableEq κ] {k : κ} (dv : Den K as H v p) {ws : List (κ × V)} {kvs : List (κ × P)} (h : ws.map (·.1) = kvs.map (·.1)) (d : Dens K as H (ws.map (·.2)) (kvs.map (·.2))) :
 (putK ws k v).map (·.1) = (Ymp kvs k p).map (·.1) /\ Dens K as H ((putK ws k v).map (·.2)) ((Ymp kvs k p).map (·.2)) := by
 have hany : (ws.any fun kv => decide (kv.1 = k)) = (kvs.any fun kv => decide (kv.1 = k)) := by
  have e1 : (ws.any fun kv => decide (kv.1 = k)) = (ws.map (·.1)).any fun x => decide (x = k) := by rw [List.any_map]; rfl
  have e2 : (kvs.any fun kv => decide (kv.1 = k)) = (kvs.map (·.1)).any fun x => decide (x = k) := by rw [List.any_map]; rfl
  rw [e1, e2, h]
 unfold putK Ymp
 rw [hany]
 by_cases z : (kvs.any fun kv => decide (kv.1 = k)) = true
 ·rw [ZAF z, ZAF z]
  clear z hany
  induction ws generalizing kvs with
  | nil =>
   cases kvs with
   | nil => exact ⟨rfl, .nil⟩
   | cons a b => simp at h
  | cons a ws ih =>
   cases kvs with
   | nil => simp at h
   | cons b kvs =>
    obtain ⟨k1, v1⟩ := a
    obtain ⟨k2, p2⟩ := b
    simp only [List.map_cons, List.cons.injEq] at h
    obtain ⟨rfl, h⟩ := h
    cases d with
    | cons d1 d2 =>
     obtain ⟨i1, i2⟩ := ih h d2
     simp only [List.map_cons]
     by_cases e : k1 = k
     ·simp only [if_pos e]
      exact ⟨by rw [i1], .cons dv i2⟩
     ·simp only [if_neg e]
      exact ⟨by rw [i1], .cons d1 i2⟩
 ·rw [ZAE z, ZAE z, ZAU, ZAU, ZAU, ZAU, h]
  exact ⟨rfl, d.append (.cons dv .nil)⟩
theorem Yar {kvs : List (Key × P)} (rp : Rep K as st H) (d : Den K as H v (.ref k)) (h : st[k]? = some (.dct kvs)) :
 ∃ a ws, v = .ref a /\ as[k]? = some a /\ H a = some (.dK ws) /\ ws.map (·.1) = kvs.map (·.1) /\ Dens K as H (ws.map (·.2)) (kvs.map (·.2)) := by
 cases d with
 | ref e =>
  obtain ⟨ws, h1, h2, h3⟩ := rp.ob k _ _ e h
  exact ⟨_, ws, rfl, e, h1, h2, h3⟩
end
def ixI (xs : List P) (q : P) (st : Ylo) : Option (P × Ylo) := match q with
 | .int i => (atI xs i).map fun p => (p, st)
 | _ => none
def ixP : G2 := fun p q st => match p with
 | .str z => (match q with
  | .int i => if z.length <= cap then (atI z.cps.toList i).map fun c => (P.str ⟨#[c]⟩, st) else none
  | _ => none)
 | .tup xs => ixI xs q st
 | .ref k => (match st[k]? with
  | some (.lst xs) => ixI xs q st
  | some (.ro xs) => ixI xs q st
  | some (.dct kvs) => (match Ymt q with
   | some k => (YlL kvs k).map fun p => (p, st)
   | none => none)
  | _ => none)
 | _ => none
theorem IxR.imp {r r' : R2} (h : IxR X r) (i : ∀ x y H Q, r' x y H Q -> r x y H Q) : IxR X r' := fun value slice pins s σ H x y v u Q I rx ry q => h value slice pins s σ H x y v u Q I rx ry (i x y H Q q)
theorem Ybt {i : Int} (d : Dens K as H vs xs) (h : atI xs i = some p) : ∃ v, atI vs i = some v /\ Den K as H v p := by
 unfold atI at h ⊢
 rw [d.length]
 cases e : ixN xs.length i with
 | none => rw [e] at h; cases h
 | some j =>
  rw [e] at h
  obtain ⟨v, h1, h2⟩ := d.get (show xs[j]? = some p from h)
  exact ⟨v, h1, h2⟩
section
variable {a b o i : Expr} {ma mb mo mi : ME} {pos' : Pos}
theorem YbI (hu : X.A.units + 1 < cLine) : IxR X (fun x y H Q => ∃ a v, x = .ref a /\ YmJ H a y (some v) /\ Q v H) := by
 show 251
 obtain ⟨a, w, rfl, g, q⟩ := h
 cases rx
 exact tail_any (Yb2 I g) PySem.F.slot_dict_getitem.lookup (Yen hu I g ry fun w' s3 I3 rw' => ⟨w, H, I3, rw', q⟩) hs
theorem Yhi (hu : X.A.units + 1 < cLine) : IxR X (rM X ixP) := IxR.imp ((YjR (X := X)).or (YbI hu)) fun x y H Q ⟨as, st, p, q, rp, d1, d2, h⟩ => by
 cases d1 with
 | @str z =>
  cases d2 with
  | @int j =>
   have h' : YlG X as H (if z.length <= cap then (atI z.cps.toList j).map fun c => (P.str ⟨#[c]⟩, st) else none) Q := h
   by_cases hz : z.length <= cap
   ·rw [ZAF hz] at h'
    cases e : atI z.cps.toList j with
    | none => rw [e] at h'; exact h'.elim
    | some c => rw [e] at h'; exact .inl (.inr (.inr ⟨z, j, c, rfl, rfl, ZAV hz Yt, e, h' as H _ Ext.refl rp .str⟩))
   ·rw [ZAE hz] at h'; exact h'.elim
  | _ => show 144
 | @tup a vs xs e r =>
  cases d2 with
  | @int j =>
   have h' : YlG X as H ((atI xs j).map fun p => (p, st)) Q := h
   cases q : atI xs j with
   | none => show 201
   | some p =>
    rw [q] at h'
    obtain ⟨v, h1, h2⟩ := Ybt r q
    exact .inl (.inr (.inl ⟨a, vs, j, v, rfl, rfl, e, h1, h' as H _ Ext.refl rp h2⟩))
  | _ => show 144
 | @ref k a e =>
  have h' : YlG X as H (match st[k]? with
   | some (.lst xs) => ixI xs q st
   | some (.ro xs) => ixI xs q st
   | some (.dct kvs) => (match Ymt q with
    | some k => (YlL kvs k).map fun p => (p, st)
    | none => none)
   | _ => none) Q := h
  cases w : st[k]? with
  | none => show 237
  | some ob =>
   rw [w] at h'
   have r := rp.ob k a ob e w
   cases ob with
   | lst xs =>
    obtain ⟨vs, h1, h2⟩ := r
    cases d2 with
    | @int j =>
     have h' : YlG X as H ((atI xs j).map fun p => (p, st)) Q := h'
     cases q : atI xs j with
     | none => show 201
     | some p =>
      rw [q] at h'
      obtain ⟨v, g1, g2⟩ := Ybt h2 q
      exact .inl (.inl ⟨a, vs, j, v, rfl, rfl, .of h1, g1, h' as H _ Ext.refl rp g2⟩)
    | _ => show 166
   | ro xs =>
    obtain ⟨vs, h1, h2⟩ := r
    cases d2 with
    | @int j =>
     have h' : YlG X as H ((atI xs j).map fun p => (p, st)) Q := h'
     cases q : atI xs j with
     | none => show 201
     | some p =>
      rw [q] at h'
      obtain ⟨v, g1, g2⟩ := Ybt h2 q
      exact .inl (.inl ⟨a, vs, j, v, rfl, rfl, Z8 h1, g1, h' as H _ Ext.refl rp g2⟩)
    | _ => show 166
   | dct kvs =>
    obtain ⟨ws, h1, h2, h3⟩ := r
    cases z : Ymt q with
    | none => show 222
    | some key =>
     simp only [z] at h'
     have ev := Vb d2 z
     subst ev
     cases zz : YlL kvs key with
     | none => rw [zz] at h'; exact h'.elim
     | some p =>
      rw [zz] at h'
      have od := Zk (k := key) h2 h3
      rw [zz] at od
      cases hv : YmK ws key with
      | none => rw [hv] at od; cases od
      | some v =>
       rw [hv] at od
       cases od with
       | some dd => exact .inr ⟨a, v, rfl, by rw [<- hv]; exact YmJ.k h1, h' as H _ Ext.refl rp dd⟩
   | exc c fs => show 166
   | dtt kvs => show 166
   | fdc kvs => show 166
 | _ => show 144
theorem Y7 (hu : X.A.units + 1 < cLine) (ha : JE X a ma) (hb : JE X b mb) (hs : Ynb b) : JE X (.Subscript a b pos) (Ylq ixP ma mb) := PE.imp (YfS (Yhi hu) ha hb hs) fun _ _ _ h => VQ h
def Ynn (o i v : P) (st : Ylo) : Option Ylo := match o with
 | .ref k => (match st[k]? with
  | some (.lst xs) => (match i with
   | .int j => (ixN xs.length j).map fun n => st.set k (.lst (xs.set n v))
   | _ => none)
  | some (.dct kvs) => (match Ymt i with
   | some key => if kvs.length < cap then some (st.set k (.dct (Ymp kvs key v))) else none
   | none => none)
  | _ => none)
 | _ => none
def Yon (mo mi me : ME) : MS := fun ρ st => RS.ofE ρ (me ρ st) fun v st1 => RS.ofE ρ (mo ρ st1) fun o st2 => RS.ofE ρ (mi ρ st2) fun i st3 => match Ynn o i v st3 with
 | some st4 => .nx ρ st4
 | none => .bad
theorem Yfp (hu : X.A.units + 1 < cLine) {to ti te : TE} (ho : PE X o to) (hi : PE X i ti) (hv : PE X e te) (hs : swapsWith e (some (.Subscript o i pos')) pos.line X.env = pure false) :
 PS X (.Assign [.Subscript o i pos'] e pos) (fun D σ H => te σ H fun v H1 => to σ H1 fun x H2 => ti σ H2 fun y H3 => YoN x y v H3 (fun H4 => D.nx σ H4) \/ ∃ a H4, x = .ref a /\ YnG H3 a y v H4 /\ D.nx σ H4) := by
 show 183
 refine wpAny_Assign_Subscript (thn (hv pins s σ H _ I h) fun r s1 ⟨v, H1, I1, rv, q1⟩ => thn (ho pins s1 σ H1 _ I1 q1) fun u s2 ⟨x, H2, I2, rx, q2⟩ => thn (hi pins s2 σ H2 _ I2 q2) fun iv s3 ⟨y, H3, I3, ry, q3⟩ => ?_) hs
 rcases q3 with q3 | ⟨a, H4, ex, g, q3⟩
 ·exact thn (YgV pins s3 σ H3 x y v u iv r _ I3 rx ry rv q3) fun _ s4 ⟨H4, I4, q4⟩ => ⟨σ, H4, I4, q4⟩
 ·subst ex
  obtain rfl : u = Value.ref a := rx
  exact YeD hu I3 g ry rv fun s4 I4 => ⟨σ, H4, I4, q3⟩
theorem Ydl (hu : X.A.units + 1 < cLine) (ho : JE X o mo) (hi : JE X i mi) (hv : JE X e me) (hs : swapsWith e (some (.Subscript o i pos')) pos.line X.env = pure false := by rfl) : JS X (.Assign [.Subscript o i pos'] e pos) (Yon mo mi me) :=
 PS.imp (Yfp hu ho hi hv hs) fun D σ H ⟨as, ρ, st, en, rp, h⟩ => ⟨as, ρ, st, en, rp, YlJ.ofE h fun pv st1 as1 H1 v x1 rp1 dv h1 => ⟨as1, ρ, st1, en.ext x1, rp1, YlJ.ofE h1 fun po st2 as2 H2 x x2 rp2 dx h2 =>
  ⟨as2, ρ, st2, (en.ext x1).ext x2, rp2, YlJ.ofE h2 fun pi st3 as3 H3 y x3 rp3 dy h3 => by
   have dv := (dv.ext x2).ext x3
   have dx := dx.ext x3
   have en3 := ((en.ext x1).ext x2).ext x3
   cases q : Ynn po pi pv st3 with
   | none => rw [q] at h3; exact h3.elim
   | some st4 =>
    rw [q] at h3
    unfold Ynn at q
    cases po with
    | ref k =>
     simp only at q
     cases w : st3[k]? with
     | none => rw [w] at q; cases q
     | some ob =>
      rw [w] at q
      cases ob with
      | lst xs =>
       simp only at q
       cases pi with
       | int j =>
        simp only at q
        cases z : ixN xs.length j with
        | none => rw [z] at q; cases q
        | some n =>
         rw [z] at q
         cases q
         obtain ⟨a, vs, rfl, e1, e2, h4, h5⟩ := Vj (xs := xs) rp3 dx (by unfold YlM; rw [w])
         cases dy with
         | int => exact .inl ⟨a, vs, j, n, rfl, rfl, h4, by rw [h5.length]; exact z, h3 as3 _ _ (Ext.write h4 trivial) (rp3.lset e1 h4 e2 (Dens.set dv n h5)) (en3.ext (Ext.write h4 trivial))⟩
       | _ => cases q
      | dct kvs =>
       simp only at q
       cases z : Ymt pi with
       | none => rw [z] at q; cases q
       | some key =>
        rw [z] at q
        simp only at q
        by_cases hl : kvs.length < cap
        ·rw [ZAF hl] at q
         cases q
         obtain ⟨a, ws, rfl, e1, h4, h5, h6⟩ := Yar rp3 dx w
         have ev := Vb dy z
         subst ev
         obtain ⟨g1, g2⟩ := Ybv (k := key) dv h5 h6
         have hlen : ws.length = kvs.length := by simpa using congrArg List.length h5
         refine .inr ⟨a, _, rfl, YnG.k h4 (by rw [hlen]; exact ZAP hl Yt), ?_⟩
         exact h3 as3 _ _ (Ext.write h4 trivial) (rp3.write e1 h4 trivial (fun z => z) (by rw [w]; exact fun z => z) ⟨_, Yn, g1, g2.ext (Ext.write h4 trivial)⟩) (en3.ext (Ext.write h4 trivial))
        ·rw [ZAE hl] at q; cases q
      | ro xs => cases q
      | exc c fs => cases q
      | dtt kvs => cases q
      | fdc kvs => cases q
    | _ => cases q⟩⟩⟩
def YnR : ME := fun _ st => .ok (.ref st.length) (st ++ [.dct []])
theorem Ygz : JE X (.Dict [] [] pos) YnR := PE.imp Yhm fun σ H Q ⟨as, ρ, st, en, rp, h⟩ p hp =>
 h (as ++ [p]) _ _ (Ext.new hp) (rp.new hp ⟨[], Yn, rfl, .nil⟩) (.ref (by rw [<- rp.len]; exact Vg))
def Yoy (md mk mx : ME) : ME := fun ρ st => (md ρ st).bind fun d st1 => match d with
 | .ref k => (match st1[k]? with
  | some (.dct _) => (mk ρ st1).bind fun y st2 => (mx ρ st2).bind fun z st3 => (match st3[k]?, Ymt y with
   | some (.dct kvs), some key => .ok ((YlL kvs key).getD z) st3
   | _, _ => .bad)
  | _ => .bad)
 | _ => .bad
theorem Yj6 {md mk mx : ME} {f : Expr} {apos cpos : Pos} (hu : X.A.units + 1 < cLine) (ho : JE X o md) (he : JE X e mk) (hf : JE X f mx) (m : M2 X o "get" apos e f cpos) : JE X (.Call (.Attribute o "get" apos) [e, f] [] cpos) (Yoy md mk mx) :=
 PE.imp (Yhc hu ho he hf m) fun σ H Q ⟨as, ρ, st, en, rp, h⟩ => ⟨as, ρ, st, en, rp, YlH.bindE h fun pd st1 as1 H1 x x1 rp1 dx h1 => by
  cases dx with
  | @ref k a ek =>
   simp only at h1
   cases w : st1[k]? with
   | none => rw [w] at h1; exact h1.elim
   | some ob =>
    rw [w] at h1
    cases ob with
    | dct kvs0 =>
     simp only at h1
     obtain ⟨a', ws, e0, e1, h4, h5, h6⟩ := Yar rp1 (.ref ek) w
     cases e0
     refine ⟨a, rfl, .inl ⟨ws, .inl h4⟩, as1, ρ, st1, en.ext x1, rp1, YlH.bindE h1 fun py st2 as2 H2 y x2 rp2 dy h2 => ⟨as2, ρ, st2, (en.ext x1).ext x2, rp2, YlH.bindE h2 fun pz st3 as3 H3 z x3 rp3 dz h3 => ?_⟩⟩
     cases w3 : st3[k]? with
     | none => rw [w3] at h3; exact h3.elim
     | some ob3 =>
      rw [w3] at h3
      cases ob3 with
      | dct kvs =>
       cases zk : Ymt py with
       | none => rw [zk] at h3; exact h3.elim
       | some key =>
        rw [zk] at h3
        simp only at h3
        have ea : as3[k]? = some a := x3.pre _ _ (x2.pre _ _ ek)
        obtain ⟨a3, ws3, e3, _, g4, g5, g6⟩ := Yar rp3 (.ref ea) w3
        cases e3
        have ev := Vb (dy.ext x3) zk
        subst ev
        refine ⟨_, YmJ.k g4, ?_⟩
        have od := Zk (k := key) g5 g6
        refine h3 as3 H3 _ Ext.refl rp3 ?_
        cases hv : YmK ws3 key with
        | none =>
         rw [hv] at od
         cases hp : YlL kvs key with
         | none => exact dz
         | some q => rw [hp] at od; cases od
        | some v =>
         rw [hv] at od
         cases hp : YlL kvs key with
         | none => rw [hp] at od; cases od
         | some q => rw [hp] at od; cases od with | some dd => exact dd
      | lst xs => exact h3.elim
      | ro xs => exact h3.elim
      | exc c fs => exact h3.elim
      | dtt kvs => exact h3.elim
      | fdc kvs => exact h3.elim
    | lst xs => show 152
    | ro xs => show 152
    | exc c fs => show 152
    | dtt kvs => show 152
    | fdc kvs => show 152
  | _ => exact h1.elim⟩
def inP : G2 := fun p q st => match p, q with
 | .str x, .str y => okP (.bl (!(Builtin.Str.occurrences y x 0 y.length 1).isEmpty)) st
 | p, .ref k => (match st[k]? with
  | some (.dct kvs) => (match Ymt p with
   | some key => okP (.bl (YlL kvs key).isSome) st
   | none => none)
  | _ => none)
 | _, _ => none
def YnU : G2 := fun p q st => match p, q with
 | .str x, .str y => okP (.bl (!(!(Builtin.Str.occurrences y x 0 y.length 1).isEmpty))) st
 | p, .ref k => (match st[k]? with
  | some (.dct kvs) => (match Ymt p with
   | some key => okP (.bl (!(YlL kvs key).isSome)) st
   | none => none)
  | _ => none)
 | _, _ => none
theorem Zx {v : Option V} {p : Option P} (h : OptDen K as H v p) : v.isSome = p.isSome := by cases h <;> rfl
theorem YkW (hu : X.A.units + 1 < cLine) : OpR X (compareOp .In) (rM X inP) := opM fun pins s σ H x y v u Q as st p q I rx ry rp d1 d2 h => by
 cases d2 with
 | str =>
  cases d1 with
  | str => exact Ye1 pins s σ H _ _ v u Q I rx ry ⟨_, _, rfl, rfl, h as H _ Ext.refl rp .bl⟩
  | _ => show 144
 | @ref k a e =>
  have h' : YlG X as H (match st[k]? with
   | some (.dct kvs) => (match Ymt p with
    | some key => okP (.bl (YlL kvs key).isSome) st
    | none => none)
   | _ => none) Q := by cases d1 <;> exact h
  cases w : st[k]? with
  | none => show 237
  | some ob =>
   rw [w] at h'
   cases ob with
   | dct kvs =>
    cases z : Ymt p with
    | none => show 222
    | some key =>
     simp only [z] at h'
     obtain ⟨a', ws, e0, _, g4, g5, g6⟩ := Yar rp (.ref e) w
     cases e0
     have ev := Vb d1 z
     subst ev
     cases ry
     refine d_in hu I (YmJ.k (k := key) g4) rx fun s3 I3 => ⟨.bl _, H, I3, rfl, ?_⟩
     rw [Zx (Zk (k := key) g5 g6)]
     show 208
   | _ => show 166
 | _ => cases d1 <;> exact h.elim
theorem YgX (hu : X.A.units + 1 < cLine) : OpR X (compareOp .NotIn) (rM X YnU) := opM fun pins s σ H x y v u Q as st p q I rx ry rp d1 d2 h => by
 cases d2 with
 | str =>
  cases d1 with
  | str => exact Ybx pins s σ H _ _ v u Q I rx ry ⟨_, _, rfl, rfl, h as H _ Ext.refl rp .bl⟩
  | _ => show 144
 | @ref k a e =>
  have h' : YlG X as H (match st[k]? with
   | some (.dct kvs) => (match Ymt p with
    | some key => okP (.bl (!(YlL kvs key).isSome)) st
    | none => none)
   | _ => none) Q := by cases d1 <;> exact h
  cases w : st[k]? with
  | none => show 237
  | some ob =>
   rw [w] at h'
   cases ob with
   | dct kvs =>
    cases z : Ymt p with
    | none => show 222
    | some key =>
     simp only [z] at h'
     obtain ⟨a', ws, e0, _, g4, g5, g6⟩ := Yar rp (.ref e) w
     cases e0
     have ev := Vb d1 z
     subst ev
     cases ry
     refine YdW hu I (YmJ.k (k := key) g4) rx fun s3 I3 => ⟨.bl _, H, I3, rfl, ?_⟩
     rw [Zx (Zk (k := key) g5 g6)]
     show 208
   | _ => show 166
 | _ => cases d1 <;> exact h.elim
end
section
theorem WZ {t sl : Addr} {vl vu : Value} {lo hi : Option Int} (ht : IsTup s.heap t items) (hs : s.heap.IsSliceOf sl vl vu .none) (pl : IsPart vl lo) (pu : IsPart vu hi)
 (hw : HT.sIx items.size 0 lo = 0 /\ HT.sIx items.size items.size hi = items.size) (h : Q (.ref t) s) : wpAny (model prog w) A (getItem (.ref t) (.ref sl)) Q E s := by
 obtain ⟨os, hos, hcs, hds⟩ := id hs
 have hTs : s.TypeIs (.ref sl) "slice" := ⟨os, hos, hcs⟩
 unfold getItem
 show 244
 first | refine ZAA (ZAC ?_) | skip
 refine ZAA (wpAny_sequenceKey ht.typeIs (by decide) ?_)
 refine ZAA (wpAny_callSpecial?_slot (name := Str.ofString "__getitem__") ht.typeIs PyProof.Rows.slot_tuple_getitem
  (ZAj PyProof.Rows.slot_tuple_getitem ht.typeIs entry_tuple_getitem ?_ (args_tuple_getitem _ _)))
 show wpAny _ _ (Builtin.Tuple.tupleItemsOf (.ref t) >>= _) _ _ s
 refine ZAA (tupleItemsOf_ ht ?_)
 refine ZAA (ZBW hTs ?_)
 show 223
 refine ZAA (HT.sliceApplied_gen hs pl pu ?_)
 have hno : (((HT.sIx items.size 0 lo : Nat) : Int) == 0 && (1 : Int) == 1 && (HT.sIx items.size items.size hi - HT.sIx items.size 0 lo) == items.size) = true := by
  rw [hw.1, hw.2]; simp
 show wpAny _ _ (if (((HT.sIx items.size 0 lo : Nat) : Int) == 0 && (1 : Int) == 1 && (HT.sIx items.size items.size hi - HT.sIx items.size 0 lo) == items.size) = true then _ else _) _ _ s
 rw [ZAF hno]
 show 156
 unfold Builtin.Tuple.tupleIsExact
 refine ZAA (ZBW ht.typeIs (ZAC ?_))
 show 223
 exact ZAA (ZBn (ZAC ⟨_, rfl, ZAC h⟩))
end
abbrev MO := Rho -> Ylo -> R (Option Int)
def YmP (X : Cx) (as : List Addr) (H : Hp) (ρ : Rho) (r : R (Option Int)) (Q : Option Int -> Hp -> Prop) : Prop :=
 match r with
 | .ok o st' => ∀ as' H', Ext as H as' H' -> Rep X.K as' st' H' -> Q o H'
 | .exc k st' => XOk X as H ρ k st'
 | .bad => False
def tO (X : Cx) (m : MO) : TO := fun σ H Q => ∃ as ρ st, YlI X.K as H ρ σ /\ Rep X.K as st H /\ YmP X as H ρ (m ρ st) Q
abbrev JO (X : Cx) (e : Option Expr) (m : MO) : Prop := PO X e (tO X m)
theorem PO.imp {e : Option Expr} {t t' : TO} (h : PO X e t) (i : ∀ σ H Q, t' σ H Q -> t σ H Q) : PO X e t' := fun pins s σ H Q I q => h pins s σ H Q I (i σ H Q q)
def Ym7 : MO := fun _ st => .ok none st
def Ym8 (me : ME) : MO := fun ρ st => (me ρ st).bind fun p st1 => match p with
 | .int i => .ok (some i) st1
 | _ => .bad
section
variable {lo hi : Option Expr} {ml mh : MO} {p2 : Pos}
theorem YmP.ext {as1 : List Addr} {H1 : Hp} {r : R (Option Int)} {Q : Option Int -> Hp -> Prop} (x : Ext as H as1 H1) (h : YmP X as H ρ r Q) : YmP X as1 H1 ρ r Q := by
 cases r with
 | ok p st' => exact fun as' H' y => h as' H' (x.trans y)
 | exc k st' => show 190
 | bad => exact h
theorem YmP.bindE {r : R P} {f : P -> Ylo -> R (Option Int)} {Q : Option Int -> Hp -> Prop} (h : YmP X as H ρ (r.bind f) Q)
 (go : ∀ p st1 as1 H1 v, Ext as H as1 H1 -> Rep X.K as1 st1 H1 -> Den X.K as1 H1 v p -> YmP X as1 H1 ρ (f p st1) Q -> Q' v H1) : YlH X as H ρ r Q' := by
 cases r with
 | ok p st1 => exact fun as1 H1 v x rp d => go p st1 as1 H1 v x rp d (YmP.ext x h)
 | exc k st' => exact h
 | bad => exact h
theorem YlH.bindN {r : R (Option Int)} {f : Option Int -> Ylo -> R P} {Q : VK} {Q' : Option Int -> Hp -> Prop} (h : YlH X as H ρ (r.bind f) Q)
 (go : ∀ b st1 as1 H1, Ext as H as1 H1 -> Rep X.K as1 st1 H1 -> YlH X as1 H1 ρ (f b st1) Q -> Q' b H1) : YmP X as H ρ r Q' := by
 cases r with
 | ok p st1 => exact fun as1 H1 x rp => go p st1 as1 H1 x rp (YlH.ext x h)
 | exc k st' => exact h
 | bad => exact h
theorem YbE : JO X none Ym7 := PO.imp YhK fun σ H Q ⟨as, ρ, st, en, rp, h⟩ => h as H Ext.refl rp
theorem YbC (he : JE X e me) : JO X (some e) (Ym8 me) := PO.imp (Yix he) fun σ H Q ⟨as, ρ, st, en, rp, h⟩ => ⟨as, ρ, st, en, rp, YmP.bindE h fun p st1 as1 H1 v x rp1 d h1 => by
 cases d with
 | int => exact ⟨_, rfl, h1 as1 H1 Ext.refl rp1⟩
 | _ => exact h1.elim⟩
def Ynp (xs : List P) (lo hi : Option Int) : List P := (xs.drop (HT.sIx xs.length 0 lo)).take (HT.sIx xs.length xs.length hi - HT.sIx xs.length 0 lo)
theorem Ybp (d : Dens K as H vs xs) (lo hi : Option Int) : Dens K as H (YnP vs lo hi) (Ynp xs lo hi) := by
 unfold YnP Ynp
 rw [d.length]
 exact (d.drop _).take _
def slP (p : P) (lo hi : Option Int) (st : Ylo) : Option (P × Ylo) := match p with
 | .str z => if z.length <= cap then okP (.str (Txt.slice z lo hi)) st else none
 | .tup xs => okP (.tup (Ynp xs lo hi)) st
 | .ref k => (match st[k]? with
  | some (.lst xs) => Ynm (Ynp xs lo hi) st
  | some (.ro xs) => Ynm (Ynp xs lo hi) st
  | _ => none)
 | _ => none
def rMS (X : Cx) : V -> Option Int -> Option Int -> Hp -> VK -> Prop := fun x lo hi H Q => ∃ as st p, Rep X.K as st H /\ Den X.K as H x p /\ YlG X as H (slP p lo hi st) Q
theorem YcA {v : Value} {o : Option Int} (p : IsPart v o) : ∃ q : Option (Int × Tok), v = partValue q /\ q.map (·.1) = o := by
 cases p with
 | none => exact ⟨none, rfl, rfl⟩
 | int i t => exact ⟨some (i, t), rfl, rfl⟩
theorem Yj0 : SlR X (fun x lo hi H Q => ∃ z, x = .str z /\ z.length <= cap /\ Q (.str (Txt.slice z lo hi)) H) := by
 show 232
 obtain ⟨z, rfl, hz, q⟩ := h
 show 191
 obtain ⟨ql, rfl, el⟩ := YcA pl
 obtain ⟨qu, rfl, eu⟩ := YcA pu
 obtain ⟨o, ho, hc, hd⟩ := id hs
 refine ⟨"str", _, PySem.F.slot_str_getitem.lookup, typeIs_str _ _ _, wpAny_getItem_str_slice (l := ql) (u := qu) (st := none) ⟨o, ho, hc, hd⟩ rfl ?_⟩
 have fin : ∀ t' k, EP X pins σ Q (.str (Txt.slice z lo hi) t') { s with toks := k } := fun t' k => ⟨.str _, H, I.tok k, ⟨_, rfl⟩, q⟩
 unfold sliceMade
 have e : slicePicked z ql qu none = Builtin.Str.strSliceIndices lo hi 1 z.length := by unfold slicePicked; rw [el, eu]; rfl
 rw [e]
 exact post_val_or_str ⟨ZAV (Txt.slice_le z lo hi) (ZAV hz Yt), fin⟩
theorem Yiw : SlR X (fun x lo hi H Q => ∃ a xs, x = .ref a /\ SqT X.K H a xs /\ HT.sIx xs.length 0 lo = 0 /\ HT.sIx xs.length xs.length hi = xs.length /\ Q (.ref a) H) := by
 show 232
 obtain ⟨a, xs, rfl, hx, h1, h2, q⟩ := h
 cases rx
 obtain ⟨its, r, ht, hz⟩ := I.tuple hx
 have hlen : its.toArray.size = xs.length := by rw [ZAl]; exact r.length.symm
 exact ⟨"tuple", _, PyProof.Rows.slot_tuple_getitem.lookup, ht.typeIs, WZ ht hs pl pu (by rw [hlen]; exact ⟨h1, h2⟩) ⟨.ref a, H, I, rfl, q⟩⟩
theorem SlR.imp {r r' : V -> Option Int -> Option Int -> Hp -> VK -> Prop} (h : SlR X r) (i : ∀ x lo hi H Q, r' x lo hi H Q -> r x lo hi H Q) : SlR X r' := fun pins s σ H x v vl vu lo hi sl Q I rx hs pl pu q => h pins s σ H x v vl vu lo hi sl Q I rx hs pl pu (i x lo hi H Q q)
theorem YkV : SlR X (rMS X) := SlR.imp ((Yj0 (X := X)).or ((Yi1 (X := X)).or ((Yiw (X := X)).or (Yiu (X := X))))) fun x lo hi H Q ⟨as, st, p, rp, d, h⟩ => by
 cases d with
 | @str z =>
  have h' : YlG X as H (if z.length <= cap then okP (.str (Txt.slice z lo hi)) st else none) Q := h
  by_cases hz : z.length <= cap
  ·rw [ZAF hz] at h'
   exact .inl ⟨z, rfl, hz, h' as H _ Ext.refl rp .str⟩
  ·rw [ZAE hz] at h'; exact h'.elim
 | @tup a vs xs e r =>
  have h' : YlG X as H (okP (.tup (Ynp xs lo hi)) st) Q := h
  by_cases w : HT.sIx vs.length 0 lo = 0 /\ HT.sIx vs.length vs.length hi = vs.length
  ·refine .inr (.inr (.inl ⟨a, vs, rfl, e, w.1, w.2, ?_⟩))
   have ec : Ynp xs lo hi = xs := by
    unfold Ynp
    rw [<- r.length, w.1, w.2, List.drop_zero, ZBC (by rw [r.length]; exact ZAI _)]
   rw [ec] at h'
   exact h' as H _ Ext.refl rp (.tup e r)
  ·exact .inr (.inl ⟨a, vs, rfl, e, w, fun p hp => h' as _ _ (Ext.laid hp) (rp.laid hp) (.tup (.of Yn) ((Ybp r lo hi).ext (Ext.laid hp)))⟩)
 | @ref k a e =>
  have h' : YlG X as H (match st[k]? with | some (.lst xs) => Ynm (Ynp xs lo hi) st | some (.ro xs) => Ynm (Ynp xs lo hi) st | _ => none) Q := h
  cases w : st[k]? with
  | none => show 237
  | some ob =>
   rw [w] at h'
   have r := rp.ob k a ob e w
   cases ob with
   | lst xs => obtain ⟨vs, h1, h2⟩ := r; exact .inr (.inr (.inr ⟨a, vs, rfl, .of h1, fun p hp => VX rp (Ybp h2 lo hi) h' hp⟩))
   | ro xs => obtain ⟨vs, h1, h2⟩ := r; exact .inr (.inr (.inr ⟨a, vs, rfl, Z8 h1, fun p hp => VX rp (Ybp h2 lo hi) h' hp⟩))
   | dct kvs => show 166
   | exc c fs => show 166
   | dtt kvs => show 166
   | fdc kvs => show 166
 | _ => show 144
def eSl (me : ME) (ml mh : MO) : ME := fun ρ st => (me ρ st).bind fun p st1 => (ml ρ st1).bind fun l st2 => (mh ρ st2).bind fun u st3 => ofO (slP p l u st3)
theorem Yaq (he : JE X e me) (hl : JO X lo ml) (hu : JO X hi mh) : JE X (.Subscript e (.Slice lo hi none p2) pos) (eSl me ml mh) :=
 PE.imp (Yhb YkV he hl hu) fun σ H Q ⟨as, ρ, st, en, rp, h⟩ => ⟨as, ρ, st, en, rp, YlH.bindE h fun p st1 as1 H1 v x rp1 d h1 => ⟨as1, ρ, st1, en.ext x, rp1, YlH.bindN h1 fun l st2 as2 H2 x2 rp2 h2 =>
  ⟨as2, ρ, st2, (en.ext x).ext x2, rp2, YlH.bindN h2 fun u st3 as3 H3 x3 rp3 h3 => ⟨as3, st3, p, rp3, (d.ext x2).ext x3, YlH.ofO h3⟩⟩⟩⟩
def Ypi (me : ME) : ME := fun ρ st => (me ρ st).bind fun p st1 => match p with
 | .tup xs => .ok (.tup xs.reverse) st1
 | _ => .bad
end
def tyP (p : P) (st : Ylo) : Option String := match p with
 | .non => some "NoneType"
 | .bl _ => some "bool"
 | .int _ => some "int"
 | .str _ => some "str"
 | .tup _ => some "tuple"
 | .ref k => (match st[k]? with
  | some (.lst _) => some "list"
  | some (.ro _) => some "list"
  | some (.dct _) => some "dict"
  | _ => none)
def Yng (t T : String) : Bool := t == T || (t == "bool" && T == "int")
def Ym4 (T : String) : Prop := ∀ (K : Frag) (t : String), t ∈ ["NoneType", "bool", "int", "str", "tuple", "list", "dict"] -> PySem.W.kitOne K (.type t) (.type T) = some (Yng t T)
theorem YV : Ym4 "str" := fun K t h => by
 show 52
theorem YiB : Ym4 "int" := fun K t h => by
 show 52
theorem YfL : Ym4 "bool" := fun K t h => by
 show 52
theorem YaQ : Ym4 "tuple" := fun K t h => by
 show 52
def YlY (T : String) (me : ME) : ME := fun ρ st => (me ρ st).bind fun p st1 => match tyP p st1 with
 | some t => .ok (.bl (Yng t T)) st1
 | none => .bad
section
variable {p p' : Pos}
theorem Yf9 (kt : Ym4 T) : Yl2 X (.builtin "isinstance") (fun xs H Q => ∃ x as st p t, xs = [x, .ty T] /\ Rep X.K as st H /\ Den X.K as H x p /\ tyP p st = some t /\ Q (.bl (Yng t T)) H) := by
 intro pins s σ H xs us Q I rv h
 obtain ⟨x, as, st, p, t, rfl, rp, d, ht, q⟩ := h
 obtain ⟨u, c, rfl, ru, rc⟩ := rv.two
 obtain rfl : c = Value.type T := rc
 have fin : ∀ tk, EP X pins σ Q (.bool (Yng t T)) { s with toks := tk } := fun tk => ⟨.bl _, H, I.tok tk, rfl, q⟩
 cases d with
 | non => cases ru; cases ht; exact PySem.W.kia_one PySem.W.kitx_none I.kIn True.intro (kt _ _ (by decide)) (fun z => nomatch z) fin
 | bl => cases ru; cases ht; exact PySem.W.kia_one PySem.W.kitx_bool I.kIn True.intro (kt _ _ (by decide)) (fun z => nomatch z) fin
 | int => obtain ⟨t', rfl⟩ := ru; cases ht; exact PySem.W.kia_one PySem.W.kitx_int I.kIn True.intro (kt _ _ (by decide)) (fun z => nomatch z) fin
 | str => obtain ⟨t', rfl⟩ := ru; cases ht; exact PySem.W.kia_one PySem.W.kitx_str I.kIn True.intro (kt _ _ (by decide)) (fun z => nomatch z) fin
 | tup e r =>
  cases ru; cases ht
  obtain ⟨its, _, ⟨o, h1, h2, _⟩, _⟩ := I.tuple e
  exact PySem.W.kia_one PySem.W.kitx_tuple I.kIn ⟨o, h1, h2⟩ (kt _ _ (by decide)) (fun z => nomatch z) fin
 | @ref k a e =>
  cases ru
  have ht' : (match st[k]? with | some (.lst _) => some "list" | some (.ro _) => some "list" | some (.dct _) => some "dict" | _ => none) = some t := ht
  cases w : st[k]? with
  | none => rw [w] at ht'; cases ht'
  | some ob =>
   rw [w] at ht'
   have r := rp.ob k a ob e w
   cases ob with
   | lst xs =>
    cases ht'
    obtain ⟨vs, h1, _⟩ := r
    obtain ⟨its, _, ⟨o, n, g1, g2, _⟩, _⟩ := I.list (.of h1)
    exact PySem.W.kia_one PySem.W.kitx_list I.kIn ⟨o, g1, g2⟩ (kt _ _ (by decide)) (fun z => nomatch z) fin
   | ro xs =>
    cases ht'
    obtain ⟨vs, h1, _⟩ := r
    obtain ⟨its, _, ⟨o, n, g1, g2, _⟩, _⟩ := I.list (Z8 h1)
    exact PySem.W.kia_one PySem.W.kitx_list I.kIn ⟨o, g1, g2⟩ (kt _ _ (by decide)) (fun z => nomatch z) fin
   | dct kvs =>
    cases ht'
    obtain ⟨ws, h1, _⟩ := r
    obtain ⟨_, _, vs, _, o, es, ep, g1, g2, _⟩ := I.hok a _ h1
    exact PySem.W.kia_one PySem.W.kitx_dict I.kIn ⟨o, g1, g2.1⟩ (kt _ _ (by decide)) (fun z => nomatch z) fin
   | exc c fs => cases ht'
   | dtt kvs => cases ht'
   | fdc kvs => cases ht'
theorem YT {y : Str} (kt : Ym4 T) (hg : Gl X "isinstance") (hm : X.mg "isinstance" = none) (hv : bootBuiltins "isinstance" = some (.builtin "isinstance")) (gy : Gl X y) (my : X.mg y = none) (vy : bootBuiltins y = some (.type T)) (he : JE X e me)
 (hy : y ≠ "__name__" := by decide) (hyd : (y == ("__debug__" : Str)) = false := by decide)
 (h1 : starEach [e, .Name y p'] X.env = (false, eval e X.env) :: starEach [.Name y p'] X.env := by rfl) (h2 : starEach [.Name y p'] X.env = (false, eval (.Name y p') X.env) :: starEach [] X.env := by rfl) (hpl : (backTo pos (starEach [.Name y p'] X.env)).any (·.1) = false := by rfl) :
 JE X (.Call (.Name "isinstance" p) [e, .Name y p'] [] pos) (YlY T me) :=
 PE.imp (Ycv (Yf9 kt) hg hm hv (WW he (WW (Yie (v := .ty T) gy my vy rfl hy hyd) Yad h2) h1) (by decide) (by decide) h1 hpl) fun σ H Q ⟨as, ρ, st, en, rp, h⟩ => ⟨as, ρ, st, en, rp, YlH.bindE h fun p st1 as1 H1 v x rp1 d h1 => by
  cases w : tyP p st1 with
  | none => rw [w] at h1; exact h1.elim
  | some t => rw [w] at h1; exact ⟨v, as1, st1, p, t, rfl, rp1, d, w, h1 as1 H1 _ Ext.refl rp1 .bl⟩⟩
def Yma (n : Nat) (r : MGs) : MG := fun p ρ st => match Yl4 p st with
 | some xs => if xs.length = n then r xs ρ st else none
 | none => none
theorem Ygn {r : MGs} (h : Ynv n r) : Ynr n (Yma k r) := fun p ρ st ρ1 e => by
 unfold Yma at e
 cases q : Yl4 p st with
 | none => show 196
 | some xs =>
  rw [q] at e
  simp only at e
  by_cases z : xs.length = k
  ·rw [ZAF z] at e; exact h _ _ _ _ e
  ·rw [ZAE z] at e; cases e
theorem Ya0 {prog : Program} {w : World} {A : Around} {E : VSP} {it t : Addr} {items : Array Value} (hne : t ≠ it) : ∀ (n i : Nat) (s : Shared) (Q : List Value -> Shared -> Prop), s.heap.IsListIter it t i -> s.heap.IsList t items -> i + n <= items.size ->
 (∀ h', h'.IsListIter it t (i + n) -> Heap.SameBut it s.heap h' -> Q ((items.toList.drop i).take n) { s with heap := h' }) -> wpAny (model prog w) A (draw (.ref it) n) Q E s
 | 0, i, s, Q, hit, ht, hl, hQ => by
  show wpAny _ _ (pure []) Q E s
  exact ZAC (hQ s.heap hit (.refl ..))
 | n + 1, i, s, Q, hit, ht, hl, hQ => by
  have hlt : i < items.size := by omega
  show wpAny _ _ (pyNext (.ref it) >>= _) Q E s
  refine wpAny_bind (wpAny_pyNext_list_item hit ht (x := items[i]) (by simp [hlt]) fun h₁ hit₁ hs₁ => ?_)
  refine ZAA (ZAi (Ya0 hne n (i + 1) _ _ hit₁ (ht.extBut hs₁.extBut hne) (by omega) fun h₂ hit₂ hs₂ => ZAC ?_))
  have hd : items.toList.drop i = items[i] :: items.toList.drop (i + 1) := by simp [List.drop_eq_getElem_cons, hlt]
  have := hQ h₂ (by rw [show i + (n + 1) = i + 1 + n by omega]; exact hit₂) (hs₁.trans hs₂)
  rw [hd, List.take_succ_cons] at this
  exact this
theorem V7 {t : Addr} {Q : List Value -> Shared -> Prop} (hh : A.handled = none) (ht : s.heap.IsList t items)
 (hQ : ∀ h', Heap.ExtBut s.heap.objs.size s.heap h' -> Q items.toList { s with heap := h' }) : wpAny (model prog w) A (unpackItems (.ref t) items.size none) Q E s := by
 have hlt : t ≠ s.heap.objs.size := by obtain ⟨o, ho, _⟩ := ht; exact ZAN (ZAG ho)
 unfold unpackItems
 show 156
 ·unfold notIterableAtAll
  refine ZAA (ZCP ht.typeIs PySem.F.slot_list_iter.lookup ?_)
  show 170
  show 256
  refine ZAA (ZAi (ZB1 ht ?_))
  refine ZAA (ZAi (Ya0 hlt items.size 0 _ _ ⟨_, ZAH _ rfl, rfl, rfl⟩ (ht.push _) (by omega) fun h₁ hit₁ hs₁ => ?_))
  have hall : List.take items.size (List.drop 0 items.toList) = items.toList := by
   rw [List.drop_zero]; exact List.take_of_length_le (by simp)
  rw [hall]
  rw [if_neg (by simp)]
  have ht₁ : h₁.IsList t items := (ht.push _).extBut hs₁.extBut hlt
  refine wpAny_bind (wpAny_holding (wpAny_pyNext_list_end hh hit₁ ht₁ (by simp) fun h₂ he₂ => ?_))
  simp only [Option.isSome_none, Bool.false_eq_true, if_false]
  refine ZAC (hQ h₂ fun b o hb e => he₂ b o hb (hs₁.extBut b o hb (ZAD _ e)))
theorem VC {elts : List Expr} {x1} {t : Addr} {Q : Unit -> Shared -> Prop} (hh : A.handled = none) (ht : s.heap.IsList t items)
 (hn : (assignEach elts env).length = items.size) (hstar : (assignEach elts env).findIdx? (·.1) = none)
 (h : ∀ h', Heap.ExtBut s.heap.objs.size s.heap h' -> wpAny (model prog w) A (assignInOrder ((assignEach elts env).map (·.2)) items.toList) Q E { s with heap := h' }) :
 wpAny (model prog w) A (assign (.Tuple elts x1 pos) env (.ref t)) Q E s := by
 rw [assign_Tuple]
 refine ZAA (ZCb ?_)
 unfold unpack
 rw [hn, hstar]
 exact ZAA (ZAi (V7 hh ht h))
theorem YjO {es : List Expr} {t : TGs} (hc : X.calm = true) (h : PGs X es t)
 (hn : (assignEach es X.env).length = n := by rfl) (hst : (assignEach es X.env).findIdx? (·.1) = none := by rfl) : PG X (.Tuple es k pos) (fun v σ H Q => ∃ a xs, v = .ref a /\ (SqL X.K H a xs \/ SqT X.K H a xs) /\ xs.length = n /\ t xs σ H Q) := by
 intro pins s σ H v u Q I r hw
 obtain ⟨a, xs, e1, hq, hl, hw⟩ := hw
 subst e1
 show 213
 ·cases r
  obtain ⟨its, rv, ht, hz⟩ := I.list hq
  refine VC (I.ok.hd hc) ht.isList (by simp [hn, <- hl, rv.length]) hst fun h' hx => ?_
  have I1 : Inv X pins σ H { s with heap := h' } := I.kept (t' := s.toks) fun b o e => hx b o (ZAN (ZAG e)) e
  exact h pins _ σ H xs _ Q I1 (by simpa using rv) hw
 ·exact YjG hc h hn hst pins s σ H _ u Q I r ⟨a, xs, rfl, hq, hl, hw⟩
theorem Vf {es : List Expr} {r : MGs} (hc : X.calm = true) (h : JGs X es r)
 (hn : (assignEach es X.env).length = n := by rfl) (hst : (assignEach es X.env).findIdx? (·.1) = none := by rfl) : JG X (.Tuple es k pos) (Yma n r) :=
 PG.imp (YjO hc h hn hst) fun v σ H Q ⟨as, ρ, st, p, ρ', en, rp, d, g, q⟩ => by
  unfold Yma at g
  cases w : Yl4 p st with
  | none => rw [w] at g; cases g
  | some xs =>
   rw [w] at g
   simp only at g
   by_cases z : xs.length = n
   ·rw [ZAF z] at g
    obtain ⟨a, vs, rfl, hq, r⟩ := Ydm rp d w
    exact ⟨a, vs, rfl, hq, by rw [r.length]; exact z, as, ρ, st, xs, ρ', en, rp, r, g, q⟩
   ·rw [ZAE z] at g; cases g
def YpK (me : ME) (g : MG) : MS := fun ρ st => RS.ofE ρ (me ρ st) fun p st1 => match g p ρ st1 with
 | some ρ' => .nx ρ' st1
 | none => .bad
end
def Itz (K : Frag) (a b : Addr) : It :=
 ⟨fun i H => ∃ xs x ys y, SqL K H a xs /\ xs[i]? = some x /\ SqL K H b ys /\ ys[i]? = some y,
  fun i H v H' => ∃ p, v = .ref p /\ H p = none /\ ∀ xs ys, SqL K H a xs -> SqL K H b ys -> ∃ x y, xs[i]? = some x /\ ys[i]? = some y /\ H' = upd H p (.tup [x, y]),
  fun i H => ∃ xs ys, SqL K H a xs /\ SqL K H b ys /\ (xs.length <= i \/ ys.length <= i)⟩
theorem YE {pins : LAO} {b : Addr} {xs : List V} (I : Inv X pins σ H s) (h : SqL X.K H a xs) (f : Ymx X pins H b) : a ≠ b := by
 obtain ⟨f0, f1, f2, f3, f4, f5⟩ := f
 rintro rfl
 rcases h with h | ⟨o, its, n, hk, _⟩
 ·rcases h with h | ⟨o, h⟩
  ·rw [f0] at h; cases h
  ·rw [f0] at h; cases h
 ·have hb := I.ok.mod.kin a o hk
  rcases f3 with z | z
  ·exact I.ok.noex a o hb z
  ·exact absurd (ZAP (ZAG hb) (ZAV I.ok.bsz z)) (ZBK _)
structure ZAp (z TI TO i1 i2 : Addr) : Prop where
 TIz : TI ≠ z
 TOz : TO ≠ z
 i1z : i1 ≠ z
 i2z : i2 ≠ z
 TITO : TI ≠ TO
 TIi1 : TI ≠ i1
 TIi2 : TI ≠ i2
 TOi1 : TO ≠ i1
 TOi2 : TO ≠ i2
 i12 : i1 ≠ i2
def ZTn (z TI TO i1 i2 a b : Addr) (i : Nat) (h : Heap) : Prop := IsZip h z TI TO .none /\ IsPair h TI (.ref i1) (.ref i2) /\ (∃ x y, IsPair h TO x y) /\ h.IsListIter i1 a i /\ h.IsListIter i2 b i
theorem YgP {P : Program} {elts : List Expr} {x1 : Nat} {tp : Pos} {z TI TO i1 i2 b : Addr} (D : ZAp z TI TO i1 i2) :
 Turn P w K (.Tuple elts x1 tp) (Itz K a b) [z, TI, TO, i1, i2] z (ZTn z TI TO i1 i2 a b) where
 mem := by simp
 obj := fun i h st c hc => by
  obtain ⟨h1, h2, ⟨x, y, h3⟩, ⟨o4, h4, c4, d4⟩, ⟨o5, h5, c5, d5⟩⟩ := st
  show 50
  ·exact ⟨_, h1, fun v z => by cases z⟩
  ·exact ⟨_, h2, fun v z => by cases z⟩
  ·exact ⟨_, h3, fun v z => by cases z⟩
  ·exact ⟨_, h4, fun v z => by rw [d4] at z; cases z⟩
  ·exact ⟨_, h5, fun v z => by rw [d5] at z; cases z⟩
 keep := fun i h h' st k => by
  obtain ⟨h1, h2, ⟨x, y, h3⟩, h4, h5⟩ := st
  exact ⟨k z (by simp) _ h1, k TI (by simp) _ h2, ⟨x, y, k TO (by simp) _ h3⟩, h4.at fun o e => k i1 (by simp) o e, h5.at fun o e => k i2 (by simp) o e⟩
 item := by
  show 75
  obtain ⟨xs, x, ys, y, hx, ex, hy, ey⟩ := hg
  show 242
  have fTI := hf TI (by simp)
  show 79
  obtain ⟨its, rx, px, zx⟩ := I.list hx
  obtain ⟨jts, ry, py, zy⟩ := I.list hy
  obtain ⟨ux, eux, rux⟩ := rx.get ex
  obtain ⟨uy, euy, ruy⟩ := ry.get ey
  have DZ : ZipApart z TI TO i1 i2 a b := ⟨D.TIz, D.TOz, D.i1z, D.i2z, D.TITO, D.TIi1, D.TIi2, D.TOi1, D.TOi2, D.i12, YE I hx fz, YE I hx fTO, YE I hx f1, YE I hx f2, YE I hy fz, YE I hy fTO, YE I hy f1, YE I hy f2⟩
  refine wpAny_pyNext_zip_item DZ h1 h2 h3 h4 h5 px.isList py.isList (x := ux) (y := uy) (by simpa using eux) (by simpa using euy) fun h' a1 a2 a3 a4 a5 a6 hk => ?_
  have nT : H s.heap.objs.size = none := I.hok.fresh (ZAI _)
  have fp4 : ∀ c ∈ [z, TO, i1, i2], Ymx X pins H c := fun c hc => by
   show 51
  have notIn : ∀ {c}, c ∉ [z, TO, i1, i2] -> c ≠ z /\ c ≠ TO /\ c ≠ i1 /\ c ≠ i2 := fun {c} hc => by
   show 238
  have tr : ∀ {c u}, H c = some u -> c ≠ z /\ c ≠ TO /\ c ≠ i1 /\ c ≠ i2 := fun {c u} e => ⟨Ye e fz.1, Ye e fTO.1, Ye e f1.1, Ye e f2.1⟩
  have hns : ∀ m, s.heap.Ns X.env.locals m -> h'.Ns X.env.locals m := fun m ⟨o, es, ep, e, r⟩ => ⟨o, es, ep, hk _ o fz.2.1.symm fTO.2.1.symm f1.2.1.symm f2.2.1.symm e, r⟩
  have hok : HOk X.prog X.w (upd H s.heap.objs.size (.tup [x, y])) h' := fun c u e => by
   by_cases hb : c = s.heap.objs.size
   ·subst hb
    rw [Yn] at e
    cases e
    exact ⟨by show 2 <= sizeLine; decide, [ux, uy], .cons rux (.cons ruy .nil), ⟨_, a5, rfl, _, rfl⟩⟩
   ·rw [Yf hb] at e
    refine (I.hok c u e).stay (fun c' v hc' q => ?_) (fun c' q => by rw [Yf (Ye q nT)]; exact q) fun c' xs q => by rw [Yf (Ye q nT)]; exact q
    show 250
    ·show 239
    ·obtain ⟨t1, t2, t3, t4⟩ := tr z1; exact hk _ v t1 t2 t3 t4 q
  have I1 : Inv X pins σ (upd H s.heap.objs.size (.tup [x, y])) { s with heap := h' } :=
   I.step (h' := h') (g' := s.gens) (t' := s.toks) (d' := s.drawn) (ch := [z, TO, i1, i2]) (fun c hc => ⟨(fp4 c hc).2.2.2.1, (fp4 c hc).2.1, (fp4 c hc).2.2.2.2.1, (fp4 c hc).2.2.2.2.2⟩)
    (fun c o _ _ hc e _ => let ⟨t1, t2, t3, t4⟩ := notIn hc; hk c o t1 t2 t3 t4 e) (fun c o _ _ hc e _ => let ⟨t1, t2, t3, t4⟩ := notIn hc; ⟨o.slots, hk c o t1 t2 t3 t4 e⟩)
    (fun c o hc e n => by rw [Yf (ZAN (ZAG e))]; exact n) (fun c o hc e => let ⟨t1, t2, t3, t4⟩ := notIn hc; ⟨o, hk c o t1 t2 t3 t4 e⟩)
    (fun c xs q => by rw [Yf (Ye q nT)]; exact q) (fun c o u q => by rw [Yf (Ye q nT)]; exact q) (fun c ps q => ⟨#[], by rw [Yf (Ye q nT), q]; simp⟩) hns hok I.bare
  refine ⟨.ref s.heap.objs.size, rfl, ZCH (s := { s with heap := h' }) a1 fun h'' hz'' sb => ?_⟩
  have zl : z < s.heap.objs.size := ZAG h1
  have nz1 : (upd H s.heap.objs.size (.tup [x, y])) z = none := by rw [Yf (ZAN zl)]; exact fz.1
  have I2 : Inv X pins σ (upd H s.heap.objs.size (.tup [x, y])) { s with heap := h'', toks := s.toks } := Inv.turned (s := { s with heap := h' }) (it := z) I1 (fun c o hc e => (sb.2 c hc).trans e) nz1 fz.2.1 fz.2.2.2.1 fz.2.2.2.2.1 fz.2.2.2.2.2
  refine ⟨.ref s.heap.objs.size, _, I2, rfl, ⟨s.heap.objs.size, rfl, nT, fun xs' ys' hx' hy' => ⟨x, y, by rw [I.list_inj hx' hx]; exact ex, by rw [I.list_inj hy' hy]; exact ey, rfl⟩⟩, ⟨hz'', (sb.2 _ D.TIz).trans (hk _ _ D.TIz D.TITO D.TIi1 D.TIi2 h2), ⟨_, _, (sb.2 _ D.TOz).trans a2⟩, a3.at fun o e => (sb.2 _ D.i1z).trans e, a4.at fun o e => (sb.2 _ D.i2z).trans e⟩, fun c hc => ?_⟩
  have hlt : c < s.heap.objs.size := by
   show 50
   ·exact ZAG h1
   ·exact ZAG h2
   ·exact ZAG h3
   ·obtain ⟨_, e, _⟩ := h4; exact ZAG e
   ·obtain ⟨_, e, _⟩ := h5; exact ZAG e
  rw [Yf (ZAN hlt)]
  exact (hf c hc).1
 done := by
  show 75
  obtain ⟨xs, ys, hx, hy, he⟩ := hg
  show 242
  show 79
  obtain ⟨its, rx, px, zx⟩ := I.list hx
  obtain ⟨jts, ry, py, zy⟩ := I.list hy
  have DZ : ZipApart z TI TO i1 i2 a b := ⟨D.TIz, D.TOz, D.i1z, D.i2z, D.TITO, D.TIi1, D.TIi2, D.TOi1, D.TOi2, D.i12, YE I hx fz, YE I hx fTO, YE I hx f1, YE I hx f2, YE I hy fz, YE I hy fTO, YE I hy f1, YE I hy f2⟩
  have hend : its.toArray[i]? = none \/ jts.toArray[i]? = none := by
   have l1 := rx.length
   have l2 := ry.length
   rcases he with he | he
   ·exact .inl (by simp; omega)
   ·exact .inr (by simp; omega)
  refine wpAny_pyNext_zip_end (I.ok.hd hc) DZ h1 h2 h3 h4 h5 px.isList py.isList hend fun h' hk => ⟨rfl, ?_⟩
  have fp4 : ∀ c ∈ [z, TO, i1, i2], Ymx X pins H c := fun c hc => by
   show 51
  have notIn : ∀ {c}, c ∉ [z, TO, i1, i2] -> c ≠ z /\ c ≠ TO /\ c ≠ i1 /\ c ≠ i2 := fun {c} hc => by
   show 238
  have tr : ∀ {c u}, H c = some u -> c ≠ z /\ c ≠ TO /\ c ≠ i1 /\ c ≠ i2 := fun {c u} e => ⟨Ye e fz.1, Ye e fTO.1, Ye e f1.1, Ye e f2.1⟩
  exact I.step (h' := h') (g' := s.gens) (t' := s.toks) (d' := s.drawn) (ch := [z, TO, i1, i2]) (fun c hc => ⟨(fp4 c hc).2.2.2.1, (fp4 c hc).2.1, (fp4 c hc).2.2.2.2.1, (fp4 c hc).2.2.2.2.2⟩)
   (fun c o _ _ hc e _ => let ⟨t1, t2, t3, t4⟩ := notIn hc; hk c o t1 t2 t3 t4 e) (fun c o _ _ hc e _ => let ⟨t1, t2, t3, t4⟩ := notIn hc; ⟨o.slots, hk c o t1 t2 t3 t4 e⟩)
   (fun c o hc e n => n) (fun c o hc e => let ⟨t1, t2, t3, t4⟩ := notIn hc; ⟨o, hk c o t1 t2 t3 t4 e⟩)
   (fun c xs q => q) (fun c o u q => q) (fun c ps q => ⟨#[], by rw [q]; simp⟩) (fun m ⟨o, es, ep, e, r⟩ => ⟨o, es, ep, hk _ o fz.2.1.symm fTO.2.1.symm f1.2.1.symm f2.2.1.symm e, r⟩)
   (fun c u e => by
    refine (I.hok c u e).stay (fun c' v hc' q => ?_) (fun c' q => q) fun c' xs q => q
    show 250
    ·show 239
    ·obtain ⟨t1, t2, t3, t4⟩ := tr z1; exact hk _ v t1 t2 t3 t4 q) I.bare
 self := fun A i s Q E st h => ZBo st.1 h
section
variable {elts : List Expr} {x1 : Nat} {tp p : Pos} {f : Expr}
def listAt (st : Ylo) (k : Nat) : Option (List P) := match st[k]? with
 | some (.lst xs) => some xs
 | some (.ro xs) => some xs
 | _ => none
theorem Y8 (rp : Rep K as st H) (e : as[k]? = some a) (h : listAt st k = some xs) : ∃ vs, SqL K H a vs /\ Dens K as H vs xs := by
 unfold listAt at h
 cases q : st[k]? with
 | none => show 171
 | some o =>
  rw [q] at h
  have ob := rp.ob k a _ e q
  cases o with
  | lst ys => cases h; obtain ⟨vs, h1, h2⟩ := ob; exact ⟨vs, .of h1, h2⟩
  | ro ys => cases h; obtain ⟨vs, h1, h2⟩ := ob; exact ⟨vs, Z8 h1, h2⟩
  | dct ys => cases h
  | exc c ys => cases h
  | dtt kvs => cases h
  | fdc kvs => cases h
def Yml (xs ys : List P) (i : Nat) : Option P := match xs[i]?, ys[i]? with
 | some x, some y => some (.tup [x, y])
 | _, _ => none
def Ynk (k l n : Nat) : Src := ⟨n, fun i st => match listAt st k, listAt st l with
 | some xs, some ys => some (Yml xs ys i)
 | _, _ => none⟩
theorem YfN {l : Nat} {b : Addr} (ha : as[k]? = some a) (hb : as[l]? = some b) : Ynw K as H (Ynk k l n) (Itz K a b) where
 go := fun i as2 st2 H2 p x rp e => by
  have e' : (match listAt st2 k, listAt st2 l with | some xs, some ys => some (Yml xs ys i) | _, _ => none) = some (some p) := e
  cases q1 : listAt st2 k with
  | none => show 248
  | some xs =>
   cases q2 : listAt st2 l with
   | none => show 258
   | some ys =>
    rw [q1, q2] at e'
    have ez := Option.some.inj e'
    unfold Yml at ez
    obtain ⟨vs, s1, d1⟩ := Y8 rp (x.pre _ _ ha) q1
    obtain ⟨ws, s2, d2⟩ := Y8 rp (x.pre _ _ hb) q2
    cases r1 : xs[i]? with
    | none => rw [r1] at ez; cases ez
    | some px =>
     cases r2 : ys[i]? with
     | none => show 235
     | some py =>
      rw [r1, r2] at ez
      cases ez
      obtain ⟨v, g1, g2⟩ := d1.get r1
      obtain ⟨w, g3, g4⟩ := d2.get r2
      refine ⟨⟨vs, v, ws, w, s1, g1, s2, g3⟩, fun u H3 ⟨t, e1, e2, e3⟩ => ?_⟩
      obtain ⟨v', w', f1, f2, rfl⟩ := e3 vs ws s1 s2
      rw [g1] at f1; cases f1
      rw [g3] at f2; cases f2
      subst e1
      exact ⟨Ext.laid e2, rp.laid e2, .tup (.of Yn) (.cons (g2.ext (Ext.laid e2)) (.cons (g4.ext (Ext.laid e2)) .nil))⟩
 stop := fun i as2 st2 H2 x rp e => by
  have e' : (match listAt st2 k, listAt st2 l with | some xs, some ys => some (Yml xs ys i) | _, _ => none) = some none := e
  cases q1 : listAt st2 k with
  | none => show 248
  | some xs =>
   cases q2 : listAt st2 l with
   | none => show 258
   | some ys =>
    rw [q1, q2] at e'
    have ez := Option.some.inj e'
    unfold Yml at ez
    obtain ⟨vs, s1, d1⟩ := Y8 rp (x.pre _ _ ha) q1
    obtain ⟨ws, s2, d2⟩ := Y8 rp (x.pre _ _ hb) q2
    refine ⟨vs, ws, s1, s2, ?_⟩
    rw [d1.length, d2.length]
    cases r1 : xs[i]? with
    | none => exact .inl (ZAz.mp r1)
    | some px =>
     cases r2 : ys[i]? with
     | none => exact .inr (ZAz.mp r2)
     | some py => show 235
end
section
variable {M : Model}
theorem Yfc {src : Source} {Q : Nat -> Shared -> Prop} (hn : n ≠ 0) (h : ∀ i, i < n -> Q i { s with drawn := s.drawn.bump src }) : wpAny M A (choose src n) Q E s :=
 fun _ _ _ => ⟨hn, h _ (Nat.mod_lt _ (Nat.pos_of_ne_zero hn))⟩
end
theorem Ydy (t : SetTable) (es : Array (Int × Value)) (h : Int) (x : Value) : (layNew t es h x).2.1.led = t.led := by
 unfold layNew
 split
 ·simp only [SetTable.orStandIn]
  split <;> rfl
 ·rfl
theorem YbK (t : SetTable) (es : Array (Int × Value)) (h : Int) (x : Value) (p : t.plain = false) : (layNew t es h x).2.1.plain = false := by
 unfold layNew
 split
 ·simp only [SetTable.orStandIn]
  split
  ·exact p
  ·rfl
 ·rfl
theorem Yab {mask finger moves : Nat} {led plain : Bool} {hs : Array Int} {o : Array Nat} (h : SetTable.laid mask finger moves led plain hs = some (t, o)) : t.led = led /\ t.plain = plain := by
 unfold SetTable.laid at h
 cases q : SetTable.layClean mask hs with
 | none => show 171
 | some ow =>
  rw [q] at h
  cases h
  exact ⟨rfl, rfl⟩
theorem Ybs (t : SetTable) (es : Array (Int × Value)) (n : Nat) : (relayAll t es n).2.1.led = t.led := by
 unfold relayAll
 split
 ·rename_i t' o e
  show 103
  ·exact (Yab e).1
  ·rfl
 ·rfl
theorem JZ (t : SetTable) (es : Array (Int × Value)) (n : Nat) (p : t.plain = false) : (relayAll t es n).2.1.plain = false := by
 unfold relayAll
 split
 ·rename_i t' o e
  show 103
  ·exact (Yab e).2.trans p
  ·rfl
 ·rfl
abbrev byText (w : World) : Bool := w.params.followText "set-order"
def YlF (es : Array (Int × Value)) (ep : Nat) (t : SetTable) : Obj := { cls := .type "set", dict := none, data := .set es ep t, slots := #[] }
structure TT1 (prog : Program) (w : World) (es : Array (Int × Value)) (t : SetTable) (ks : List Str) : Prop where
 el : ElemsOf (strKind prog w) es.toList
 fit : t.fits es.size = true
 led : t.led = !(byText w)
 pl : es.size = 0 \/ t.plain = false
 pm : (es.toList.map fun e => strOf e.2).Perm ks
def TS (prog : Program) (w : World) (h : Heap) (a : Addr) (ks : List Str) : Prop := ∃ es ep t, h.get? a = some (YlF es ep t) /\ TT1 prog w es t ks
theorem TT1.sz (h : TT1 prog w es t ks) : es.size = ks.length := by
 rw [<- h.pm.length_eq]; simp
theorem TT1.mem (h : TT1 prog w es t ks) (k : Str) : k ∈ ks ↔ ∃ e ∈ es.toList, (strKind prog w).is k e.2 = true := by
 rw [<- h.pm.mem_iff, ZAY]
 constructor
 ·rintro ⟨e, he, rfl⟩
  obtain ⟨⟨k', hk, _⟩, _⟩ := h.el e he
  obtain ⟨t', e'⟩ := ZBt hk
  exact ⟨e, he, by rw [e']; exact strKind_is _ _ _ _⟩
 ·rintro ⟨e, he, hk⟩
  obtain ⟨t', e'⟩ := ZBt hk
  exact ⟨e, he, by rw [e']; rfl⟩
section
theorem J8 {g : Bool -> Sem Unit} (hg : ∀ (b : Bool) (s1 : Shared) (Q1 : Unit -> Shared -> Prop), Q1 () s1 -> wpAny (model prog w) A (g b) Q1 E s1)
 {es1 : Array (Int × Value)} {t2 : SetTable} (ho : s.heap.get? a = some (YlF es ep t)) (hb : es1.size < scanBound) {dm : Bool} {R : Option Bool -> Shared -> Prop}
 (hf : t2.fits es1.size = true) (hp : t2.plain = false)
 (fin : ∀ h' es' ep' t', Heap.SameBut a s.heap h' -> h'.get? a = some (YlF es' ep' t') -> es'.toList.Perm es1.toList -> t'.fits es'.size = true -> t'.led = t2.led -> t'.plain = false -> R (some true) { s with heap := h' }) :
 wpAny (model prog w) A (do
  storeSet a es1 t2
  if (!dm && t2.tooFull) = true then do
   g (relayAll t2 es1 (SetTable.grown es1.size)).2.2
   storeSet a (relayAll t2 es1 (SetTable.grown es1.size)).1 (relayAll t2 es1 (SetTable.grown es1.size)).2.1
   pure (some true)
  else pure (some true)) R E s := by
 refine ZAA (wpAny_storeSet_of ho rfl ?_ (fits_of_scanBound hb))
 have g1 : (s.heap.update a (Obj.putSet es1 t2)).get? a = some (YlF es1 (ep + 1) t2) := by
  have := ZBF (Obj.putSet es1 t2) ho (by rw [putSet_of es1 t2 rfl]; rfl)
  rw [putSet_of es1 t2 rfl] at this
  exact this
 have b1 := Heap.SameBut.update s.heap a (Obj.putSet es1 t2)
 split
 ·have e1 := relayAll_perm t2 es1 (SetTable.grown es1.size)
  have e2 := relayAll_fits t2 es1 (SetTable.grown es1.size)
  have e3 := Ybs t2 es1 (SetTable.grown es1.size)
  have e4 := JZ t2 es1 (SetTable.grown es1.size) hp
  generalize relayAll t2 es1 (SetTable.grown es1.size) = r at e1 e2 e3 e4 ⊢
  obtain ⟨es2, t3, gw⟩ := r
  dsimp only at e1 e2 e3 e4 ⊢
  have hb2 : es2.size < scanBound := by
   have := e1.length_eq
   simp only [Array.length_toList] at this
   rw [this]; exact hb
  refine ZAA (hg _ _ _ ?_)
  refine ZAA (wpAny_storeSet_of g1 rfl ?_ (fits_of_scanBound hb2))
  have g2 : ((s.heap.update a (Obj.putSet es1 t2)).update a (Obj.putSet es2 t3)).get? a = some (YlF es2 (ep + 1 + 1) t3) := by
   have := ZBF (Obj.putSet es2 t3) g1 (by rw [putSet_of es2 t3 rfl]; rfl)
   rw [putSet_of es2 t3 rfl] at this
   exact this
  exact ZAC (fin _ _ _ _ (b1.trans (Heap.SameBut.update _ a _)) g2 e1 e2 e3 e4)
 ·exact ZAC (fin _ _ _ _ b1 g1 .rfl hf rfl hp)
def putK (ks : List Str) (k : Str) : List Str := if k ∈ ks then ks else ks ++ [k]
theorem Yeg {k : Str} {tk : Tok} {Q : Bool -> Shared -> Prop} (hS : TS prog w s.heap a ks) (hr : ks.length + 1 < scanBound)
 (h : ∀ h' b, Heap.SameBut a s.heap h' -> TS prog w h' a (putK ks k) -> Q b { s with heap := h' }) : wpAny (model prog w) A (setAddHashed a (.str k tk) ((strKind prog w).hash k)) Q E s := by
 obtain ⟨es, ep, t, ho, T⟩ := hS
 have hk : (strKind prog w).is k (.str k tk) = true := strKind_is _ _ _ _
 have hb : es.size < scanBound := by rw [T.sz]; omega
 have hb1 : es.size + 1 < scanBound := by rw [T.sz]; exact hr
 unfold setAddHashed setAddHashedIn
 refine ZAi (ZAA (ZBT ho rfl T.fit ?_))
 show 145
 rw [byScan_of (knd := strKind prog w) (x := .str k tk) rfl hb T.el]
 simp only [↓reduceIte]
 unfold setAddByScan
 show 156
 refine ZAA (ZBn ?_)
 refine ZAA (wpAny_setScan_of hk ho rfl T.fit T.el ?_)
 cases q : List.findIdx? (fun e => (strKind prog w).is k e.2) es.toList with
 | some j =>
  show 145
  obtain ⟨hj, hpj, _⟩ := List.findIdx?_eq_some_iff_getElem.mp q
  have hin : k ∈ ks := (T.mem k).mpr ⟨es.toList[j], ZAb hj, hpj⟩
  refine ZAC (ZAC ?_)
  have := h s.heap false (Heap.SameBut.refl a s.heap) (by rw [putK, ZAF hin]; exact ⟨es, ep, t, ho, T⟩)
  cases s; exact this
 | none =>
  show 145
  have hin : k ∉ ks := fun z => by
   obtain ⟨e, he, hp⟩ := (T.mem k).mp z
   have := List.findIdx?_eq_none_iff.mp q e he
   rw [hp] at this; cases this
  have hgw : ∀ (b : Bool) {s1 : Shared} {Q1 : Unit -> Shared -> Prop}, Q1 () s1 -> wpAny (model prog w) A (match b with | true => rule "set.scan.the-table-gave-way" | false => pure ()) Q1 E s1 :=
   fun b s1 Q1 z => by
    cases b
    ·exact ZAC z
    ·exact ZBn z
  have e1 := layNew_perm t es ((strKind prog w).hash k) (.str k tk)
  have e2 := layNew_fits t es ((strKind prog w).hash k) (.str k tk)
  have e3 := Ydy t es ((strKind prog w).hash k) (.str k tk)
  have e4 := YbK t es ((strKind prog w).hash k) (.str k tk)
  generalize layNew t es ((strKind prog w).hash k) (.str k tk) = L at e1 e2 e3 e4 ⊢
  obtain ⟨es1, t1, dm, gv⟩ := L
  dsimp only at e1 e2 e3 e4 ⊢
  rw [Array.toList_push] at e1
  have hz : es1.size < scanBound := by
   have := e1.length_eq
   simp only [Array.length_toList, List.length_append, List.length_singleton] at this
   rw [this]; exact hb1
  have el1 : ElemsOf (strKind prog w) es1.toList := (T.el.push hk rfl).perm e1
  have fin : ∀ (t2 : SetTable), t2.led = t1.led -> ∀ (h' : Heap) (es' : Array (Int × Value)) (ep' : Nat) (t' : SetTable), Heap.SameBut a s.heap h' -> h'.get? a = some (YlF es' ep' t') -> es'.toList.Perm es1.toList -> t'.fits es'.size = true -> t'.led = t2.led -> t'.plain = false ->
   Q true { s with heap := h' } := fun t2 l2 h' es' ep' t' sb g' pm ft ld pl =>
   h h' true sb ⟨es', ep', t', g', el1.perm pm, ft, by rw [ld, l2, e3, T.led], .inr pl, by
    rw [putK, ZAE hin]
    refine ((pm.trans e1).map _).trans ?_
    rw [ZAU]
    exact T.pm.append_right _⟩
  refine ZAA (hgw _ ?_)
  split
  ·show 156
   rw [hashByValue_scannable 8 rfl]
   show 170
   have hpk : plainKind (.str k tk) = false := rfl
   rw [hpk]
   simp only [Bool.false_eq_true, ↓reduceIte]
   refine J8 ?_ ho hz ?_ rfl ?_
   ·intro b s1 Q1 z
    cases b
    ·exact ZAC z
    ·exact ZBn z
   ·exact SetTable.fits_plain_off e2
   ·intro h' es' ep' t' c1 c2 c3 c4 c5 c6
    show 145
    exact ZAC (fin _ (by rfl) h' es' ep' t' c1 c2 c3 c4 c5 c6)
  ·rename_i np
   show 218
   simp only [↓reduceIte]
   refine J8 ?_ ho hz e2 (by simpa using np) ?_
   ·intro b s1 Q1 z
    cases b
    ·exact ZAC z
    ·exact ZBn z
   ·intro h' es' ep' t' c1 c2 c3 c4 c5 c6
    show 145
    exact ZAC (fin _ rfl h' es' ep' t' c1 c2 c3 c4 c5 c6)
end
def once (ks : List Str) : List Str := ks.foldl putK []
theorem Yec (ks : List Str) (k : Str) : once (ks ++ [k]) = putK (once ks) k := by simp [once, List.foldl_append]
theorem Ygp (ks : List Str) (k : Str) : (putK ks k).length <= ks.length + 1 := by
 unfold putK; split <;> simp
theorem WI : ∀ (ks acc : List Str), (ks.foldl putK acc).length <= acc.length + ks.length
 | [], acc => by simp
 | k :: r, acc => by
  rw [ZAr]
  have h1 := WI r (putK acc k)
  have h2 := Ygp acc k
  simp only [List.length_cons]; omega
theorem YcI (ks : List Str) : (once ks).length <= ks.length := by simpa [once] using WI ks []
theorem Yfy {k : Str} : x ∈ putK ks k ↔ x ∈ ks \/ x = k := by
 unfold putK
 split
 ·rename_i h
  exact ⟨.inl, fun z => z.elim id fun e => e ▸ h⟩
 ·simp
theorem WL {x : Str} : ∀ (ks acc : List Str), x ∈ ks.foldl putK acc ↔ x ∈ acc \/ x ∈ ks
 | [], acc => by simp
 | k :: r, acc => by
  rw [ZAr, WL r, Yfy, ZAc]
  exact or_assoc
theorem mem_once : x ∈ once ks ↔ x ∈ ks := by simpa [once] using WL (x := x) ks []
theorem YdB {k : Str} (h : ks.Nodup) : (putK ks k).Nodup := by
 unfold putK
 split
 ·exact h
 ·rename_i hk
  rw [ZBi]
  exact ⟨h, by simp, fun a ha b hb e => hk (by rw [List.mem_singleton] at hb; subst hb; exact e ▸ ha)⟩
theorem Wc : ∀ (ks acc : List Str), acc.Nodup -> (ks.foldl putK acc).Nodup
 | [], _, h => h
 | k :: r, acc, h => by rw [ZAr]; exact Wc r _ (YdB h)
theorem Ydi (ks : List Str) : (once ks).Nodup := Wc ks [] List.nodup_nil
theorem TS.keep {h h' : Heap} (x : TS prog w h a ks) (k : ∀ o, h.get? a = some o -> h'.get? a = some o) : TS prog w h' a ks :=
 let ⟨es, ep, t, ho, T⟩ := x; ⟨es, ep, t, k _ ho, T⟩
theorem TS.typeIs (x : TS prog w s.heap a ks) : s.TypeIs (.ref a) "set" :=
 let ⟨_, _, _, ho, _⟩ := x; ⟨_, ho, rfl⟩
theorem TS.empty {h : Heap} (e : h.get? a = some (YlF #[] 0 (.fresh 0 0 (!(byText w))))) : TS prog w h a [] :=
 ⟨_, _, _, e, fun e he => by simp at he, rfl, rfl, .inl rfl, .refl _⟩
section
variable {R : Result -> Shared -> Prop} {fp wr : List Addr} {G : Array GenState -> Array GenState -> Prop} {P : Nat -> Value -> Prop} {St : Nat -> Shared -> Prop}
theorem VB {ys : List Str} (W : WalksS prog w A.in1 I fp wr G ys.length P St) (S : Addr) (hS : S ∉ fp) (hv : ∀ i v, P i v -> ∃ x t, ys[i]? = some x /\ v = .str x t) (hb : ys.length + 1 < scanBound) :
 ∀ (k i : Nat) (s : Shared), ys.length - i = k -> i <= ys.length -> St i s -> TS prog w s.heap S (once (ys.take i)) ->
  (∀ s', Moved (S :: wr) G s s' -> TS prog w s'.heap S (once ys) -> R (.ok (.ret .none)) s') -> codeAny (model prog w) A (.builtin "set.update.loop" ⟨[.ref S, .ref I], []⟩) R s := by
 have nw : S ∉ wr := fun h => hS (W.sub _ h)
 have sub : ∀ b ∈ wr, b ∈ S :: wr := fun b hb => ZAQ _ hb
 intro k
 induction k with
 | zero =>
  intro i s hk hi hst T hR
  have e : i = ys.length := by omega
  subst e
  rw [ZAo] at T
  refine codeAny_builtin F.entry_set_update_loop ?_
  rw [Around.under_plainId F.plain_set_update_loop _]
  show wpAny _ A.in1 (pyNext (.ref I) >>= _) _ _ s
  refine ZAA (W.done s _ _ hst fun s' hm => ?_)
  show wpAny _ A.in1 (ret Value.none) _ _ s'
  exact ZAC (hR s' (hm.mono sub) (T.keep fun o e => hm.heap S o nw e))
 | succ k ih =>
  intro i s hk hi hst T hR
  have hlt : i < ys.length := by omega
  refine codeAny_builtin F.entry_set_update_loop ?_
  rw [Around.under_plainId F.plain_set_update_loop _]
  show wpAny _ A.in1 (pyNext (.ref I) >>= _) _ _ s
  refine ZAA (W.item i s _ _ hlt hst fun v s' hP hst' hm => ?_)
  obtain ⟨x, t, hx, rfl⟩ := hv i v hP
  have T' : TS prog w s'.heap S (once (ys.take i)) := T.keep fun o e => hm.heap S o nw e
  show wpAny _ A.in1 (holding [Value.str x t] (setAdd S (.str x t)) >>= _) _ _ s'
  refine ZAA (ZAi ?_)
  unfold setAdd
  refine ZAi ?_
  refine ZAA ((strKind prog w).pyHash (k := x) (strKind_is _ _ _ _) ?_)
  have room : (once (ys.take i)).length + 1 < scanBound := by
   have := YcI (ys.take i)
   rw [ZAm] at this
   omega
  refine Yeg (s := { s' with toks := s'.toks + 1 }) T' room fun h' b sb T2 => ?_
  have T3 : TS prog w h' S (once (ys.take (i + 1))) := by
   rw [ZCE, hx]
   simp only [Option.toList_some]
   rw [Yec]
   exact T2
  refine ZAC ⟨plainId_quiet F.plain_set_update_loop _, ih (i + 1) _ (by omega) hlt (W.frame _ s' _ _ hst' (ZCT _) fun b hb o e => ?_) T3 fun s2 hm2 T4 => ?_⟩
  ·rw [sb.2 b fun z : b = S => hS (z ▸ hb)]; exact e
  ·refine hR s2 (Moved.trans W.gtrans ((hm.mono sub).then_heap (ZCT _) fun b o hb e => ?_) hm2) T4
   rw [sb.2 b fun z : b = S => hb (z ▸ ZAM)]; exact e
end
section
theorem Jm (a : Value)
 (h : Q (.ref s.heap.objs.size) { s with heap := s.heap.push (YlF #[] 0 (.fresh 0 0 (!(byText w)))) }) :
 codeAny (model prog w) A (.call (.builtin "set.__new__") ⟨[.type "set", a], []⟩) (wants Q E) s := by
 refine codeAny_of_tree ?_
 show wpAny _ A.in1 (do checkBuiltinCall "set.__new__" ⟨[.type "set", a], []⟩; again (.builtin "set.__new__" ⟨[.type "set", a], []⟩)) _ _ s
 refine ZAA (wpAny_of_eq (F.newCall_set_1 a) (ZAC ⟨plainId_quiet F.plain_set_new _, codeAny_builtin F.entry_set_new ?_⟩))
 rw [Around.under_plainId F.plain_set_new _]
 unfold Builtin.«set.__new__» Builtin.Frozenset.newClass
 have q1 := sub_set_self
 obtain ⟨hp, g, d, tk, os⟩ := s
 show 145
 wp_walk
 refine ZBX (ZAC ?_)
 show 145
 simp only [newObj]
 refine ZAA (wpAny_alloc (ZAC ?_))
 exact ZAC h
set_option maxHeartbeats 3200000 in
theorem Yel {l : Addr} {ys : List Str}
 (hh : A.handled = none) (hl : s.heap.IsList l items) (hi : StrsAre items.toList ys) (hb : ys.length + 1 < scanBound)
 (h : ∀ (h' : Heap) (tk : Nat), TS prog w h' s.heap.objs.size (once ys) -> s.heap.objs.size < h'.objs.size -> (∀ b o, s.heap.get? b = some o -> h'.get? b = some o) -> Q (.ref s.heap.objs.size) { s with heap := h', toks := tk }) :
 wpAny (model prog w) A (call (.type "set") [.ref l]) Q E s := by
 have hn : items.size = ys.length := by have := StrsAre.length hi; simpa using this
 obtain ⟨c, tl, hmro⟩ := F.called_set.mro
 have q1 := F.called_set.made
 have q2 := F.called_set.sub
 refine wpAny_call (codeAny_of_tree ?_)
 show wpAny _ _ (callAny (.type "set") _) _ _ _
 refine ZAC ⟨Code.quiet_builtin _ (by decide +kernel), codeAny_builtin F.entry_type_call ?_⟩
 rw [Around.under_plain (weight_type_call_type "set" [.ref l] []) rfl]
 have q3 := F.called_set.notType
 have q4 := F.called_set.canCreate
 have q5 := F.typeCall_set_1 (.ref l)
 show 182
 refine codeAny_mono (Jm (.ref l) (E := E) (Q := fun obj s1 => obj = .ref s.heap.objs.size /\ s1 = { s with heap := s.heap.push (YlF #[] 0 (.fresh 0 0 (!(byText w)))) }) ⟨rfl, rfl⟩) fun r s1 hr => ?_
 cases r with
 | error e => exact hr
 | ok fl =>
  cases fl with
  | ret obj =>
   obtain ⟨rfl, rfl⟩ := hr
   have gS : (s.heap.push (YlF #[] 0 (.fresh 0 0 (!(byText w))))).get? s.heap.objs.size = some (YlF #[] 0 (.fresh 0 0 (!(byText w)))) := ZAH _ rfl
   have hT : Shared.TypeIs { s with heap := s.heap.push (YlF #[] 0 (.fresh 0 0 (!(byText w)))) } (.ref s.heap.objs.size) "set" := ⟨_, gS, rfl⟩
   have q6 := F.called_set.init.lookup
   have q7 := F.called_set.init.bind (.ref s.heap.objs.size)
   show 182
   refine codeAny_mono (codeAny_call_builtin (R := wants (fun r s2 => r = .none /\ ∃ h' tk, s2 = { s with heap := h', toks := tk } /\ TS prog w h' s.heap.objs.size (once ys) /\ (∀ b o, s.heap.get? b = some o -> h'.get? b = some o)) E)
    F.called_set.init.plain F.entry_set_init (check_set_init_1 hT ?_)) fun r2 s2 hr2 => ?_
   ·obtain ⟨ol, hol, hcl, nl, hdl⟩ := hl
    obtain ⟨ocls, odict, odata, oslots⟩ := ol
    simp only at hcl hdl
    subst hcl; subst hdl
    have hol1 : (s.heap.push (YlF #[] 0 (.fresh 0 0 (!(byText w))))).get? l = some { cls := .type "list", dict := odict, data := .seq items nl, slots := oslots } := ZAD _ hol
    have q8 := F.sub_list_set
    have q9 := F.sub_list_frozenset
    have q10 : (Value.type "list" == Value.type "dict") = false := by decide
    have hl1 : (s.heap.push (YlF #[] 0 (.fresh 0 0 (!(byText w))))).IsList l items := ⟨_, hol1, rfl, nl, rfl⟩
    unfold Builtin.«set.__init__» noKeywords Builtin.Frozenset.updateFrom
    generalize hPI : pyIter = PI
    wp_walk
    subst hPI
    refine ZB1 hl1 ?_
    refine ZAA (ZB9 ?_)
    have lt : l < s.heap.objs.size := ZAG hol
    have hh3 : A.in1.in1.in1.handled = none := by simp [hh]
    have hneI : l ≠ (s.heap.push (YlF #[] 0 (.fresh 0 0 (!(byText w))))).objs.size := by
     rw [ZAf]; exact ZAN (ZAv lt)
    have hSf : s.heap.objs.size ∉ [(s.heap.push (YlF #[] 0 (.fresh 0 0 (!(byText w))))).objs.size, l] := by
     rw [Heap.size_push]; simp only [List.mem_cons, List.mem_singleton, List.not_mem_nil, or_false, not_or]
     exact ⟨ZAN (ZAx _), ZA6 lt⟩
    have hv : ∀ (i : Nat) (v : Value), items[i]? = some v -> ∃ x t, ys[i]? = some x /\ v = .str x t := fun i v hv => by
     have e1 : v ∈ items.toList := by
      rw [<- ZBP] at hv
      exact ZA9 hv
     obtain ⟨x, t, rfl⟩ := hi.all v e1
     refine ⟨x, t, ?_, rfl⟩
     have := hi.strs
     rw [<- this, ZAZ, ZBP, hv]
     rfl
    have W := (Walks.list (prog := prog) (w := w) hh3 _ l hneI items).toS
    rw [hn] at W
    refine VB W s.heap.objs.size hSf hv hb (ys.length - 0) 0 _ (by omega) (ZBN _)
     ⟨⟨_, ZAH _ rfl, rfl, rfl⟩, (hl1.push _)⟩ ?hS0 ?hR
    case hS0 =>
     exact TS.empty (ZAD _ gS)
    case hR =>
     intro s3 hm T3
     obtain ⟨h3, g3, d3, tk3, os3⟩ := s3
     have eg : g3 = s.gens := hm.gens
     have ed : d3 = s.drawn := hm.drawn
     have eo : os3 = s.os := hm.os
     subst eg; subst ed; subst eo
     show wpAny _ _ _ _ _ _
     show 170
     show wpAny _ _ (ret Value.none) _ _ _
     refine ZAC ⟨rfl, h3, tk3, rfl, T3, fun b o e => ?_⟩
     have hb := ZAG e
     have hb1 : b ≠ s.heap.objs.size := ZAN hb
     have hb2 : b ≠ (s.heap.push (YlF #[] 0 (.fresh 0 0 (!(byText w))))).objs.size := by
      rw [ZAf]; exact ZAN (ZAv hb)
     exact hm.heap b o (by simp only [List.mem_cons, List.mem_singleton, List.not_mem_nil, or_false, not_or]; exact ⟨hb1, hb2⟩) (Heap.get?_push_of_some _ (Heap.get?_push_of_some _ e))
   ·cases r2 with
    | error e => exact hr2
    | ok fl2 =>
     cases fl2 with
     | ret r =>
      obtain ⟨rfl, h', tk, rfl, hS', hk'⟩ := hr2
      show 182
      obtain ⟨es, ep, t, ho, T⟩ := hS'
      exact h _ _ ⟨es, ep, t, ho, T⟩ (ZAG ho) hk'
     | _ => exact hr2.elim
  | _ => exact hr.elim
end
theorem slot_seti_next : Slot "set_iterator" "__next__" "set_iterator.__next__" :=
 .of (owner := "set_iterator") (n := "__next__") (by rw [typeLookup_type, builtinLookup_eq_fast]; kernel_rfl) (by decide +kernel) (by decide +kernel) (by decide +kernel)
  (by first | exact .inl (by decide +kernel) | exact .inr (by decide +kernel)) (by rw [isSubtype_type]; kernel_rfl)
theorem WH : Slot "set_iterator" "__iter__" "set_iterator.__iter__" :=
 .of (owner := "set_iterator") (n := "__iter__") (by rw [typeLookup_type, builtinLookup_eq_fast]; kernel_rfl) (by decide +kernel) (by decide +kernel) (by decide +kernel)
  (by first | exact .inl (by decide +kernel) | exact .inr (by decide +kernel)) (by rw [isSubtype_type]; kernel_rfl)
theorem Y9 : entryFor table "set_iterator.__next__" = some Builtin.«set_iterator.__next__» := entryFor_of_fast (by kernel_rfl)
theorem Jp : entryFor table "set_iterator.__iter__" = some Builtin.«dict_keyiterator.__iter__» :=
 entryFor_alias (id' := "dict_keyiterator.__iter__") (by kernel_rfl) rfl (by decide +kernel) (by kernel_rfl)
theorem Ju : entryFor table "set.__iter__" = some Builtin.«frozenset.__iter__» :=
 entryFor_alias (id' := "frozenset.__iter__") (by kernel_rfl) rfl (by decide +kernel) (by kernel_rfl)
theorem Zl (a : Value) : argsOk "set_iterator.__next__" ⟨[a], []⟩ := by unfold argsOk; kernel_rfl
theorem J0 (a : Value) : argsOk "set_iterator.__iter__" ⟨[a], []⟩ := by unfold argsOk; kernel_rfl
def Ymk (f : Value) (i : Nat) (S : Addr) (n ep : Nat) : Obj := { cls := .type "set_iterator", dict := none, data := .fields #[f, .int i 0, .ref S, .int n 0, .int ep 0], slots := #[] }
section
variable {Q : Option Value -> Shared -> Prop}
theorem WV (hI : s.heap.get? I = some (Ymk f i S es.size ep)) (hS : s.heap.get? S = some (YlF es ep t)) (hf : t.fits es.size = true)
 {P : Fin -> Shared -> Prop}
 (h : wpAny (model prog w) A (match f with
  | .int slot _ => (do
   match <- setNext S slot.toNat i ep with
   | some (x, next) =>
    setField (.ref I) 0 (rawInt next)
    setField (.ref I) 1 (rawInt ((i : Int) + 1))
    ret x
   | none => setField (.ref I) 2 .none; raiseNew (<- newExc (.type "StopIteration") []))
  | _ => (do
   let some places <- seqItems? f | unsupported "internal:set_iterator"
   match places[i]? with
   | some (.int place _) =>
    let x <- setNextDrawn S place.toNat ep
    setField (.ref I) 1 (rawInt ((i : Int) + 1))
    ret x
   | some _ => unsupported "internal:set_iterator"
   | none => setField (.ref I) 0 (rawInt 0); setField (.ref I) 2 .none; raiseNew (<- newExc (.type "StopIteration") []))) P E s) :
 wpAny (model prog w) A (Builtin.«set_iterator.__next__» ⟨[.ref I], []⟩) P E s := by
 unfold Builtin.«set_iterator.__next__» slotArgs
 simp only [List.isEmpty_nil, Bool.not_true, Bool.false_eq_true, ↓reduceIte, List.length_nil, bne_self_eq_false]
 show 218
 show 145
 unfold fieldsOf
 refine ZAA (ZAA (ZCG hI ?_))
 show 170
 show 145
 refine ZAA (wpAny_setEntries_of hS rfl hf ?_)
 simp only [bne_self_eq_false, Bool.false_eq_true, ↓reduceIte, Int.toNat_natCast]
 cases f <;> exact h
end
section
variable {Q : Option Value -> Shared -> Prop}
theorem Zq (hI : s.heap.get? I = some (Ymk f i S es.size ep)) : s.TypeIs (.ref I) "set_iterator" := ⟨_, hI, rfl⟩
theorem V4 {h0 : Heap} (hh : A.handled = none) (k : Heap.ExtBut I h0 s.heap) {P : Fin -> Shared -> Prop}
 (h : ∀ h' x, Heap.ExtBut I h0 h' -> (∃ o, h'.get? x = some o /\ o.cls = .type "StopIteration") -> E (.ref x) { s with heap := h' }) :
 wpAny (model prog w) A (do raiseNew (<- newExc (.type "StopIteration") [])) P E s := by
 show 156
 simp only [newExc, newTuple]
 refine ZAA (ZAu ?_ (by size_fits))
 refine wpAny_bind (m := firstArgMember _ _) (wpAny_of_eq (a := Value.none) (by first | rfl | (simp only [firstArgMember]; rfl)) ?_)
 refine ZAu ?_ (by size_fits)
 simp only [raiseNew]
 refine ZAA (wpAny_handled ?_)
 rw [hh]
 refine ZAA (ZAC (wpAny_throw ?_))
 exact h _ _ ((k.push _).push _) ⟨_, ZAH _ rfl, rfl⟩
theorem Yaj {slot next : Nat} {x : Value} (hI : s.heap.get? I = some (Ymk (.int slot 0) i S es.size ep)) (hS : s.heap.get? S = some (YlF es ep t)) (hf : t.fits es.size = true)
 (hn : ∀ (A' : Around) (E' : VSP) (Q' : Option (Value × Nat) -> Shared -> Prop), Q' (some (x, next)) s -> wpAny (model prog w) A' (setNext S slot i ep) Q' E' s)
 (h : ∀ h', h'.get? I = some (Ymk (.int next 0) (i + 1) S es.size ep) -> Heap.SameBut I s.heap h' -> Q (some x) { s with heap := h' }) : wpAny (model prog w) A (pyNext (.ref I)) Q E s := by
 show 225
 refine ZAA (ZBS (wpAny_callSpecial?_slot (name := Str.ofString "__next__") (Zq hI) slot_seti_next
  (ZAj slot_seti_next (Zq hI) Y9 (WV hI hS hf ?_) (Zl _))))
 show 145
 show 156
 simp only [Int.toNat_natCast]
 refine hn _ _ _ ?_
 show 104
 refine wpAny_bind (wpAny_setField_rec g1 (by simp) fun h2 g2 b2 => ?_)
 exact wpAny_pure ⟨_, rfl, wpAny_pure (h h2 (by rw [g2]; simp [Ymk, rawInt]) (b1.trans b2))⟩
theorem V1 {slot : Nat} (hh : A.handled = none) (hI : s.heap.get? I = some (Ymk (.int slot 0) i S es.size ep)) (hS : s.heap.get? S = some (YlF es ep t)) (hf : t.fits es.size = true)
 (hn : ∀ (A' : Around) (E' : VSP) (Q' : Option (Value × Nat) -> Shared -> Prop), Q' none s -> wpAny (model prog w) A' (setNext S slot i ep) Q' E' s)
 (h : ∀ h', Heap.ExtBut I s.heap h' -> Q none { s with heap := h' }) : wpAny (model prog w) A (pyNext (.ref I)) Q E s := by
 show 225
 refine ZAA (ZBS (wpAny_callSpecial?_slot (name := Str.ofString "__next__") (Zq hI) slot_seti_next
  (ZAj slot_seti_next (Zq hI) Y9 (WV hI hS hf ?_) (Zl _))))
 show 145
 show 156
 simp only [Int.toNat_natCast]
 refine hn _ _ _ ?_
 show 104
 refine V4 (h0 := s.heap) (s := { s with heap := h1 }) (A := A.in1) hh b1.extBut fun h2 x k ⟨o, ho, hc⟩ => ?_
 refine ZAA (ZBp (T := "StopIteration") (b := true) ⟨o, ho, hc⟩ isSubtype_stop ?_)
 exact ZAC (h _ k)
theorem Ydp {T : Addr} {pl : Array Value} {p : Nat} {tk : Tok} {hx : Int} {x : Value} (hI : s.heap.get? I = some (Ymk (.ref T) i S es.size ep)) (hS : s.heap.get? S = some (YlF es ep t)) (hf : t.fits es.size = true)
 (hT : s.heap.get? T = some { cls := .type "tuple", data := .seq pl n }) (hp : pl[i]? = some (.int p tk)) (he : es[p]? = some (hx, x))
 (h : ∀ h', h'.get? I = some (Ymk (.ref T) (i + 1) S es.size ep) -> Heap.SameBut I s.heap h' -> Q (some x) { s with heap := h' }) : wpAny (model prog w) A (pyNext (.ref I)) Q E s := by
 show 225
 refine ZAA (ZBS (wpAny_callSpecial?_slot (name := Str.ofString "__next__") (Zq hI) slot_seti_next
  (ZAj slot_seti_next (Zq hI) Y9 (WV hI hS hf ?_) (Zl _))))
 show 145
 refine ZAA (ZAw hT rfl ?_)
 show 145
 rw [hp]
 show 145
 unfold setNextDrawn
 refine ZAA (ZAA (ZBT hS rfl hf ?_))
 simp only [bne_self_eq_false, Bool.false_eq_true, ↓reduceIte, Int.toNat_natCast, he]
 show 170
 show 275
 exact wpAny_pure ⟨_, rfl, wpAny_pure (h h1 (by rw [g1]; simp [Ymk, rawInt]) b1)⟩
theorem Yek {T : Addr} {pl : Array Value} (hh : A.handled = none) (hI : s.heap.get? I = some (Ymk (.ref T) i S es.size ep)) (hS : s.heap.get? S = some (YlF es ep t)) (hf : t.fits es.size = true)
 (hT : s.heap.get? T = some { cls := .type "tuple", data := .seq pl n }) (hp : pl[i]? = none)
 (h : ∀ h', Heap.ExtBut I s.heap h' -> Q none { s with heap := h' }) : wpAny (model prog w) A (pyNext (.ref I)) Q E s := by
 show 225
 refine ZAA (ZBS (wpAny_callSpecial?_slot (name := Str.ofString "__next__") (Zq hI) slot_seti_next
  (ZAj slot_seti_next (Zq hI) Y9 (WV hI hS hf ?_) (Zl _))))
 show 145
 refine ZAA (ZAw hT rfl ?_)
 show 145
 rw [hp]
 show 104
 refine wpAny_bind (wpAny_setField_rec g1 (by simp) fun h2 g2 b2 => ?_)
 refine V4 (h0 := s.heap) (s := { s with heap := h2 }) (A := A.in1) hh (b1.trans b2).extBut fun h3 x k ⟨o, ho, hc⟩ => ?_
 refine ZAA (ZBp (T := "StopIteration") (b := true) ⟨o, ho, hc⟩ isSubtype_stop ?_)
 exact ZAC (h _ k)
theorem VV (hI : s.heap.get? I = some (Ymk f i S es.size ep)) {Q : VSP} (h : Q (.ref I) s) : wpAny (model prog w) A (pyIter (.ref I)) Q E s := by
 refine wpAny_pyIter_slot (Zq hI) WH (ZAj WH (Zq hI) Jp ?_ (J0 _))
 show wpAny _ _ (ret (.ref I)) _ _ s
 exact ZAC ⟨_, rfl, "set_iterator", _, Zq hI, slot_seti_next.lookup, h⟩
end
theorem JQ {α : Type} {xs : Array α} (h : xs.size = 1) : ∃ x, xs = #[x] := by
 obtain ⟨l⟩ := xs
 match l, h with
 | [x], _ => exact ⟨x, rfl⟩
theorem W8 {α : Type} : ∀ {l : List α} {i : Nat} (h : i < l.length), (l[i] :: l.eraseIdx i).Perm l
 | [], _, h => by simp at h
 | x :: l, 0, _ => .refl _
 | x :: l, i + 1, h => by
  have h' : i < l.length := by simpa using h
  simp only [List.getElem_cons_succ, List.eraseIdx_cons_succ]
  exact (List.Perm.swap _ _ _).trans ((W8 h').cons _)
theorem Jb {α : Type} (next : Nat -> Nat) : ∀ (n k : Nat) (left : List α) (out : Array α), left.length = n -> (pickOrder.go next n k left out).toList.Perm (out.toList ++ left)
 | 0, k, left, out, h => by
  have : left = [] := ZCN.mp h
  subst this
  simp [pickOrder.go]
 | n + 1, k, left, out, h => by
  have hlt : next k % left.length < left.length := Nat.mod_lt _ (by omega)
  unfold pickOrder.go
  rw [ZAT hlt]
  show 145
  refine (Jb next n (k + 1) _ _ (by rw [ZCC hlt]; omega)).trans ?_
  rw [Array.toList_push, ZBB]
  refine List.Perm.append_left _ ?_
  exact W8 hlt
theorem V3 {α : Type} (next : Nat -> Nat) (xs : Array α) : (pickOrder next xs).toList.Perm xs.toList := by
 have := Jb next xs.size 0 xs.toList #[] (by simp)
 simpa [pickOrder] using this
section
variable {slot : Nat}
theorem Vo (hb : byText w = true) (hS : s.heap.get? S = some (YlF es ep t)) (hf : t.fits es.size = true) {Q : Option (Value × Nat) -> Shared -> Prop}
 (h : Q (((pickOrder (w.params.setOrder S ep) es)[i]?).map fun e => (e.2, slot)) s) : wpAny (model prog w) A (setNext S slot i ep) Q E s := by
 unfold setNext
 refine ZAA (ZBT hS rfl hf ?_)
 show 145
 unfold setsByText
 refine ZAA (ZAA (ZBX (ZAC ?_)))
 rw [ZAF (show (model prog w).w.params.followText "set-order" = true from hb)]
 simp only [bne_self_eq_false, Bool.false_eq_true, ↓reduceIte]
 unfold setWalk
 refine ZAA (ZAA (ZBT hS rfl hf ?_))
 show 145
 unfold setsByText
 refine ZAA (ZAA (ZBX (ZAC ?_)))
 rw [ZAF (show (model prog w).w.params.followText "set-order" = true from hb)]
 refine ZAA (ZBX (ZAC ?_))
 exact ZAC h
theorem WP (hb : byText w = false) (hS : s.heap.get? S = some (YlF es ep t)) (hf : t.fits es.size = true) (hl : t.led = true) (hz : es.size <= 1) {Q : Option (Value × Nat) -> Shared -> Prop}
 (h : Q (match es[SetTable.below t.place slot]?, t.place[SetTable.below t.place slot]? with
  | some (_, x), some j => some (x, j + 1)
  | _, _ => none) s) : wpAny (model prog w) A (setNext S slot i ep) Q E s := by
 unfold setNext
 refine ZAA (ZBT hS rfl hf ?_)
 show 145
 unfold setsByText
 refine ZAA (ZAA (ZBX (ZAC ?_)))
 rw [if_neg (show ¬ (model prog w).w.params.followText "set-order" = true from by show ¬ byText w = true; rw [hb]; simp)]
 split
 ·rename_i z
  have z' : (!t.plain && decide (es.size > 1)) = true := z
  rw [ZAk] at z'
  have := ZBA z'.2
  omega
 ·refine ZAA (m := if (!t.led && !es.isEmpty) = true then unsupported "set:maker-not-led" else pure ()) ?_
  rw [hl]
  simp only [Bool.not_true, Bool.false_and, Bool.false_eq_true, ↓reduceIte]
  exact ZAC (ZAC h)
theorem YdA (hh : A.handled = none) (hb : byText w = true) (hne : S ≠ I) (hf : t.fits es.size = true) :
 Walks prog w A I [I, S] [I] es.size (fun i v => ((pickOrder (w.params.setOrder S ep) es).map (·.2))[i]? = some v) (fun i h => h.get? I = some (Ymk (.int 0 0) i S es.size ep) /\ h.get? S = some (YlF es ep t)) where
 sub := fun b hb => by simp at hb; simp [hb]
 frame := fun _ _ _ st hk => ⟨hk I (by simp) _ st.1, hk S (by simp) _ st.2⟩
 item := fun i s Q E hi st hQ => by
  have hsz : (pickOrder (w.params.setOrder S ep) es).size = es.size := by
   have := (V3 (w.params.setOrder S ep) es).length_eq
   show 195
  have hi' : i < (pickOrder (w.params.setOrder S ep) es).size := by omega
  refine Yaj (slot := 0) (next := 0) (x := ((pickOrder (w.params.setOrder S ep) es)[i]).2) st.1 st.2 hf (fun A' E' Q' hq => Vo hb st.2 hf ?_) fun h' g' b' => ?_
  ·rw [ZCI hi']; exact hq
  ·exact hQ _ h' s.toks (by simp [hi']) ⟨g', b'.extBut S _ hne st.2⟩ fun b o hb e => b'.extBut b o (fun z => hb (by simp [z])) e
 done := fun s Q E st hQ => by
  have hsz : (pickOrder (w.params.setOrder S ep) es).size = es.size := by
   have := (V3 (w.params.setOrder S ep) es).length_eq
   show 195
  refine V1 (slot := 0) hh st.1 st.2 hf (fun A' E' Q' hq => Vo hb st.2 hf ?_) fun h' b' => ?_
  ·rw [ZBe (by omega)]; exact hq
  ·show 231
 self := fun _ _ _ _ st hQ => VV st.1 hQ
theorem YeZ (hh : A.handled = none) (hb : byText w = false) (hne : S ≠ I) (hf : t.fits es.size = true) (hl : t.led = true) (hz : es.size <= 1) :
 Walks prog w A I [I, S] [I] es.size (fun i v => (es.map (·.2))[i]? = some v) (fun i h => h.get? I = some (Ymk (.int (if i = 0 then 0 else t.place.getD 0 0 + 1 : Nat) 0) i S es.size ep) /\ h.get? S = some (YlF es ep t)) where
 sub := fun b hb => by simp at hb; simp [hb]
 frame := fun _ _ _ st hk => ⟨hk I (by simp) _ st.1, hk S (by simp) _ st.2⟩
 item := fun i s Q E hi st hQ => by
  have e0 : i = 0 := by omega
  have e1 : es.size = 1 := by omega
  subst e0
  have hp : t.place.size = 1 := by
   have : (t.place.size == es.size && decide (t.fill <= t.mask)) = true := hf
   rw [ZAk, beq_iff_eq] at this
   omega
  obtain ⟨j, ej⟩ : ∃ j, t.place = #[j] := JQ hp
  obtain ⟨y, ey⟩ : ∃ y, es = #[y] := JQ e1
  refine Yaj (slot := 0) (next := j + 1) (x := y.2) st.1 st.2 hf (fun A' E' Q' hq => WP hb st.2 hf hl hz ?_) fun h' g' b' => ?_
  ·have hbl : SetTable.below t.place 0 = 0 := by rw [ej]; simp [SetTable.below, SetTable.below.go]
   rw [hbl, ej, ey]
   exact hq
  ·refine hQ _ h' s.toks (by rw [ey]; simp) ⟨?_, b'.extBut S _ hne st.2⟩ fun b o hb e => b'.extBut b o (fun z => hb (by simp [z])) e
   rw [g', ej]; rfl
 done := fun s Q E st hQ => by
  rcases Nat.lt_or_ge 0 es.size with h0 | h0
  ·have e1 : es.size = 1 := by omega
   have hp : t.place.size = 1 := by
    have : (t.place.size == es.size && decide (t.fill <= t.mask)) = true := hf
    rw [ZAk, beq_iff_eq] at this
    omega
   obtain ⟨j, ej⟩ : ∃ j, t.place = #[j] := JQ hp
   refine V1 (slot := j + 1) hh (by have := st.1; rw [e1] at this ⊢; rw [ej] at this; exact this) st.2 hf (fun A' E' Q' hq => WP hb st.2 hf hl hz ?_) fun h' b' => ?_
   ·have hbl : SetTable.below t.place (j + 1) = 1 := by rw [ej]; simp [SetTable.below, SetTable.below.go]
    rw [hbl, ZBe (by omega : es.size <= 1)]
    exact hq
   ·show 231
  ·have e0 : es.size = 0 := by omega
   refine V1 (slot := 0) hh (by have := st.1; rw [e0] at this ⊢; exact this) st.2 hf (fun A' E' Q' hq => WP hb st.2 hf hl hz ?_) fun h' b' => ?_
   ·rw [ZBe (by omega : es.size <= _)]
    exact hq
   ·show 231
 self := fun _ _ _ _ st hQ => VV st.1 hQ
theorem Yb7 {T : Addr} {od : List Nat} (hh : A.handled = none) (hne : S ≠ I) (hnT : T ≠ I) (hf : t.fits es.size = true) (hod : od.Perm (List.range es.size)) :
 Walks prog w A I [I, S, T] [I] es.size (fun i v => (od.filterMap fun j => (es[j]?).map (·.2))[i]? = some v)
  (fun i h => h.get? I = some (Ymk (.ref T) i S es.size ep) /\ h.get? S = some (YlF es ep t) /\ h.get? T = some { cls := .type "tuple", data := .seq (od.map fun (j : Nat) => rawInt j).toArray n }) where
 sub := fun b hb => by simp at hb; simp [hb]
 frame := fun _ _ _ st hk => ⟨hk I (by simp) _ st.1, hk S (by simp) _ st.2.1, hk T (by simp) _ st.2.2⟩
 item := fun i s Q E hi st hQ => by
  have hl : od.length = es.size := by simpa using hod.length_eq
  have hi' : i < od.length := by omega
  have hj : od[i] < es.size := by
   have := hod.mem_iff.mp (ZAb hi')
   show 195
  have key : ∀ (od' : List Nat), (∀ j ∈ od', j < es.size) -> od'.filterMap (fun j => (es[j]?).map (·.2)) = od'.map fun j => (es.getD j (0, .none)).2 := by
   intro od'
   induction od' with
   | nil => intro _; rfl
   | cons j r ih =>
    intro hm
    have h1 := hm j (ZAM ..)
    rw [List.filterMap_cons, ZCI h1]
    simp only [Option.map_some, List.map_cons]
    rw [ih fun k hk => hm k (ZAQ _ hk)]
    simp [h1]
  refine Ydp (p := od[i]) (tk := 0) (hx := es[od[i]].1) (x := es[od[i]].2) st.1 st.2.1 hf st.2.2 (by simp [hi', rawInt]) (by rw [Array.getElem?_eq_getElem hj]) fun h' g' b' => ?_
  refine hQ _ h' s.toks ?_ ⟨g', b'.extBut S _ hne st.2.1, b'.extBut T _ hnT st.2.2⟩ fun b o hb e => b'.extBut b o (fun z => hb (by simp [z])) e
  rw [key od fun j hj => by simpa using hod.mem_iff.mp hj]
  simp [hi', hj]
 done := fun s Q E st hQ => by
  have hl : od.length = es.size := by simpa using hod.length_eq
  refine Yek hh st.1 st.2.1 hf st.2.2 (by simp [hl]) fun h' b' => ?_
  show 231
 self := fun _ _ _ _ st hQ => VV st.1 hQ
theorem VH {α : Type} : ∀ (n : Nat) (xs : List α) (s : Shared) (Q : List α -> Shared -> Prop), xs.length = n -> (∀ ys d, ys.Perm xs -> Q ys { s with drawn := d }) -> wpAny (model prog w) A (drawOrder n xs) Q E s
 | 0, xs, s, Q, hn, h => by
  have : xs = [] := ZCN.mp hn
  subst this
  unfold drawOrder
  exact ZAC (h [] s.drawn (.refl _))
 | n + 1, [], s, Q, hn, h => by cases hn
 | n + 1, x :: xs, s, Q, hn, h => by
  unfold drawOrder
  refine wpAny_bind (Yfc (by simp) fun i hi => ?_)
  rw [ZAT hi]
  show 145
  refine ZAA (VH n _ _ _ (by rw [ZCC hi]; omega) fun ys d hp => ZAC ?_)
  exact h _ d ((List.Perm.cons _ hp).trans (W8 hi))
end
section
structure Ypa (prog : Program) (w : World) (s : Shared) (S : Addr) (ks : List Str) (I : Addr) (s' : Shared) : Prop where
 old : ∀ b o, s.heap.get? b = some o -> s'.heap.get? b = some o
 new : s.heap.objs.size <= I
 gens : s'.gens = s.gens
 os : s'.os = s.os
 toks : s'.toks = s.toks
 ty : s'.TypeIs (.ref I) "set_iterator"
 wk : ∀ A' : Around, A'.handled = none -> ∃ (fp : List Addr) (items : List Value) (St : Nat -> Heap -> Prop), Walks prog w A' I fp [I] ks.length (fun i v => items[i]? = some v) St /\ St 0 s'.heap /\ (∀ b ∈ fp, b < s'.heap.objs.size) /\ (∀ b ∈ fp, b = S \/ s.heap.objs.size <= b) /\
  items.length = ks.length /\ ∃ ys, StrsAre items ys /\ ys.Perm ks
theorem Wr (T : TT1 prog w es t ks) {items : List Value} (hp : items.Perm (es.toList.map (·.2))) : items.length = ks.length /\ ∃ ys, StrsAre items ys /\ ys.Perm ks := by
 refine ⟨by rw [hp.length_eq, <- T.sz]; simp, items.map strOf, strsAre_map items fun v hv => ?_, ?_⟩
 ·have := hp.mem_iff.mp hv
  obtain ⟨e, he, rfl⟩ := ZAY.mp this
  obtain ⟨⟨k, hk, _⟩, _⟩ := T.el e he
  obtain ⟨tk, e'⟩ := ZBt hk
  exact ⟨k, tk, e'⟩
 ·refine (hp.map strOf).trans ?_
  rw [ZA3]
  exact T.pm
theorem Jv : (List.range es.size).filterMap (fun j => (es[j]?).map (·.2)) = es.toList.map (·.2) := by
 have e : (fun j => (es[j]?).map (·.2)) = fun j : Nat => ((fun j => es[j]?) j).map (fun p : Int × Value => p.2) := rfl
 rw [e, <- List.map_filterMap, filterMap_getElem?_range]
theorem YgU (T : TS prog w s.heap S ks) (hb : ks.length < scanBound) (h : ∀ I s', Ypa prog w s S ks I s' -> Q (.ref I) s') : wpAny (model prog w) A (pyIter (.ref S)) Q E s := by
 have hT := T.typeIs
 obtain ⟨es, ep, t, ho, T⟩ := T
 have hlt : S < s.heap.objs.size := ZAG ho
 refine wpAny_pyIter_slot hT F.slot_set_iter (ZAj F.slot_set_iter hT Ju ?_ (F.args_set_iter_1 _))
 unfold Builtin.«frozenset.__iter__» Builtin.Frozenset.slot0 slotArgs
 simp only [List.isEmpty_nil, Bool.not_true, Bool.false_eq_true, ↓reduceIte, List.length_nil, bne_self_eq_false]
 unfold Builtin.Frozenset.addrOf Builtin.Frozenset.sizeOf
 refine ZAA (ZAA (ZAC (ZAC ?_)))
 refine ZAA (ZAA (wpAny_setEntries_of ho rfl T.fit (ZAC ?_)))
 unfold setDrawn
 refine ZAA (ZAA (ZBT ho rfl T.fit ?_))
 show 145
 unfold setsByText
 refine ZAA (ZAA (ZBX (ZAC (ZAC ?_))))
 split
 ·rename_i z
  have z' : (!(byText w) && (!t.plain && decide (es.size > 1))) = true := z
  refine wpAny_bind (VH es.size _ _ _ (by simp) fun od d hp => ?_)
  have hz : od.length <= sizeLine := by
   have := hp.length_eq
   rw [ZA4] at this
   rw [this, T.sz]
   exact fits_of_scanBound hb
  refine wpAny_bind (wpAny_newTuple ?_ (by simpa using hz))
  refine ZAA (wpAny_setEpoch_of (ZAD _ ho) rfl T.fit ?_)
  refine ZAA (ZAu (ZAC ⟨_, rfl, "set_iterator", _, ⟨_, ZAH _ rfl, rfl⟩, slot_seti_next.lookup, h _ _ ?_⟩))
  refine ⟨fun b o e => ZAD _ (ZAD _ e), by rw [ZAf]; exact ZCT _, rfl, rfl, rfl, ⟨_, ZAH _ rfl, rfl⟩, fun A' hh => ?_⟩
  have hne : S ≠ (s.heap.push { cls := .type "tuple", dict := none, data := .seq (od.map fun (i : Nat) => rawInt i).toArray }).objs.size := by
   rw [ZAf]; exact ZAN (ZAv hlt)
  have hnT : s.heap.objs.size ≠ (s.heap.push { cls := .type "tuple", dict := none, data := .seq (od.map fun (i : Nat) => rawInt i).toArray }).objs.size := by
   rw [ZAf]; exact ZAN (ZAx _)
  have W := Yb7 (prog := prog) (w := w) (ep := ep) (n := 0) hh hne hnT T.fit hp
  rw [T.sz] at W
  refine ⟨_, _, _, W, ⟨?_, ?_, ?_⟩, ?_, ?_, Wr T ?_⟩
  ·refine (ZAH _ rfl).trans ?_
   simp [Ymk, rawInt, T.sz]
  ·exact ZAD _ (ZAD _ ho)
  ·exact ZAD _ (ZAH _ rfl)
  ·intro b hb
   rw [ZAf, ZAf]
   show 260
   rcases hb with rfl | rfl | rfl
   ·rw [ZAf]; exact ZAx _
   ·exact ZAv (ZAv hlt)
   ·exact ZAv (ZAx _)
  ·intro b hb
   show 260
   rcases hb with rfl | rfl | rfl
   ·rw [ZAf]; exact .inr (ZCT _)
   ·exact .inl rfl
   ·exact .inr (ZAI _)
  ·rw [<- Jv]
   exact hp.filterMap _
 ·rename_i z
  show 218
  refine ZAA (wpAny_setEpoch_of ho rfl T.fit ?_)
  refine ZAA (ZAu (ZAC ⟨_, rfl, "set_iterator", _, ⟨_, ZAH _ rfl, rfl⟩, slot_seti_next.lookup, h _ _ ?_⟩))
  refine ⟨fun b o e => ZAD _ e, ZAI _, rfl, rfl, rfl, ⟨_, ZAH _ rfl, rfl⟩, fun A' hh => ?_⟩
  have hne : S ≠ s.heap.objs.size := ZAN hlt
  have small : ∀ b ∈ [s.heap.objs.size, S], b < (s.heap.push { cls := .type "set_iterator", dict := none, data := .fields [rawInt 0, rawInt 0, .ref S, rawInt es.size, rawInt ep].toArray }).objs.size := by
   intro b hb
   rw [ZAf]
   show 260
   rcases hb with rfl | rfl
   ·exact ZAx _
   ·exact ZAv hlt
  have apart : ∀ b ∈ [s.heap.objs.size, S], b = S \/ s.heap.objs.size <= b := by
   intro b hb
   show 260
   rcases hb with rfl | rfl
   ·exact .inr (ZAI _)
   ·exact .inl rfl
  cases hbt : byText w with
  | true =>
   have W := YdA (prog := prog) (es := es) (ep := ep) hh hbt hne T.fit
   simp only [<- Array.getElem?_toList, Array.toList_map] at W
   rw [T.sz] at W
   refine ⟨_, _, _, W, ⟨?_, ZAD _ ho⟩, small, apart, Wr T ?_⟩
   ·refine (ZAH _ rfl).trans ?_
    simp [Ymk, rawInt, T.sz]
   ·exact (V3 _ es).map _
  | false =>
   have hl : t.led = true := by rw [T.led, hbt]; rfl
   have hz : es.size <= 1 := by
    rcases T.pl with h0 | h0
    ·omega
    ·have z' : ¬ (!(byText w) && (!t.plain && decide (es.size > 1))) = true := z
     rw [hbt, h0] at z'
     simp at z'
     omega
   have W := YeZ (prog := prog) (es := es) (ep := ep) hh hbt hne T.fit hl hz
   simp only [<- Array.getElem?_toList, Array.toList_map] at W
   rw [T.sz] at W
   refine ⟨_, _, _, W, ⟨?_, ZAD _ ho⟩, small, apart, Wr T (.refl _)⟩
   refine (ZAH _ rfl).trans ?_
   simp [Ymk, rawInt, T.sz]
end
section
theorem YfV {r : Addr} {Q : Bool -> Shared -> Prop} (hT : s.TypeIs (.ref r) "set") (h : Q false s) : wpAny (model prog w) A (Builtin.List.listLengthHint (.ref r)) Q E s := by
 unfold Builtin.List.listLengthHint
 refine ZAA (ZCP hT F.slot_set_len.lookup ?_)
 generalize hid : ("set.__len__" : String) = id0
 wp_delta
 rw [show splitId id0 = some ("set", "__len__") from by subst hid; decide +kernel]
 subst hid
 refine ZAA (ZBp (T := "set") (b := true) hT (by rw [isSubtype_type]; kernel_rfl) ?_)
 refine ZCQ (fun hab => absurd hab (by decide)) (fun _ => ?_)
 refine ZCQ (fun _ => ?_) (fun hab => absurd (by decide +kernel) hab)
 refine ZAA (ZBW hT ?_)
 exact ZAC h
theorem Yc3 {items : List Value} {acc : Array Value} (h : ItemsOf (fun i v => items[i]? = some v) acc items.length) : acc.toList = items := by
 refine List.ext_getElem? fun i => ?_
 by_cases hi : i < acc.size
 ·have e : acc[i]? = some acc[i] := by simp [hi]
  rw [ZBP, e, h.2 i _ e]
 ·rw [ZBP, ZBe (by omega), ZA1 (by have := h.1; omega)]
theorem YcX {R : Result -> Shared -> Prop} (T : TS prog w s.heap S ks) (hb : ks.length < scanBound) (hh : A.handled = none) (L : Addr) (hLS : L ≠ S) (res : Value)
 (hL : s.heap.get? L = some { cls := .type "list", data := .seq #[] })
 (hR : ∀ (s' : Shared) (acc : Array Value) (c : Nat) (ys : List Str), (∀ b o, b ≠ L -> s.heap.get? b = some o -> s'.heap.get? b = some o) -> s'.gens = s.gens -> s'.os = s.os ->
  s'.heap.get? L = some { cls := .type "list", dict := none, data := .seq acc c, slots := #[] } -> StrsAre acc.toList ys -> ys.Perm ks -> R (.ok (.ret res)) s') :
 wpAny (model prog w) A.in1 (Builtin.List.listExtendWith (.ref L) (.ref S) res)
  (fun fin s' => match fin with | .done f => R (.ok f) s' | .again c' => c'.quiet = true /\ codeAny (model prog w) A c' R s') (fun e s' => R (.error e) s') s := by
 have hT := T.typeIs
 unfold Builtin.List.listExtendWith
 refine ZAA (ZBW (T := "set") hT ?_)
 have h1 : Builtin.List.listSameRef (.ref L) (.ref S) = false := by simp [Builtin.List.listSameRef, hLS]
 have h2 : (Value.type "set" == Value.type "list") = false := by decide
 have h3 : (Value.type "set" == Value.type "tuple") = false := by decide
 simp only [h1, h2, h3, Bool.or_false, Bool.false_eq_true, if_false]
 refine ZAA (YgU T hb fun I s1 X => ?_)
 obtain ⟨fp, items, St, W, st, small, apart, hlen, ys, hys, hp⟩ := X.wk A.in1 hh
 have hLf : L ∉ fp := fun z => by
  rcases apart L z with e | e
  ·exact hLS e
  ·exact absurd (ZAG hL) (ZCZ.mpr e)
 have hn : ks.length <= sizeLine := fits_of_scanBound hb
 have hL1 := X.old _ _ hL
 have hLI : L ≠ I := fun z => absurd (ZAG hL) (ZCZ.mpr (by rw [z]; exact X.new))
 have key : ∀ (h : Heap) (c₁ : Nat), St 0 h -> (∀ b o, b ≠ L -> s.heap.get? b = some o -> h.get? b = some o) -> h.get? L = some { cls := .type "list", data := .seq #[] c₁ } ->
  codeAny (model prog w) A (.builtin "list.extend.loop" ⟨[.ref L, .ref I, res], []⟩) R { s1 with heap := h } := by
  intro h c₁ hst hk hS₁
  refine codeAny_extend_loopS W.toS hn L hLf res ks.length 0 _ #[] c₁ rfl (ZBN _) hst hS₁ (ItemsOf.nil _) fun s' acc' c' hm hS' hacc => ?_
  rw [<- hlen] at hacc
  have e := Yc3 hacc
  refine hR s' acc' c' ys (fun b o hb' e' => ?_) ?_ ?_ hS' (by rw [e]; exact hys) hp
  ·refine hm.heap b o (fun hmem => ?_) (hk b o hb' e')
   rcases ZAc.mp hmem with e'' | hmem
   ·exact hb' e''
   ·rw [ZAd.mp hmem] at e'
    exact absurd (ZAG e') (ZCZ.mpr X.new)
  ·have := hm.gens; exact this.trans X.gens
  ·exact hm.os.trans X.os
 refine ZAA (ZAi (YfV (T.keep (X.old S)).typeIs ?_))
 refine ZCQ (fun _ => ?_) (fun _ => ZAC ⟨plainId_quiet PySem.F.plain_extend_loop _, key s1.heap 0 st (fun b o _ e => X.old b o e) hL1⟩)
 refine ZAA (ZBn ?_)
 show 156
 show wpAny _ _ (updateSeq L (·.push .none) >>= fun _ => updateSeq L (·.pop)) _ _ _
 refine ZAA (wpAny_updateSeq hL1 rfl ?_)
 have hS₂ := ZBF (Obj.mapSeq (·.push Value.none)) hL1 rfl
 refine wpAny_updateSeq (hz := by seq_fits) hS₂ rfl ?_
 have hS₃ := ZBF (Obj.mapSeq (·.pop)) hS₂ rfl
 refine ZAC ⟨plainId_quiet PySem.F.plain_extend_loop _, key _ _ ?_ (fun b o hb e => ?_) hS₃⟩
 ·refine W.frame 0 _ _ st fun b hb o e => ?_
  have hbS : b ≠ L := fun h => hLf (h ▸ hb)
  exact (ZAq _ _ (ZAs hbS)).trans ((ZAq _ _ (ZAs hbS)).trans e)
 ·exact (ZAq _ _ (ZAs hb)).trans ((ZAq _ _ (ZAs hb)).trans (X.old b o e))
theorem YcH {R : List Value -> Shared -> Prop} (T : TS prog w s.heap S ks) (hb : ks.length < scanBound) (hh : A.handled = none)
 (h : ∀ (s' : Shared) (acc : List Value) (ys : List Str), (∀ b o, s.heap.get? b = some o -> s'.heap.get? b = some o) -> s'.gens = s.gens -> s'.os = s.os -> s.heap.objs.size < s'.heap.objs.size -> StrsAre acc ys -> ys.Perm ks -> R acc s') :
 wpAny (model prog w) A (collect (.ref S)) R E s := by
 have hlt : S < s.heap.objs.size := let ⟨_, _, _, ho, _⟩ := T; ZAG ho
 unfold collect
 refine ZAA (ZB9 (codeAny_builtin entry_proto_collect' ?_))
 rw [Around.under_plainId PySem.F.plain_proto_collect _]
 show wpAny _ A.in1 (newList [] >>= fun l => again (.builtin "list.__iadd__" ⟨[l, .ref S], []⟩)) _ _ s
 refine ZAA (ZAu ?_)
 refine ZAC ⟨plainId_quiet PySem.F.plain_list_iadd _, codeAny_builtin entry_list_iadd' ?_⟩
 rw [Around.under_plainId PySem.F.plain_list_iadd _]
 have hS₁ : (s.heap.push { cls := .type "list", data := .seq ([] : List Value).toArray }).get? s.heap.objs.size = some { cls := .type "list", data := .seq #[] } := ZAH _ rfl
 show wpAny _ A.in1 (Builtin.List.listExtendWith (.ref s.heap.objs.size) (.ref S) (.ref s.heap.objs.size)) _ _ _
 have key := YcX (A := A) (s := { s with heap := s.heap.push { cls := .type "list", data := .seq ([] : List Value).toArray } })
  (R := fun (q : Result) (s' : Shared) => ∃ (acc : Array Value) (c : Nat) (ys : List Str), q = .ok (.ret (.ref s.heap.objs.size)) /\
   (∀ b o, s.heap.get? b = some o -> s'.heap.get? b = some o) /\ s'.gens = s.gens /\ s'.os = s.os /\ s'.heap.get? s.heap.objs.size = some { cls := .type "list", dict := none, data := .seq acc c, slots := #[] } /\ StrsAre acc.toList ys /\ ys.Perm ks)
  (T.keep fun o e => ZAD _ e) hb hh s.heap.objs.size (ZA6 hlt) (.ref s.heap.objs.size) hS₁
  (fun s' acc c ys hk hg ho hS' hacc hp => ⟨acc, c, ys, rfl, fun b o e => hk b o (ZAN (ZAG e)) (ZAD _ e), hg, ho, hS', hacc, hp⟩)
 refine ZA8 key (fun fin s' x => ?_) fun e s' x => ?_
 ·cases fin with
  | done f =>
   obtain ⟨acc, c, ys, e, hk, hg, ho, hS', hacc, hp⟩ := x
   cases e
   show wpAny _ A (load s.heap.objs.size >>= _) _ _ _
   refine ZAA (ZCG hS' ?_)
   exact ZAC (h s' acc.toList ys hk hg ho (ZAG hS') hacc hp)
  | again c₁ =>
   refine ⟨x.1, codeAny_mono x.2 fun q s₂ y => ?_⟩
   obtain ⟨acc, c, ys, rfl, hk, hg, ho, hS', hacc, hp⟩ := y
   show wpAny _ A (load s.heap.objs.size >>= _) _ _ _
   refine ZAA (ZCG hS' ?_)
   exact ZAC (h s₂ acc.toList ys hk hg ho (ZAG hS') hacc hp)
 ·obtain ⟨_, _, _, e', _⟩ := x
  cases e'
theorem Jt (T : TS prog w s.heap S ks) (hb : ks.length < 64) (hh : A.handled = none)
 (h : ∀ (D : Addr) (s' : Shared) (out : List Value) (ss : List Str) (n : Nat), s.heap.objs.size <= D -> (∀ b o, s.heap.get? b = some o -> s'.heap.get? b = some o) -> s'.gens = s.gens -> s'.os = s.os ->
  s'.heap.get? D = some { cls := .type "list", data := .seq out.toArray n } -> StrsAre out ss -> ss.Perm ks -> sortedS ss = true -> Q (.ref D) s') :
 wpAny (model prog w) A (call (.builtin "sorted") [.ref S]) Q E s := by
 refine Calls.call_function_entry kind_sorted plain_sorted entry_sorted (args_sorted1 _) ?_
 unfold Builtin.«sorted»
 refine ZAA (m := checkCount "sorted" 1 1 _) (ZAC ?_)
 refine ZAA (YcH (A := A.in1) T (Nat.lt_trans hb (by decide)) hh fun s1 acc ys hk hg ho hsz0 hacc hp => ?_)
 have hl : acc.length = ks.length := by have := StrsAre.length hacc; rw [this, hp.length_eq]
 refine ZAA (wpAny_newList ?_ (by rw [hl]; exact ZAV (ZBV hb) (by rw [sizeLine_eq]; decide)))
 have hoL : (s1.heap.push (seqObj "list" acc.toArray 0)).get? s1.heap.objs.size = some (seqObj "list" acc.toArray 0) := ZAH _ rfl
 refine ZAA (ZAi (ZAj (s := { s1 with heap := s1.heap.push (seqObj "list" acc.toArray 0) }) slot_list_sort ⟨_, hoL, rfl⟩ entry_list_sort
  (list_sort_treeK strKind_oneLt hoL hacc.keysOf (fun v₁ v₂ rest e => keyKind_strs (by rw [<- e]; exact hacc)) (by rw [hl]; exact hb) fun st' a1 a2 => ⟨_, rfl, ?_⟩) (args_list_sort _)))
 obtain ⟨ss, g1, g2, g3⟩ := sorted_out_str hacc a1 a2
 have hsz : s.heap.objs.size <= s1.heap.objs.size := ZBV hsz0
 obtain ⟨n, hD⟩ : ∃ n, (sortedHeap (s1.heap.push (seqObj "list" acc.toArray 0)) s1.heap.objs.size acc ((arrOf st').map (·.2))).get? s1.heap.objs.size = some (seqObj "list" ((arrOf st').map (·.2)) n) := by
  have g0 := ZAD (seqObj "list" #[] 0) (ZAD (seqObj "tuple" acc.toArray 0) (get?_update_seq hoL fun _ => #[]))
  exact ⟨_, get?_update_seq g0 _⟩
 have hOld : ∀ b o, s.heap.get? b = some o -> (sortedHeap (s1.heap.push (seqObj "list" acc.toArray 0)) s1.heap.objs.size acc ((arrOf st').map (·.2))).get? b = some o := fun b o e => by
  have hb' : b ≠ s1.heap.objs.size := ZAN (ZAG (hk b o e))
  unfold sortedHeap
  rw [ZAq _ _ (ZAs hb')]
  refine ZAD _ (ZAD _ ?_)
  rw [ZAq _ _ (ZAs hb')]
  exact ZAD _ (hk b o e)
 generalize sortedHeap (s1.heap.push (seqObj "list" acc.toArray 0)) s1.heap.objs.size acc ((arrOf st').map (·.2)) = hp' at hD hOld ⊢
 have hD' : hp'.get? s1.heap.objs.size = some { cls := .type "list", data := .seq ((arrOf st').map (·.2)).toList.toArray n } := by rw [Array.toArray_toList]; exact hD
 exact ZAC ⟨_, rfl, h s1.heap.objs.size _ ((arrOf st').map (·.2)).toList ss n hsz hOld hg ho hD' g1 (g2.trans hp) g3⟩
end
def leS (a b : Str) : Bool := !Ym9 b a
def YmQ (ks : List Str) : List Str := ks.mergeSort leS
theorem Yh4 {a b : Str} (h : a.cps.toList = b.cps.toList) : a = b := by
 cases a with | mk a => cases b with | mk b => exact ZBI Str.mk (Array.toList_inj.mp h)
theorem Jz {a b : Str} : leS a b = true ↔ a.cps.toList <= b.cps.toList := by
 unfold leS Ym9
 simp [List.not_lt]
theorem Ybd (a b c : Str) (h1 : leS a b = true) (h2 : leS b c = true) : leS a c = true := by
 rw [Jz] at *
 exact List.le_trans h1 h2
theorem Yfe (a b : Str) : (leS a b || leS b a) = true := by
 rw [Bool.or_eq_true, Jz, Jz]
 exact List.le_total _ _
theorem YfC {a b : Str} (h1 : leS a b = true) (h2 : leS b a = true) : a = b := by
 rw [Jz] at *
 exact Yh4 (List.le_antisymm h1 h2)
theorem YcP (ks : List Str) : (YmQ ks).Perm ks := List.mergeSort_perm ks leS
theorem J1 (ks : List Str) : (YmQ ks).Pairwise fun a b => leS a b = true := List.pairwise_mergeSort Ybd Yfe ks
theorem Vz {ss : List Str} (hp : ss.Perm ks) (h : ss.Pairwise fun a b => leS a b = true) : ss = YmQ ks :=
 List.Perm.eq_of_pairwise (fun a b _ _ h1 h2 => YfC h1 h2) h (J1 ks) (hp.trans (YcP ks).symm)
theorem Z9 : ∀ (p : Str) (l : List Str), risingS p l = true -> (p :: l).Pairwise fun a b => leS a b = true
 | p, [], _ => List.pairwise_singleton ..
 | p, x :: r, h => by
  unfold risingS at h
  rw [ZAk] at h
  have ih := Z9 x r h.2
  have h1 : leS p x = true := by
   have := h.1
   rw [ltCps_eq] at this
   exact this
  refine List.Pairwise.cons (fun y hy => ?_) ih
  rcases ZAc.mp hy with rfl | hy
  ·exact h1
  ·exact Ybd _ _ _ h1 (List.rel_of_pairwise_cons ih hy)
theorem V9 : ∀ (l : List Str), sortedS l = true -> l.Pairwise fun a b => leS a b = true
 | [], _ => .nil
 | x :: r, h => Z9 x r h
theorem Ybe : ∀ {us : List Value} {ss : List Str}, StrsAre us ss -> Vals (ss.map V.str) us
 | _, _, .nil => .nil
 | _, _, .cons x t h => .cons ⟨t, rfl⟩ (Ybe h)
theorem VS {K : Frag} {as : List Addr} {H : Hp} : ∀ (ss : List Str), Dens K as H (ss.map V.str) (ss.map P.str)
 | [] => .nil
 | _ :: r => .cons .str (VS r)
section
variable {p1 p2 c1 c2 : Pos}
end
end Mi
namespace Mi
open PySem PySem.Spec L2 PySem.SeqAt
open PyProof.Rows hiding St
def noD : Nat -> PyData -> Bool
 | _, .none => true
 | _, .bool _ => true
 | _, .int _ => true
 | _, .str _ => true
 | n + 1, .list xs => xs.all (noD n)
 | n + 1, .tuple xs => xs.all (noD n)
 | _, _ => false
theorem Zp {h : Heap} : ∀ {vs : List Value} {xs : List PyData} {as : List Addr}, ReadsAll h vs xs as -> ∀ j (h1 : j < vs.length), ∃ (h2 : j < xs.length) (bs : List Addr), Reads h vs[j] xs[j] bs
 | _, _, _, .nil, j, h1 => absurd h1 (Nat.not_lt_zero _)
 | _, _, _, .cons r _, 0, _ => ⟨Nat.succ_pos _, _, r⟩
 | _, _, _, .cons _ rs, j + 1, h1 => by
  obtain ⟨h2, bs, q⟩ := Zp rs j (Nat.lt_of_succ_lt_succ h1)
  exact ⟨Nat.succ_lt_succ h2, bs, q⟩
theorem YG {h : Heap} : ∀ {vs : List Value} {xs : List PyData} {as : List Addr}, ReadsAll h vs xs as -> vs.length = xs.length
 | _, _, _, .nil => rfl
 | _, _, _, .cons _ rs => ZBI Nat.succ (YG rs)
theorem Ye5 {h : Heap} : ∀ (n : Nat) {v : Value} {d e : PyData} {as bs : List Addr}, noD n d = true -> Reads h v d as -> Reads h v e bs -> d = e := by
 intro n
 induction n with
 | zero =>
  intro v d e as bs hd r q
  cases r <;> first | (cases q; rfl) | exact absurd hd (by simp [noD])
 | succ n ih =>
  have all : ∀ {vs : List Value} {xs ys : List PyData} {as bs : List Addr}, xs.all (noD n) = true -> ReadsAll h vs xs as -> ReadsAll h vs ys bs -> xs = ys := by
   intro vs xs ys as bs ha rx ry
   have l1 := YG rx
   have l2 := YG ry
   refine ZCL (l1.symm.trans l2) fun j j1 j2 => ?_
   obtain ⟨_, _, a⟩ := Zp rx j (by omega)
   obtain ⟨_, _, b⟩ := Zp ry j (by omega)
   exact ih (ZA7.mp ha _ (ZAb j1)) a b
  intro v d e as bs hd r q
  cases r with
  | none => cases q; rfl
  | bool b => cases q; rfl
  | int i t => cases q; rfl
  | str x t => cases q; rfl
  | list h1 h2 h3 h4 =>
   cases q with
   | list k1 k2 k3 k4 => rw [h1] at k1; cases k1; rw [h3] at k3; cases k3; rw [all hd h4 k4]
   | tuple k1 k2 k3 k4 => show 247
   | dict k1 k2 k3 k4 k5 => show 247
  | tuple h1 h2 h3 h4 =>
   cases q with
   | tuple k1 k2 k3 k4 => rw [h1] at k1; cases k1; rw [h3] at k3; cases k3; rw [all hd h4 k4]
   | list k1 k2 k3 k4 => show 247
   | dict k1 k2 k3 k4 k5 => show 247
  | dict => exact absurd hd (by simp [noD])
theorem Yap {xs : List PyData} (h : ∀ x ∈ xs, PyData.eqv x x = true) : PyData.eqvAll xs xs = true := by
 induction xs with
 | nil => rfl
 | cons x r ih => rw [PyData.eqvAll, h x (ZAM ..), ih fun y hy => h y (ZAQ _ hy)]; rfl
theorem YgJ : ∀ (n : Nat) {d : PyData}, noD n d = true -> PyData.eqv d d = true := by
 intro n
 induction n with
 | zero => intro d hd; cases d <;> first | (simp [PyData.eqv]; done) | exact absurd hd (by simp [noD])
 | succ n ih =>
  intro d hd
  cases d with
  | list xs => rw [PyData.eqv]; exact Yap fun x hx => ih (ZA7.mp hd x hx)
  | tuple xs => rw [PyData.eqv]; exact Yap fun x hx => ih (ZA7.mp hd x hx)
  | dict _ => exact absurd hd (by simp [noD])
  | _ => simp [PyData.eqv]
inductive Sh (h : Heap) : Value -> PyData -> Prop where
 | none : Sh h .none .none
 | bool (b) : Sh h (.bool b) (.bool b)
 | int (i t) : Sh h (.int i t) (.int i)
 | str (x t) : Sh h (.str x t) (.str x)
 | list {a its xs as} : h.IsList a its -> ReadsAll h its.toList xs as -> Sh h (.ref a) (.list xs)
 | tup {a its xs as} : h.IsTuple a its -> ReadsAll h its.toList xs as -> Sh h (.ref a) (.tuple xs)
theorem YdI {h : Heap} {n : Nat} {v : Value} {d : PyData} {as : List Addr} (r : Reads h v d as) (hd : noD n d = true) : Sh h v d := by
 cases r with
 | none => exact .none
 | bool b => exact .bool b
 | int i t => exact .int i t
 | str x t => exact .str x t
 | list h1 h2 h3 h4 => exact .list ⟨_, h1, h2, _, h3⟩ h4
 | tuple h1 h2 h3 h4 => exact .tup ⟨_, h1, h2, _, h3⟩ h4
 | dict => cases n <;> exact absurd hd (by simp [noD])
theorem Yb3 {A : Around} {s : Shared} {v u : Value} {d e : PyData} (hu : A.units < cLine) (a : Sh s.heap v d) (b : Sh s.heap u e)
 (sub : ∀ {its its' : Array Value} {xs ys : List PyData} {as bs : List Addr}, (d = .list xs /\ e = .list ys) \/ (d = .tuple xs /\ e = .tuple ys) -> ReadsAll s.heap its.toList xs as -> ReadsAll s.heap its'.toList ys bs ->
  ∀ j (h1 : j < its.size) (h2 : j < its'.size), EqAt A.in1 s its[j] its'[j] (pairEq xs ys j)) : RcAt A s v u (PyData.eqv d e) /\ RcNeAt A s v u (!PyData.eqv d e) := by
 cases a with
 | none =>
  cases b with
  | none => exact ⟨.none_none, .none_none⟩
  | bool y => exact ⟨.none_bool y, .none_bool y⟩
  | int y t => exact ⟨.none_int y t, .none_int y t⟩
  | str y t => exact ⟨.none_str y t, .none_str y t⟩
  | list k _ => exact ⟨.none_list k hu, .none_list k hu⟩
  | tup k _ => exact ⟨.none_tuple k hu, .none_tuple k hu⟩
 | bool x =>
  cases b with
  | none => exact ⟨.bool_none x, .bool_none x⟩
  | bool y => exact ⟨.bool_bool x y, .bool_bool x y⟩
  | int y t => exact ⟨.bool_int x y t, .bool_int x y t⟩
  | str y t => exact ⟨.bool_str x y t, .bool_str x y t⟩
  | list k _ => exact ⟨.bool_list x k hu, .bool_list x k hu⟩
  | tup k _ => exact ⟨.bool_tuple x k hu, .bool_tuple x k hu⟩
 | int x t =>
  cases b with
  | none => exact ⟨.int_none x t, .int_none x t⟩
  | bool y => exact ⟨.int_bool x t y, .int_bool x t y⟩
  | int y t' => exact ⟨.int_int x t y t', .int_int x t y t'⟩
  | str y t' => exact ⟨.int_str x t y t', .int_str x t y t'⟩
  | list k _ => exact ⟨.int_list x t k hu, .int_list x t k hu⟩
  | tup k _ => exact ⟨.int_tuple x t k hu, .int_tuple x t k hu⟩
 | str x t =>
  cases b with
  | none => exact ⟨.str_none x t, .str_none x t⟩
  | bool y => exact ⟨.str_bool x t y, .str_bool x t y⟩
  | int y t' => exact ⟨.str_int x t y t', .str_int x t y t'⟩
  | str y t' => exact ⟨.str_str x t y t', .str_str x t y t'⟩
  | list k _ => exact ⟨.str_list x t k hu, .str_list x t k hu⟩
  | tup k _ => exact ⟨.str_tuple x t k hu, .str_tuple x t k hu⟩
 | @list l its xs as h1 h2 =>
  cases b with
  | none => exact ⟨.list_none h1 hu, .list_none h1 hu⟩
  | bool y => exact ⟨.list_bool y h1 hu, .list_bool y h1 hu⟩
  | int y t' => exact ⟨.list_int y t' h1 hu, .list_int y t' h1 hu⟩
  | str y t' => exact ⟨.list_str y t' h1 hu, .list_str y t' h1 hu⟩
  | tup k _ => exact ⟨.list_tuple h1 k hu, .list_tuple h1 k hu⟩
  | @list l' its' ys bs k1 k2 =>
   have n1 : its.size = xs.length := by simpa using YG h2
   have n2 : its'.size = ys.length := by simpa using YG k2
   have he := sub (.inl ⟨rfl, rfl⟩) h2 k2
   rw [PyData.eqv]
   by_cases hz : its.size = its'.size
   ·rw [<- eqvAll_same_length (by omega : xs.length = ys.length), <- n1]
    exact ⟨.lists h1 k1 hz hu he, .lists h1 k1 hz hu he⟩
   ·rw [eqvAll_other_length (by omega : xs.length ≠ ys.length)]
    exact ⟨.lists_lengths h1 k1 (by simpa using hz) hu, .lists_lengths h1 k1 (by simpa using hz) hu⟩
 | @tup l its xs as h1 h2 =>
  cases b with
  | none => exact ⟨.tuple_none h1 hu, .tuple_none h1 hu⟩
  | bool y => exact ⟨.tuple_bool y h1 hu, .tuple_bool y h1 hu⟩
  | int y t' => exact ⟨.tuple_int y t' h1 hu, .tuple_int y t' h1 hu⟩
  | str y t' => exact ⟨.tuple_str y t' h1 hu, .tuple_str y t' h1 hu⟩
  | list k _ => exact ⟨.tuple_list h1 k hu, .tuple_list h1 k hu⟩
  | @tup l' its' ys bs k1 k2 =>
   have n1 : its.size = xs.length := by simpa using YG h2
   have n2 : its'.size = ys.length := by simpa using YG k2
   have he := sub (.inr ⟨rfl, rfl⟩) h2 k2
   rw [PyData.eqv, <- eqvAll_eq xs ys, <- n1, <- n2]
   exact ⟨.tuples h1 k1 hu he, .tuples h1 k1 hu he⟩
theorem YdT {A : Around} {s : Shared} {v u : Value} {d e : PyData} (hu : A.units < cLine) (a : Sh s.heap v d) (b : Sh s.heap u e) (hs : ∀ x y, v = .ref x -> u = .ref y -> EqAt A s v u (PyData.eqv d e)) : EqAt A s v u (PyData.eqv d e) := by
 cases a with
 | none =>
  cases b with
  | none => exact .same _
  | bool y => exact .none_bool y
  | int y t => exact .none_int y t
  | str y t => exact .none_str y t
  | list k _ => exact .none_list k hu
  | tup k _ => exact .none_tuple k hu
 | bool x =>
  cases b with
  | none => exact .bool_none x
  | bool y => exact .bool_bool x y
  | int y t => exact .bool_int x y t
  | str y t => exact .bool_str x y t
  | list k _ => exact .bool_list x k hu
  | tup k _ => exact .bool_tuple x k hu
 | int x t =>
  cases b with
  | none => exact .int_none x t
  | bool y => exact .int_bool x t y
  | int y t' => exact .int_int x t y t'
  | str y t' => exact .int_str x t y t'
  | list k _ => exact .int_list x t k hu
  | tup k _ => exact .int_tuple x t k hu
 | str x t =>
  cases b with
  | none => exact .str_none x t
  | bool y => exact .str_bool x t y
  | int y t' => exact .str_int x t y t'
  | str y t' => exact .str_str x t y t'
  | list k _ => exact .str_list x t k hu
  | tup k _ => exact .str_tuple x t k hu
 | list h1 _ =>
  cases b with
  | none => exact .list_none h1 hu
  | bool y => exact .list_bool y h1 hu
  | int y t' => exact .list_int y t' h1 hu
  | str y t' => exact .list_str y t' h1 hu
  | list _ _ => exact hs _ _ rfl rfl
  | tup _ _ => exact hs _ _ rfl rfl
 | tup h1 _ =>
  cases b with
  | none => exact .tuple_none h1 hu
  | bool y => exact .tuple_bool y h1 hu
  | int y t' => exact .tuple_int y t' h1 hu
  | str y t' => exact .tuple_str y t' h1 hu
  | list _ _ => exact hs _ _ rfl rfl
  | tup _ _ => exact hs _ _ rfl rfl
theorem YdO : ∀ (n : Nat) {d e : PyData} {A : Around} {s : Shared} {v u : Value} {as bs : List Addr}, Reads s.heap v d as -> Reads s.heap u e bs -> noD n d = true -> noD n e = true -> A.units + n < cLine ->
 EqAt A s v u (PyData.eqv d e) /\ RcAt A s v u (PyData.eqv d e) /\ RcNeAt A s v u (!PyData.eqv d e) := by
 intro n
 induction n with
 | zero =>
  intro d e A s v u as bs r q hd he hu
  have a := YdI r hd
  have b := YdI q he
  have rc := Yb3 (A := A) (by omega) a b fun {its its' xs ys as bs} h => by rcases h with ⟨rfl, _⟩ | ⟨rfl, _⟩ <;> exact absurd hd (by simp [noD])
  exact ⟨YdT (by omega) a b fun x y e1 e2 => by subst e1; cases a <;> exact absurd hd (by simp [noD]), rc.1, rc.2⟩
 | succ n ih =>
  intro d e A s v u as bs r q hd he hu
  have a := YdI r hd
  have b := YdI q he
  have rc := Yb3 (A := A) (by omega) a b fun {its its' xs ys as bs} h rx ry j h1 h2 => by
   obtain ⟨l1, as', ra⟩ := Zp rx j (by simpa using h1)
   obtain ⟨l2, bs', rb⟩ := Zp ry j (by simpa using h2)
   have hx : noD n xs[j] = true := by
    rcases h with ⟨rfl, _⟩ | ⟨rfl, _⟩ <;> exact ZA7.mp hd _ (ZAb l1)
   have hy : noD n ys[j] = true := by
    rcases h with ⟨_, rfl⟩ | ⟨_, rfl⟩ <;> exact ZA7.mp he _ (ZAb l2)
   have := (ih (A := A.in1) ra rb hx hy (by show A.units + 1 + n < cLine; omega)).1
   unfold pairEq
   rw [ZBs, ZBs, ZAT l1, ZAT l2]
   show 195
  refine ⟨YdT (by omega) a b fun x y e1 e2 => ?_, rc.1, rc.2⟩
  subst e1; subst e2
  by_cases hxy : x = y
  ·subst hxy
   have := Ye5 (n + 1) hd r q
   subst this
   rw [YgJ (n + 1) hd]
   exact .same _
  ·exact .of_refs hxy rc.1
def snap : Nat -> Ylo -> P -> Option PyData
 | _, _, .non => some .none
 | _, _, .bl b => some (.bool b)
 | _, _, .int i => some (.int i)
 | _, _, .str x => some (.str x)
 | n + 1, st, .tup xs => (xs.mapM (snap n st)).map .tuple
 | n + 1, st, .ref k => match listAt st k with
  | some xs => (xs.mapM (snap n st)).map .list
  | none => none
 | 0, _, .tup _ => none
 | 0, _, .ref _ => none
theorem WM {α β : Type} {f : α -> Option β} {x : α} {xs : List α} {ys : List β} (h : (x :: xs).mapM f = some ys) : ∃ y r, f x = some y /\ xs.mapM f = some r /\ ys = y :: r := by
 rw [List.mapM_cons] at h
 cases q : f x with
 | none => show 171
 | some y =>
  rw [q] at h
  cases q2 : xs.mapM f with
  | none => rw [q2] at h; cases h
  | some r => rw [q2] at h; cases h; exact ⟨y, r, rfl, rfl, rfl⟩
theorem Yae {α β : Type} {f : α -> Option β} {p : β -> Bool} (hf : ∀ x y, f x = some y -> p y = true) : ∀ {xs : List α} {ys : List β}, xs.mapM f = some ys -> ys.all p = true
 | [], ys, h => by rw [List.mapM_nil] at h; cases h; rfl
 | x :: xs, ys, h => by
  obtain ⟨y, r, h1, h2, rfl⟩ := WM h
  rw [ZBL, hf x y h1, Yae hf h2]
  rfl
theorem Vt {st : Ylo} : ∀ {n : Nat} {p : P} {d : PyData}, snap n st p = some d -> noD n d = true := by
 intro n
 induction n with
 | zero => intro p d h; cases p <;> first | (unfold snap at h; cases h; rfl) | (unfold snap at h; cases h)
 | succ n ih =>
  intro p d h
  cases p with
  | tup xs =>
   unfold snap at h
   cases q : xs.mapM (snap n st) with
   | none => show 171
   | some ds => rw [q] at h; cases h; exact Yae (fun x y e => ih e) q
  | ref k =>
   unfold snap at h
   cases q0 : listAt st k with
   | none => rw [q0] at h; cases h
   | some xs =>
    rw [q0] at h
    dsimp only at h
    cases q : xs.mapM (snap n st) with
    | none => show 171
    | some ds => rw [q] at h; cases h; exact Yae (fun x y e => ih e) q
  | _ => unfold snap at h; cases h; rfl
section
variable {X : Cx} {pins : LAO} {σ : St} {H : Hp} {s : Shared} {as : List Addr} {st : Ylo}
theorem Wk (I : Inv X pins σ H s) (rp : Rep X.K as st H) : ∀ {n : Nat} {p : P} {d : PyData} {x : V} {v : Value}, snap n st p = some d -> Den X.K as H x p -> RelV x v -> ∃ bs, Reads s.heap v d bs := by
 have all : ∀ {n : Nat}, (∀ {p : P} {d : PyData} {x : V} {v : Value}, snap n st p = some d -> Den X.K as H x p -> RelV x v -> ∃ bs, Reads s.heap v d bs) ->
  ∀ {ps : List P} {ds : List PyData} {xs : List V} {vs : List Value}, ps.mapM (snap n st) = some ds -> Dens X.K as H xs ps -> Vals xs vs -> ∃ bs, ReadsAll s.heap vs ds bs := by
  intro n one ps
  induction ps with
  | nil => intro ds xs vs h d r; rw [List.mapM_nil] at h; cases h; cases d; cases r; exact ⟨_, .nil⟩
  | cons p ps ih =>
   intro ds xs vs h d r
   obtain ⟨y, rs, h1, h2, rfl⟩ := WM h
   cases d with
   | cons d1 d2 =>
    cases r with
    | cons r1 r2 =>
     obtain ⟨b1, q1⟩ := one h1 d1 r1
     obtain ⟨b2, q2⟩ := ih h2 d2 r2
     exact ⟨_, .cons q1 q2⟩
 intro n
 induction n with
 | zero =>
  intro p d x v h den r
  cases den with
  | non => unfold snap at h; cases h; cases r; exact ⟨_, .none⟩
  | bl => unfold snap at h; cases h; cases r; exact ⟨_, .bool _⟩
  | int => unfold snap at h; cases h; obtain ⟨t, rfl⟩ := r; exact ⟨_, .int _ t⟩
  | str => unfold snap at h; cases h; obtain ⟨t, rfl⟩ := r; exact ⟨_, .str _ t⟩
  | _ => unfold snap at h; cases h
 | succ n ih =>
  intro p d x v h den r
  cases den with
  | non => unfold snap at h; cases h; cases r; exact ⟨_, .none⟩
  | bl => unfold snap at h; cases h; cases r; exact ⟨_, .bool _⟩
  | int => unfold snap at h; cases h; obtain ⟨t, rfl⟩ := r; exact ⟨_, .int _ t⟩
  | str => unfold snap at h; cases h; obtain ⟨t, rfl⟩ := r; exact ⟨_, .str _ t⟩
  | @tup a vs ps e q =>
   unfold snap at h
   cases z : ps.mapM (snap n st) with
   | none => show 207
   | some ds =>
    show 207
    cases r
    obtain ⟨its, r1, ⟨o, ho, hc, m, hd⟩, _⟩ := I.tuple e
    obtain ⟨bs, q'⟩ := all ih z q r1
    exact ⟨_, .tuple ho hc hd (by simpa using q')⟩
  | @ref k a e =>
   unfold snap at h
   cases q0 : listAt st k with
   | none => rw [q0] at h; cases h
   | some xs =>
    rw [q0] at h
    dsimp only at h
    cases z : xs.mapM (snap n st) with
    | none => show 207
    | some ds =>
     show 207
     cases r
     obtain ⟨vs, g1, g2⟩ := Y8 rp e q0
     obtain ⟨its, r1, pl, _⟩ := I.list g1
     obtain ⟨o, ho, hc, m, hd⟩ := pl.isList
     obtain ⟨bs, q'⟩ := all ih z g2 r1
     exact ⟨_, .list ho hc hd (by simpa using q')⟩
def deep : Nat := 8
def eqB (p q : P) (st : Ylo) : Option Bool := match snap deep st p, snap deep st q with
 | some d, some e => some (PyData.eqv d e)
 | _, _ => none
def eqP : G2 := fun p q st => (eqB p q st).map fun b => (.bl b, st)
def neP : G2 := fun p q st => (eqB p q st).map fun b => (.bl (!b), st)
theorem YdF (hu : X.A.units + deep < cLine) : OpR X (compareOp .Eq) (rM X eqP) := opM fun pins s σ H x y v u Q as st p q I rx ry rp d1 d2 h => by
 unfold eqP eqB at h
 cases z1 : snap deep st p with
 | none => rw [z1] at h; exact h.elim
 | some d =>
  cases z2 : snap deep st q with
  | none => rw [z1, z2] at h; exact h.elim
  | some e =>
   rw [z1, z2] at h
   obtain ⟨b1, r1⟩ := Wk I rp z1 d1 rx
   obtain ⟨b2, r2⟩ := Wk I rp z2 d2 ry
   exact (YdO deep (A := X.A) r1 r2 (Vt z1) (Vt z2) hu).2.1 _ _ _ _ ⟨.bl _, H, I, rfl, h as H _ Ext.refl rp .bl⟩
theorem YdN (hu : X.A.units + deep < cLine) : OpR X (compareOp .NotEq) (rM X neP) := opM fun pins s σ H x y v u Q as st p q I rx ry rp d1 d2 h => by
 unfold neP eqB at h
 cases z1 : snap deep st p with
 | none => rw [z1] at h; exact h.elim
 | some d =>
  cases z2 : snap deep st q with
  | none => rw [z1, z2] at h; exact h.elim
  | some e =>
   rw [z1, z2] at h
   obtain ⟨b1, r1⟩ := Wk I rp z1 d1 rx
   obtain ⟨b2, r2⟩ := Wk I rp z2 d2 ry
   exact (YdO deep (A := X.A) r1 r2 (Vt z1) (Vt z2) hu).2.2 _ _ _ _ ⟨.bl _, H, I, rfl, h as H _ Ext.refl rp .bl⟩
end
end Mi
namespace Mi
open PySem PySem.Spec L2
open PyProof.Rows hiding St
variable {A : Around} {E : VSP} {H : Hp} {K : Frag} {P' : Program} {P1 : Nat -> Value -> Prop} {P2 : Nat -> Value -> Prop} {Q : VSP} {S1 : Nat -> Heap -> Prop} {S2 : Nat -> Heap -> Prop} {TI : Addr} {TO : Addr} {X : Cx} {a : Addr} {as : List Addr} {e : Expr} {elts : List Expr} {f : Expr} {f1 : List Addr} {f2 : List Addr} {h : Heap} {h' : Heap} {i : Nat} {i1 : Addr} {i2 : Addr} {it : Addr} {k : Nat} {l : Addr} {me : ME} {n : Nat} {p : Pos} {p2 : Pos} {pos : Pos} {prog : Program} {s : Shared} {st : Ylo} {t : Tok} {tp : Pos} {w : World} {x : Str} {x1 : Nat} {xs : List P} {z : Addr} {ρ : Rho}
theorem Z3 : bootBuiltins "len" = some (.builtin "len") := by decide +kernel
theorem Zz : bootBuiltins "tuple" = some (.type "tuple") := by decide +kernel
theorem Yii : bootBuiltins "list" = some (.type "list") := by decide +kernel
theorem Zv : bootBuiltins "str" = some (.type "str") := by decide +kernel
theorem YjP : bootBuiltins "int" = some (.type "int") := by decide +kernel
theorem Yit : bootBuiltins "bool" = some (.type "bool") := by decide +kernel
theorem Yiq : bootBuiltins "dict" = some (.type "dict") := by decide +kernel
theorem Ykt : bootBuiltins "set" = some (.type "set") := by decide +kernel
theorem YeT : bootBuiltins "sorted" = some (.builtin "sorted") := by decide +kernel
theorem Yk : bootBuiltins "isinstance" = some (.builtin "isinstance") := by decide +kernel
theorem Yc2 : bootBuiltins "zip" = some (.type "zip") := by decide +kernel
theorem Ykk : bootBuiltins "sum" = some (.builtin "sum") := by decide +kernel
theorem YdC : bootBuiltins "min" = some (.builtin "min") := by decide +kernel
def YpT (me : ME) : ME := fun ρ st => (me ρ st).bind fun p st1 => match p with
 | .int i => .ok (.int (-i)) st1
 | _ => .bad
structure Fn (P' : Program) (w : World) (K : Frag) (mg : SOV) (base : Heap) (x : Str) (k : Nat) (ps : List Str) (mf : MF) : Prop where
 ex : ∃ f fd, FM P' w K mg base k f fd ps mf /\ mg x = some (.ref f) /\ PySem.W.keepIn K (.ref f) = true /\ Binds K fd ps []
theorem Yy {ps : List Str} {mf : MF} {es : List Expr} {mr : MA} (F : Fn X.prog X.w X.K X.mg X.base x k ps mf) (hr : Ymn k X.A) (hg : Gl X x) (ha : JA X (e :: es) mr)
 (hdb : (x == ("__debug__" : Str)) = false := by decide) (he : starEach (e :: es) X.env = (false, eval e X.env) :: starEach es X.env := by rfl) (hpl : (backTo pos (starEach es X.env)).any (·.1) = false := by rfl) :
 JE X (.Call (.Name x p) (e :: es) [] pos) (YlK ps.length mf mr) := by
 obtain ⟨f, fd, h1, h2, h3, h4⟩ := F.ex
 exact YhS h1 hr hg h2 h3 h4 ha hdb he hpl
def Ylu (K : Frag) (x : Str) (st : Stmt) : Prop := ∃ (f : Addr) (oc : Value) (od an : Option Addr) (kV doc pm cd ct : Value) (sl : Array (Option Value)),
 nsIn K mainGlobals x = some (some (.ref f)) /\ K.lookup f = some ⟨oc, od, .func (fnOf x x (Ylz st) (Ylw st) (Yln st) .none kV doc pm an cd ct), sl⟩ /\ PySem.W.codeIn K cd x = true /\ PySem.W.keepIn K (.ref f) = true
structure Top (K : Frag) (mg : SOV) : Prop where
 ex : ∃ h : Heap, K.In h /\ h.Ns mainGlobals mg
theorem Top.none {mg : SOV} (T : Top K mg) (e : nsIn K mainGlobals x = some none) : mg x = none := by
 obtain ⟨h, a, b⟩ := T.ex
 exact PySem.W.mg_none_of a b e
theorem Top.at {mg : SOV} {v : Value} (T : Top K mg) (e : nsIn K mainGlobals x = some (some v)) : mg x = some v := by
 obtain ⟨h, a, b⟩ := T.ex
 exact PySem.W.mg_of a b e
section
variable {P' : Program} {w : World} {K : Frag} {mg : SOV} {base : Heap} {x : Str} {st : Stmt} {N ps : List Str} {k : Nat} {m : MS}
theorem Y5 (T : Top K mg) (D : Ylu K x st) (S : YlC N ps (Yln st))
 (hb : ∀ (kV doc pm : Value) (an : Option Addr) (cdv ct : Value) (us : List Value), us.length = ps.length -> bindArgs (fnOf x x (Ylz st) (Ylw st) (Yln st) .none kV doc pm an cdv ct) ⟨us, []⟩ = pure (ps.zip us))
 (hbody : ∀ (f : Addr) (cdv : Value) (A : Around) (outer : List Env) (s : Shared) (H : Hp) (E : XK), Ymn k (A.deeper (envOfC x (Yln st) s.heap.objs.size f cdv)) -> JSs (YnL CX0 P' w K mg base N x (Yln st) f cdv A outer s H E).nox (Ylw st) m) :
 Fn P' w K mg base x (k + 1) ps (fnM N.length m) := by
 obtain ⟨f, oc, od, an, kV, doc, pm, cd, ct, sl, h1, h2, h3, h4⟩ := D
 have F := YgD (st := st) h2 h3 h4
 exact ⟨f, _, Mi.Fun.mirror F S (hbody f), T.at h1, h4, F.binds hb⟩
end
def YoJ (n : Nat) (mf : MF) (K : Frag) : Sp := fun vs H Q _ => ∃ (a : Addr) (ns : List Int), vs = [.ref a] /\ Only H /\ SqL K H a (ns.map V.int) /\ ns.length <= n /\ ∀ H', Q (.bl true) H'
theorem VP {K : Frag} {as : List Addr} {H : Hp} : ∀ (ns : List Int), Dens K as H (ns.map V.int) (ns.map P.int)
 | [] => .nil
 | _ :: r => .cons .int (VP r)
theorem YcM {ns : List Int} (hO : Only H) (hS : SqL K H a (ns.map V.int)) : Rep K [a] [.ro (ns.map P.int)] H where
 len := rfl
 nd := fun i j b hi hj ni nj => by
  have h1 : i < 1 := (ZAB.mp hi).1
  have h2 : j < 1 := (ZAB.mp hj).1
  omega
 ob := fun k b o hk ho => by
  have h1 : k < 1 := (ZAB.mp hk).1
  have e : k = 0 := by omega
  subst e
  cases hk; cases ho
  rcases hS with (h | h) | h
  ·rcases hO a with z | ⟨o, xs, z⟩
   ·show 207
   ·show 207
  ·exact ⟨_, .inl h, VP ns⟩
  ·exact ⟨_, .inr h, VP ns⟩
def Law (n : Nat) (mf : MF) : Prop := ∀ ns : List Int, ns.length <= n -> ∃ st, mf [.ref 0] [.ro (ns.map P.int)] = .ok (.bl true) st
theorem Yjk {mf : MF} (L : Law n mf) : ∀ vs H Q E, YoJ n mf K vs H Q E -> spM K 1 mf vs H Q E := by
 rintro vs H Q E ⟨a, ns, rfl, hO, hS, hl, hq⟩
 refine ⟨rfl, [a], _, [.ref 0], YcM hO hS, .cons (.ref rfl) .nil, ?_⟩
 obtain ⟨st, e⟩ := L ns hl
 rw [e]
 intro as' H' v _ _ d
 cases d
 exact hq H'
theorem Yhj {l : PySem.W.OpenLaw} {q : Program} {loose : List Str} {XP : (Str -> Option Value) -> Heap -> Prop} {YP : World -> Heap -> Prop} {d : DefRec} {K : Params -> Frag} {y : Str} {st : Stmt} {mf : MF} (hn : l.most = some n) (hn2 : n <= 1000) (hdf : d.params.defaults = []) (hy : d.name = y)
 (hr : Ymn k callerA) (hY : ∀ (w : World) (h : Heap), YP w h -> (K w.params).In h) (hb : ∀ (kV doc pm : Value) (an : Option Addr) (cdv ct : Value) (s : Shared) (u : Value), BindsTo s (fnOf y y (Ylz st) (Ylw st) (Yln st) .none kV doc pm an cdv ct) ⟨[u], []⟩ [(x, u)])
 (D : ∀ w : World, Ylu (K w.params) y st)
 (F : ∀ (w : World) (mg : SOV), Top (K w.params) mg -> ∀ (f : Addr) (fd : FuncData), Fun (K w.params) y y st f fd -> ∀ base : Heap, FM l.prog w (K w.params) mg base k f fd [x] mf) (L : Law n mf) :
 PySem.W.WalkO q loose XP YP l.row.toRowW d [] (fun f vs => PySem.call f vs) := by
 refine L2.walk_of (n := n) (k := k) (x := x) (CX := fun _ => CX0) (sp := fun w => YoJ n mf (K w.params)) hn (ZAV hn2 (by rw [sizeLine_eq]; decide)) hdf hr hY ?_ (fun w H a ns hl hO hS => ⟨a, ns, rfl, hO, hS, hl, fun _ => rfl⟩) fun _ _ _ _ _ z => z
 intro w mg fa h KX G hmg
 subst hy
 have T : Top (K w.params) mg := ⟨h, KX, G⟩
 obtain ⟨f, oc, od, an, kV, doc, pm, cd, ct, sl, h1, h2, h3, h4⟩ := D w
 have e := T.at h1
 rw [hmg] at e
 cases e
 have F0 := YgD (st := st) h2 h3 h4
 exact ⟨_, hb kV doc pm an cd ct, fun base _ _ => (F w mg T fa _ F0 base).imp (Yjk L)⟩
theorem Yx (hr : Ymn k A) : A.units + deep < cLine := ZBy (Nat.add_le_add_left (by decide : deep <= 64) _) hr.units
def Yn6 (X : Cx) (scope : Scope) (FN : List Str) (fr : List Nat) : Bool :=
 scope.names.all (fun y => !(y.2 == NameKind.cell)) && (match scope.kind with | .function => true | _ => false) && scope.names.all (fun y => !(y.2 == NameKind.local) || (match scope.names.lookup y.1 with | some .local => true | _ => false)) &&
 scope.names.all (fun y => !(y.2 == NameKind.free) || (match X.env.kindOf y.1 with | some .cell => true | some .free => true | _ => false)) &&
 (FN.length == fr.length) && (FN.zip fr).all fun z => (match X.N[z.2]? with | some x => x == z.1 | none => false) && (match scope.names.lookup z.1 with | some .free => true | _ => false)
theorem YfI {α : Type} : ∀ {l : List (Str × α)} {y : Str} {a : α}, l.lookup y = some a -> (y, a) ∈ l
 | [], _, _, h => by cases h
 | (k, v) :: r, y, a, h => by
  rw [ZBD] at h
  cases q : (y == k) with
  | true =>
   rw [q] at h
   have e : y = k := by simpa using q
   subst e
   cases h
   exact ZAM ..
  | false => rw [q] at h; exact ZAQ _ (YfI h)
theorem YkQ {a b : NameKind} (h : (!(a == b)) = true) : a ≠ b := fun e => by
 subst e
 cases a <;> exact absurd h (by decide)
theorem Zy {scope : Scope} (TN FN : List Str) (fr : List Nat) (h : Yn6 X scope FN fr = true) : Ymm X scope TN FN fr := by
 unfold Yn6 at h
 simp only [Bool.and_eq_true, List.all_eq_true] at h
 obtain ⟨⟨⟨⟨⟨h1, h2⟩, h3⟩, h4⟩, h5⟩, h6⟩ := h
 refine ⟨fun y hy => YkQ (h1 y hy), ?_, fun y hy e => ?_, fun y hy e => ?_, fun y => YfI, by simpa using h5, fun j x k hx hk => ?_⟩
 ·revert h2; cases scope.kind <;> intro h2 <;> first | rfl | exact absurd h2 (by decide)
 ·have := h3 y hy
  rw [e] at this
  have e2 : (!(NameKind.local == NameKind.local)) = false := by decide
  rw [e2, ZCa] at this
  revert this
  split
  ·intro _; assumption
  ·intro z; exact absurd z (by decide)
 ·have := h4 y hy
  rw [e] at this
  have e2 : (!(NameKind.free == NameKind.free)) = false := by decide
  rw [e2, ZCa] at this
  revert this
  split
  ·intro _; left; assumption
  ·intro _; right; assumption
  ·intro z; exact absurd z (by decide)
 ·have hm : (x, k) ∈ FN.zip fr := List.mem_iff_getElem?.mpr ⟨j, by rw [List.getElem?_zip_eq_some]; exact ⟨hx, hk⟩⟩
  obtain ⟨g1, g2⟩ := h6 _ hm
  dsimp only at g1 g2
  constructor
  ·revert g1
   cases X.N[k]? with
   | none => intro z; exact absurd z ZAO
   | some z => intro e; rw [show z = x by simpa using e]
  ·revert g2
   split
   ·intro _; assumption
   ·intro z; exact absurd z (by decide)
theorem Ylu.of {st : Stmt} {f : Addr} {oc : Value} {od an : Option Addr} {kV doc pm cd ct : Value} {sl : Array (Option Value)} (a : nsIn K mainGlobals x = some (some (.ref f)))
 (l : K.lookup f = some ⟨oc, od, .func (fnOf x x (Ylz st) (Ylw st) (Yln st) .none kV doc pm an cd ct), sl⟩) (c : PySem.W.codeIn K cd x = true) (k : PySem.W.keepIn K (.ref f) = true) : Ylu K x st := ⟨f, oc, od, an, kV, doc, pm, cd, ct, sl, a, l, c, k⟩
def Yna : List P -> Option (List Int)
 | [] => some []
 | .int i :: r => (Yna r).map (i :: ·)
 | _ :: _ => none
section
theorem YdQ : ∀ {ps : List P} {vs : List V} {us : List Value} {ns : List Int}, Dens K as H vs ps -> Vals vs us -> Yna ps = some ns -> IntsAre us ns
 | [], _, _, _, .nil, .nil, e => by cases e; exact .nil
 | .int i :: r, _, _, ns, .cons d ds, .cons rv rs, e => by
  cases d
  obtain ⟨t, rfl⟩ := rv
  have e' : (Yna r).map (i :: ·) = some ns := e
  cases q : Yna r with
  | none => rw [q] at e'; cases e'
  | some cs => rw [q] at e'; cases e'; exact .cons i t (YdQ ds rs q)
end
section
variable {vs : List Value} {bs : List Bool}
theorem Yh0 {ns : List Int} (hh : A.handled = none) (hl : s.heap.IsList l vs.toArray) (hi : IntsAre vs ns)
 (h : ∀ h' tk t', (∀ b x, s.heap.get? b = some x -> h'.get? b = some x) -> Q (.int ns.sum t') { s with heap := h', toks := tk }) : wpAny (model prog w) A (call (.builtin "sum") [.ref l]) Q E s := by
 obtain ⟨xs, hx⟩ := hi.allInts.items
 have hl2 : s.heap.IsList l (intItems xs) := hx ▸ hl
 refine sum_intListG hh hl2 fun h' tk t' hk => ?_
 have e1 : ns = xs.toList.map (·.1) := by
  have := hi.numsOf
  rw [<- nums_intItems, <- hx]
  exact this.symm
 have e2 : preSum (numAt xs) xs.size = ns.sum := by rw [preSum_eq, List.take_of_length_le (by simp), e1]
 rw [e2]
 exact h h' tk t' hk
end
section
variable {m : MA}
theorem YeB (hc : X.calm = true) : Yl2 X (.builtin "sum") (fun xs H Q => ∃ a vs ns, xs = [.ref a] /\ SqL X.K H a vs /\ (∀ us, Vals vs us -> IntsAre us ns) /\ Q (.int ns.sum) H) := by
 intro pins s σ H xs us Q I r ⟨a, vs, bs, e, sq, hb, q⟩
 subst e
 obtain ⟨u, rfl, rx⟩ := vals1 r
 cases rx
 obtain ⟨its, rv, pl, _⟩ := I.list sq
 exact Yh0 (I.ok.hd hc) pl.isList (hb _ rv) fun h' tk t' hk => ⟨.int _, H, I.kept hk, ⟨_, rfl⟩, q⟩
def Yos : GC := fun ps st => match ps with
 | [.int i, .int j] => okP (.int (if j < i then j else i)) st
 | _ => none
theorem Ydk (hc : X.calm = true) : Yl2 X (.builtin "min") (rMC X Yos) := Yl2.imp (Yeq hc) fun xs H Q ⟨as, st, ps, rp, d, h⟩ => by
 match ps, h with
 | [.int i, .int j], h =>
  obtain ⟨v, u, rfl, d1, d2⟩ := d.two
  cases d1; cases d2
  exact ⟨i, j, rfl, h as H _ Ext.refl rp .int⟩
end
section
theorem Ydu {J t : Addr} {its : Array Value} {x : Value} (hJ : s.heap.IsTupleIter J t i) (ht : s.heap.IsTuple t its) (hx : its[i]? = some x)
 (hQ : ∀ h', h'.IsTupleIter J t (i + 1) -> Heap.SameBut J s.heap h' -> Q x { s with heap := h' }) : wpAny (model prog w) A (Builtin.SmallTypes.nextOf (.ref J)) Q E s := by
 obtain ⟨oJ, gJ, cJ, dJ⟩ := id hJ
 obtain ⟨oT, gT, _, nT, dT⟩ := ht
 unfold Builtin.SmallTypes.nextOf
 have nn : ¬ ((Value.ref t == Value.none) = true) := ZAO
 refine ZAA (wpAny_callSpecial?_slot (name := Str.ofString "__next__") hJ.typeIs F.slot_tuple_iterator_next (ZAj F.slot_tuple_iterator_next hJ.typeIs F.entry_tuple_iterator_next ?_ (F.args_tuple_iterator_next_1 _)))
 show wpAny _ _ (field (.ref J) 0 >>= _) _ _ s
 refine ZAA (ZAn gJ dJ (x := .ref t) rfl ?_)
 show wpAny _ _ (if (Value.ref t == Value.none) = true then _ else field (.ref J) 1 >>= _) _ _ s
 rw [ZAE nn]
 refine ZAA (ZAn gJ dJ (x := .int i 0) rfl ?_)
 show wpAny _ _ (seqItems? (.ref t) >>= _) _ _ s
 refine ZAA (ZAw gT dT ?_)
 simp only [Int.toNat_natCast, hx]
 refine wpAny_bind (wpAny_setField gJ dJ (by simp) (wpAny_pure ⟨x, rfl, wpAny_pure ?_⟩))
 refine hQ _ ⟨_, ZBF _ gJ (Obj.isFreed_of_fields (Obj.data_mapFields dJ _)), (Obj.cls_mapFields ..).trans cJ, ?_⟩ (Heap.SameBut.update ..)
 rw [Obj.data_mapFields dJ]
 simp [rawInt]
theorem YeJ {J t : Addr} {its : Array Value} (hh : A.handled = none) (hJ : s.heap.IsTupleIter J t i) (ht : s.heap.IsTuple t its) (hx : its[i]? = none)
 (hE : ∀ h' e, Heap.ExtBut J s.heap h' -> (∃ o, h'.get? e = some o /\ o.cls = .type "StopIteration") -> E (.ref e) { s with heap := h' }) : wpAny (model prog w) A (Builtin.SmallTypes.nextOf (.ref J)) Q E s := by
 obtain ⟨oJ, gJ, cJ, dJ⟩ := id hJ
 obtain ⟨oT, gT, _, nT, dT⟩ := ht
 unfold Builtin.SmallTypes.nextOf
 have nn : ¬ ((Value.ref t == Value.none) = true) := ZAO
 refine ZAA (wpAny_callSpecial?_slot (name := Str.ofString "__next__") hJ.typeIs F.slot_tuple_iterator_next (ZAj F.slot_tuple_iterator_next hJ.typeIs F.entry_tuple_iterator_next ?_ (F.args_tuple_iterator_next_1 _)))
 show wpAny _ _ (field (.ref J) 0 >>= _) _ _ s
 refine ZAA (ZAn gJ dJ (x := .ref t) rfl ?_)
 show wpAny _ _ (if (Value.ref t == Value.none) = true then _ else field (.ref J) 1 >>= _) _ _ s
 rw [ZAE nn]
 refine ZAA (ZAn gJ dJ (x := .int i 0) rfl ?_)
 show wpAny _ _ (seqItems? (.ref t) >>= _) _ _ s
 refine ZAA (ZAw gT dT ?_)
 simp only [Int.toNat_natCast, hx]
 refine wpAny_bind (wpAny_rule (wpAny_bind (wpAny_setField gJ dJ (by simp) ?_)))
 have kk : Heap.ExtBut J s.heap (s.heap.update J (Obj.mapFields fun x => x.setIfInBounds 0 Value.none)) := (Heap.SameBut.update ..).extBut
 exact V4 (A := A.in1) (s := { s with heap := s.heap.update J (Obj.mapFields fun x => x.setIfInBounds 0 Value.none) }) hh kk fun h' x k o => hE h' x k o
theorem ZP (hh : A.handled = none) (J t : Addr) (hne : t ≠ J) (its : Array Value) : Draws prog w A J [J, t] its.size (fun i v => its[i]? = some v) (fun i h => h.IsTupleIter J t i /\ h.IsTuple t its) where
 live := fun _ _ st => let ⟨o, ho, _⟩ := st.1; ⟨o, ho⟩
 frame := fun _ _ _ st hk => ⟨let ⟨o, e, r⟩ := st.1; ⟨o, hk J (by simp) o e, r⟩, let ⟨o, e, r⟩ := st.2; ⟨o, hk t (by simp) o e, r⟩⟩
 item := fun i s Q E hi st hQ => Ydu st.1 st.2 (x := its[i]) (by simp [hi]) fun h' a b => hQ _ h' s.toks (by simp [hi]) ⟨a, st.2.extBut b.extBut hne⟩ b
 done := fun s Q E st hE => YeJ hh st.1 st.2 (by simp) hE
end
structure Yoa (P' : Program) (w : World) (K : Frag) (it : Addr) (tn0 : Nat -> Heap -> Prop) (go : Nat -> Hp -> V -> Prop) (stop : Nat -> Hp -> Prop) : Prop where
 obj : ∀ i h, tn0 i h -> ∃ o, h.get? it = some o /\ ∀ v, o.data ≠ .cell v
 keep : ∀ i h h', tn0 i h -> (∀ o, h.get? it = some o -> h'.get? it = some o) -> tn0 i h'
 uniq : ∀ (X : Cx), X.K = K -> ∀ i pins s σ H x y, Inv X pins σ H s -> go i H x -> go i H y -> x = y
 item : ∀ (X : Cx), X.prog = P' -> X.w = w -> X.K = K -> X.calm = true -> ∀ i pins s σ H x, Inv X pins σ H s -> Ymx X pins H it -> tn0 i s.heap -> go i H x ->
  ∃ fp n Pv St, Draws P' w X.A.in1 it fp n Pv St /\ St i s.heap /\ i < n /\ (∀ e, Ymx X pins H e -> e ≠ it -> e ∉ fp) /\ (∀ v, Pv i v -> RelV x v) /\ ∀ h', St (i + 1) h' -> tn0 (i + 1) h'
 done : ∀ (X : Cx), X.prog = P' -> X.w = w -> X.K = K -> X.calm = true -> ∀ i pins s σ H, Inv X pins σ H s -> Ymx X pins H it -> tn0 i s.heap -> stop i H ->
  ∃ fp n Pv St, Draws P' w X.A.in1 it fp n Pv St /\ St n s.heap
open PySem.AutoSeq1 (wpAny_loadPart')
theorem Yan {pins : LAO} {σ : St} {b : Addr} {xs : List V} (I : Inv X pins σ H s) (h : SqT X.K H a xs) (f : Ymx X pins H b) : a ≠ b := by
 obtain ⟨f0, f1, f2, f3, f4, f5⟩ := f
 rintro rfl
 rcases h with (h | ⟨o, h⟩) | ⟨o, its, n, hk, _⟩
 ·rw [f0] at h; cases h
 ·rw [f0] at h; cases h
 ·have hb := I.ok.mod.kin a o hk
  rcases f3 with z | z
  ·exact I.ok.noex a o hb z
  ·exact absurd (ZAG (I.ok.bs a o hb).1) (ZCZ.mpr z)
theorem Yjq : Yoa P' w K it (fun i h => h.IsTupleIter it l i) (fun i H x => ∃ xs, SqT K H l xs /\ xs[i]? = some x) (fun i H => ∃ xs, SqT K H l xs /\ i = xs.length) where
 obj := fun i h ⟨o, e, c, d⟩ => ⟨o, e, fun v z => by rw [d] at z; cases z⟩
 keep := fun i h h' ⟨o, e, r⟩ k => ⟨o, k o e, r⟩
 uniq := fun X hK i pins s σ H x y I ⟨xs, h1, h2⟩ ⟨ys, h3, h4⟩ => by
  subst hK
  rw [I.tuple_inj h1 h3, h4] at h2
  exact (Option.some.inj h2).symm
 item := fun X hP hw hK hc i pins s σ H x I f st ⟨xs, h1, h2⟩ => by
  show 176
  obtain ⟨its, rv, pt, _⟩ := I.tuple h1
  show 187
  have hi := (ZAB.mp h2).1
  have D := ZP (prog := X.prog) (w := X.w) (A := X.A.in1) (I.ok.hd hc) it l (Yan I h1 f) its.toArray
  refine ⟨_, _, _, _, D, ⟨st, pt⟩, by simp; omega, fun e fe hne hm => ?_, fun v hv => ?_, fun h' q => q.1⟩
  ·show 261
   rcases hm with z | z
   ·exact hne z
   ·exact Yan I h1 fe z.symm
  ·obtain ⟨u, e1, e2⟩ := rv.get h2
   have : its[i]? = some v := by simpa using hv
   rw [this] at e1
   cases e1
   exact e2
 done := fun X hP hw hK hc i pins s σ H I f st ⟨xs, h1, h2⟩ => by
  show 176
  obtain ⟨its, rv, pt, _⟩ := I.tuple h1
  show 187
  have D := ZP (prog := X.prog) (w := X.w) (A := X.A.in1) (I.ok.hd hc) it l (Yan I h1 f) its.toArray
  refine ⟨_, _, _, _, D, ?_, pt⟩
  show 60
  exact st
theorem Yjy {z : Str} : Yoa P' w K it (fun i h => h.IsStrIter it (strIterType z) z t i) (fun i _ x => ∃ c, z.cps[i]? = some c /\ x = .str ⟨#[c]⟩) (fun i _ => i = z.cps.size) where
 obj := fun i h ⟨o, e, c, d⟩ => ⟨o, e, fun v z => by rw [d] at z; cases z⟩
 keep := fun i h h' ⟨o, e, r⟩ k => ⟨o, k o e, r⟩
 uniq := fun X hK i pins s σ H x y I ⟨c, h1, h2⟩ ⟨d, h3, h4⟩ => by
  rw [h1] at h3
  cases h3
  rw [h2, h4]
 item := fun X hP hw hK hc i pins s σ H x I f st ⟨c, h1, h2⟩ => by
  show 176
  have hi : i < z.cps.size := (Array.getElem?_eq_some_iff.mp h1).1
  have rel : ∀ v, (∃ c u, z.cps[i]? = some c /\ v = .str ⟨#[c]⟩ u) -> RelV x v := fun v ⟨d, u, e1, e2⟩ => by
   rw [h1] at e1
   cases e1
   rw [h2, e2]
   exact ⟨u, rfl⟩
  unfold strIterType at st ⊢
  split at st
  ·rename_i ha
   rw [ZAF ha]
   have D := Draws.strAscii (prog := X.prog) (w := X.w) (A := X.A.in1) (I.ok.hd hc) it z t
   exact ⟨_, _, _, _, D, st, hi, fun e fe hne hm => hne (by simpa using hm), rel, fun h' q => q⟩
  ·rename_i ha
   rw [ZAE ha]
   have D := Draws.strWide (prog := X.prog) (w := X.w) (A := X.A.in1) (I.ok.hd hc) it z t
   exact ⟨_, _, _, _, D, st, hi, fun e fe hne hm => hne (by simpa using hm), rel, fun h' q => q⟩
 done := fun X hP hw hK hc i pins s σ H I f st h1 => by
  show 176
  subst h1
  unfold strIterType at st
  split at st
  ·have D := Draws.strAscii (prog := X.prog) (w := X.w) (A := X.A.in1) (I.ok.hd hc) it z t
   exact ⟨_, _, _, _, D, st⟩
  ·have D := Draws.strWide (prog := X.prog) (w := X.w) (A := X.A.in1) (I.ok.hd hc) it z t
   exact ⟨_, _, _, _, D, st⟩
theorem Yjs : Yoa P' w K it (fun i h => h.IsListIter it l i) (fun i H x => ∃ xs, SqL K H l xs /\ xs[i]? = some x) (fun i H => ∃ xs, SqL K H l xs /\ i = xs.length) where
 obj := fun i h ⟨o, e, c, d⟩ => ⟨o, e, fun v z => by rw [d] at z; cases z⟩
 keep := fun i h h' ⟨o, e, r⟩ k => ⟨o, k o e, r⟩
 uniq := fun X hK i pins s σ H x y I ⟨xs, h1, h2⟩ ⟨ys, h3, h4⟩ => by
  subst hK
  rw [I.list_inj h1 h3, h4] at h2
  exact (Option.some.inj h2).symm
 item := fun X hP hw hK hc i pins s σ H x I f st ⟨xs, h1, h2⟩ => by
  show 176
  obtain ⟨its, rv, pt, _⟩ := I.list h1
  show 187
  have hi := (ZAB.mp h2).1
  have D := Draws.list (prog := X.prog) (w := X.w) (A := X.A.in1) (I.ok.hd hc) it l (YE I h1 f) its.toArray
  refine ⟨_, _, _, _, D, ⟨st, pt.isList⟩, by simp; omega, fun e fe hne hm => ?_, fun v hv => ?_, fun h' q => q.1⟩
  ·show 261
   rcases hm with z | z
   ·exact hne z
   ·exact YE I h1 fe z.symm
  ·obtain ⟨u, e1, e2⟩ := rv.get h2
   have : its[i]? = some v := by simpa using hv
   rw [this] at e1
   cases e1
   exact e2
 done := fun X hP hw hK hc i pins s σ H I f st ⟨xs, h1, h2⟩ => by
  show 176
  obtain ⟨its, rv, pt, _⟩ := I.list h1
  show 187
  have D := Draws.list (prog := X.prog) (w := X.w) (A := X.A.in1) (I.ok.hd hc) it l (YE I h1 f) its.toArray
  refine ⟨_, _, _, _, D, ?_, pt.isList⟩
  show 60
  exact st
def numAt (xs : List P) (i : Nat) : Option (Option P) := if i < xs.length then some ((xs[i]?).map fun p => .tup [.int i, p]) else if i = xs.length then some none else none
def YmW (z : Str) : List P := z.cps.toList.map YnJ
section
end
section
end
def YmX : G2 := fun p q st => match p, q with
 | .int i, .int j => if (small64 i || small64 j) = true then okP (.int (i * j)) st else none
 | .str x, .int k => if -1000000 <= k /\ k <= 1000000 /\ x.length <= 1000000 /\ x.length * k.toNat <= cap then okP (.str (Txt.mul x k)) st else none
 | _, _ => none
theorem Ygm {k : Int} (h1 : -1000000 <= k) (h2 : k <= 1000000) (h3 : x.length <= 1000000) (h4 : x.length * k.toNat <= cap) : MulOk x k := by
 refine ⟨?_, fun h _ => ?_, fun h _ => ?_⟩
 ·rw [ZAS (by omega), ZAS (by omega)]; rfl
 ·have a : (9223372036854 : Int) <= (2 ^ 63 - 1) / k := by
   refine Int.le_ediv_of_mul_le (by omega) ?_
   have : (9223372036854 : Int) * k <= 9223372036854 * 1000000 := Int.mul_le_mul_of_nonneg_left h2 (by decide)
   omega
  omega
 ·unfold Builtin.Str.tooLong
  rw [ZAS]
  have : cap <= sizeLine := Yt
  omega
theorem VG : OpR X (binaryOp .Mult) (rM X YmX) := opM fun pins s σ H x y v u Q as st p q I rx ry rp d1 d2 h => by
 cases d1 with
 | int =>
  cases d2 with
  | int => exact Yjb pins s σ H _ _ v u Q I rx ry ⟨as, st, _, _, rp, .int, .int, h⟩
  | _ => show 144
 | str =>
  rename_i x
  cases d2 with
  | int =>
   rename_i k
   have h' : YlG X as H (if -1000000 <= k /\ k <= 1000000 /\ x.length <= 1000000 /\ x.length * k.toNat <= cap then okP (.str (Txt.mul x k)) st else none) Q := h
   by_cases z : -1000000 <= k /\ k <= 1000000 /\ x.length <= 1000000 /\ x.length * k.toNat <= cap
   ·rw [ZAF z] at h'
    show 23
    exact SB.mul (Ygm z.1 z.2.1 z.2.2.1 z.2.2.2) fun t'' k' => ⟨.str _, H, I.tok k', ⟨t'', rfl⟩, h' as H _ Ext.refl rp .str⟩
   ·show 199
  | _ => show 144
 | _ => show 144
section
end
section
variable {v1 v2 : Expr} {vs : List Expr} {mp : Str -> ME}
end
section
end
structure Yn9 (z TI TO i1 i2 : Addr) (f1 f2 : List Addr) : Prop where
 ap : ZAp z TI TO i1 i2
 z1 : z ∉ f1
 t1 : TO ∉ f1
 x1 : i2 ∉ f1
 z2 : z ∉ f2
 t2 : TO ∉ f2
 x2 : i1 ∉ f2
section
variable {n1 n2 : Nat} {a b : Value}
theorem YN {fp : List Addr} {Pv : Nat -> Value -> Prop} {St' : Nat -> Heap -> Prop} (D : Draws prog w A it fp n Pv St') {c : Addr} (st : St' i h) (x : Heap.ExtBut c h h') (hc : c ∉ fp) : St' i h' :=
 D.frame i h h' st fun b hb o e => x b o (fun q => hc (q ▸ hb)) e
theorem YeA (D1 : Draws prog w A i1 f1 n1 P1 S1) (D2 : Draws prog w A i2 f2 n2 P2 S2) (D : Yn9 z TI TO i1 i2 f1 f2)
 (hz : IsZip s.heap z TI TO .none) (hTI : IsPair s.heap TI (.ref i1) (.ref i2)) (hTO : IsPair s.heap TO a b) (h1 : S1 k s.heap) (h2 : S2 k s.heap) (k1 : k < n1) (k2 : k < n2)
 (hQ : ∀ x y h' tk, P1 k x -> P2 k y -> IsZip h' z TI TO (rawInt s.heap.objs.size) -> IsPair h' TO x y -> S1 (k + 1) h' -> S2 (k + 1) h' -> IsPair h' s.heap.objs.size x y -> h'.objs.size = s.heap.objs.size + 1 ->
  (∀ c o, c ≠ z -> c ≠ TO -> c ≠ i1 -> c ≠ i2 -> s.heap.get? c = some o -> h'.get? c = some o) -> Q (.ref s.heap.objs.size) { s with heap := h', toks := tk }) :
 wpAny (model prog w) A (Builtin.«zip.__next__» ⟨[.ref z], []⟩) (fun fin s' => ∃ v, fin = .done (.ret v) /\ Q v s') E s := by
 show 77
 show 156
 unfold Builtin.SmallTypes.ownedTupleIsFree
 refine ZAA (ZAn hz rfl (x := .none) rfl (ZAC ?_))
 simp only [if_true]
 refine wpAny_bind (wpAny_rule (wpAny_bind (wpAny_field hz rfl (x := .ref TO) rfl (wpAny_bind (wpAny_setField_rec hz (by simp) fun g1 hz1 e1 => ?_)))))
 replace hz1 : IsZip g1 z TI TO .ellipsis := hz1
 show 156
 simp only [List.zipIdx_cons, List.zipIdx_nil, List.forIn_cons, List.forIn_nil]
 show 227
 show 241
 refine ZAA (D1.item k { s with heap := g1 } _ _ k1 (YN D1 h1 e1.extBut D.z1) fun x g2 tk1 px s1 e2 => ZAC ?_)
 have to2 : IsPair g2 TO a b := e2.extBut _ _ D.ap.TOi1 (e1.extBut _ _ D.ap.TOz hTO)
 refine ZAA (ZAw to2 rfl (ZAA (ZB6 to2 fun g3 to3 e3 => ?_)))
 replace to3 : IsPair g3 TO x b := to3
 refine ZAA (ZCU (ZAC ?_))
 show 227
 show wpAny _ _ (Builtin.SmallTypes.nextOf (.ref i2) >>= _) _ _ _
 refine ZAA (D2.item k { s with heap := g3, toks := tk1 } _ _ k2 (YN D2 (YN D2 (YN D2 h2 e1.extBut D.z2) e2.extBut D.x2) e3.extBut D.t2) fun y g4 tk2 py s2 e4 => ZAC ?_)
 have to4 : IsPair g4 TO x b := e4.extBut _ _ D.ap.TOi2 to3
 refine ZAA (ZAw to4 rfl (ZAA (ZB6 to4 fun g5 to5 e5 => ?_)))
 replace to5 : IsPair g5 TO x y := to5
 refine ZAA (ZCU (ZAC (ZAC ?_)))
 refine ZAA (ZAw to5 rfl (ZAA (wpAny_newTuple ?_)))
 have sz : g5.objs.size = s.heap.objs.size := by rw [e5.1, e4.1, e3.1, e2.1, e1.1]
 have hz5 : IsZip g5 z TI TO .ellipsis := e5.extBut _ _ D.ap.TOz.symm (e4.extBut _ _ D.ap.i2z.symm (e3.extBut _ _ D.ap.TOz.symm (e2.extBut _ _ D.ap.i1z.symm hz1)))
 have kp : ∀ c o, c ≠ z -> c ≠ TO -> c ≠ i1 -> c ≠ i2 -> s.heap.get? c = some o -> g5.get? c = some o := fun c o c1 c2 c3 c4 e =>
  e5.extBut _ _ c2 (e4.extBut _ _ c4 (e3.extBut _ _ c2 (e2.extBut _ _ c3 (e1.extBut _ _ c1 e))))
 have s15 : S1 (k + 1) g5 := YN D1 (YN D1 (YN D1 s1 e3.extBut D.t1) e4.extBut D.x1) e5.extBut D.t1
 have s25 : S2 (k + 1) g5 := YN D2 s2 e5.extBut D.t2
 have lz : z < g5.objs.size := ZAG hz5
 show wpAny _ _ (Builtin.SmallTypes.ownedTupleHandOut (.ref z) (.ref g5.objs.size) >>= _) _ _ _
 show 156
 unfold Builtin.SmallTypes.ownedTupleHandOut
 have hz6 : IsZip (g5.push { cls := .type "tuple", data := .seq #[x, y] }) z TI TO .ellipsis := ZAD _ hz5
 refine wpAny_bind (wpAny_setField_rec hz6 (by simp) fun g7 hz7 e7 => ?_)
 replace hz7 : IsZip g7 z TI TO (rawInt g5.objs.size) := hz7
 refine wpAny_setField_rec hz7 (by simp) fun g8 hz8 e8 => ?_
 replace hz8 : IsZip g8 z TI TO (rawInt g5.objs.size) := hz8
 have up : ∀ c o, c ≠ z -> g5.get? c = some o -> g8.get? c = some o := fun c o c1 e => e8.extBut _ _ c1 (e7.extBut _ _ c1 (ZAD _ e))
 have t8 : IsPair g8 g5.objs.size x y := e8.extBut _ _ (ZA6 lz) (e7.extBut _ _ (ZA6 lz) (ZAH _ rfl))
 have z8 : g8.objs.size = g5.objs.size + 1 := by rw [e8.1, e7.1, ZAf]
 rw [sz] at hz8 t8 z8
 refine ZAC ⟨_, rfl, ?_⟩
 show Q (.ref g5.objs.size) _
 rw [sz]
 exact hQ x y g8 tk2 px py hz8 (up _ _ D.ap.TOz to5) (D1.frame _ _ _ s15 fun c hc o e => up c o (fun q => D.z1 (q ▸ hc)) e) (D2.frame _ _ _ s25 fun c hc o e => up c o (fun q => D.z2 (q ▸ hc)) e) t8 z8 fun c o c1 c2 c3 c4 e => up c o c1 (kp c o c1 c2 c3 c4 e)
theorem Vv {Q : Option Value -> Shared -> Prop} (D1 : Draws prog w A.in1 i1 f1 n1 P1 S1) (D2 : Draws prog w A.in1 i2 f2 n2 P2 S2) (D : Yn9 z TI TO i1 i2 f1 f2)
 (hz : IsZip s.heap z TI TO .none) (hTI : IsPair s.heap TI (.ref i1) (.ref i2)) (hTO : IsPair s.heap TO a b) (h1 : S1 k s.heap) (h2 : S2 k s.heap) (k1 : k < n1) (k2 : k < n2)
 (hQ : ∀ x y h' tk, P1 k x -> P2 k y -> IsZip h' z TI TO (rawInt s.heap.objs.size) -> IsPair h' TO x y -> S1 (k + 1) h' -> S2 (k + 1) h' -> IsPair h' s.heap.objs.size x y -> h'.objs.size = s.heap.objs.size + 1 ->
  (∀ c o, c ≠ z -> c ≠ TO -> c ≠ i1 -> c ≠ i2 -> s.heap.get? c = some o -> h'.get? c = some o) -> Q (some (.ref s.heap.objs.size)) { s with heap := h', toks := tk }) :
 wpAny (model prog w) A (pyNext (.ref z)) Q E s := by
 show 58
 exact ZAA (ZBS (wpAny_callSpecial?_slot (name := Str.ofString "__next__") hT F.slot_zip_next
  (ZAj F.slot_zip_next hT F.entry_zip_next
   (YeA D1 D2 D hz hTI hTO h1 h2 k1 k2 fun x y h' tk c1 c2 a1 a2 a3 a4 a5 a6 a7 => ZAC (hQ x y h' tk c1 c2 a1 a2 a3 a4 a5 a6 a7)) (F.args_zip_next_1 _))))
end
section
variable {n1 n2 : Nat} {a b : Value}
theorem Ygq {Q : Fin -> Shared -> Prop} (D1 : Draws prog w A i1 f1 n1 P1 S1) (D : ZAp z TI TO i1 i2) (az1 : z ∉ f1)
 (hz : IsZip s.heap z TI TO .none) (hTI : IsPair s.heap TI (.ref i1) (.ref i2)) (hTO : IsPair s.heap TO a b) (h1 : S1 k s.heap)
 (hk : k = n1 \/ k < n1 /\ ∃ f2 n2 P2 S2, Draws prog w A i2 f2 n2 P2 S2 /\ S2 n2 s.heap /\ z ∉ f2 /\ TO ∉ f2 /\ i1 ∉ f2)
 (hE : ∀ h' e tk, (∀ c o, c ≠ z -> c ≠ TO -> c ≠ i1 -> c ≠ i2 -> s.heap.get? c = some o -> h'.get? c = some o) -> (∃ o, h'.get? e = some o /\ o.cls = .type "StopIteration") -> E (.ref e) { s with heap := h', toks := tk }) :
 wpAny (model prog w) A (Builtin.«zip.__next__» ⟨[.ref z], []⟩) Q E s := by
 show 77
 show 156
 unfold Builtin.SmallTypes.ownedTupleIsFree
 refine ZAA (ZAn hz rfl (x := .none) rfl (ZAC ?_))
 simp only [if_true]
 refine wpAny_bind (wpAny_rule (wpAny_bind (wpAny_field hz rfl (x := .ref TO) rfl (wpAny_bind (wpAny_setField_rec hz (by simp) fun g1 hz1 e1 => ?_)))))
 replace hz1 : IsZip g1 z TI TO .ellipsis := hz1
 show 156
 simp only [List.zipIdx_cons, List.zipIdx_nil, List.forIn_cons, List.forIn_nil]
 show 227
 show 241
 rcases hk with hk | ⟨k1, f2, n2, P2, S2, D2, h2, az2, at2, ax2⟩
 ·subst hk
  refine ZAA (D1.done { s with heap := g1 } _ _ (YN D1 h1 e1.extBut az1) fun g2 e e2 he => ?_)
  obtain ⟨oe, hoe, hce⟩ := he
  have hz2 : IsZip g2 z TI TO .ellipsis := e2 _ _ D.i1z.symm hz1
  have hez : e ≠ z := fun q => by subst q; rw [hz2] at hoe; cases hoe; simp at hce
  exact wpAny_setField_rec hz2 (by simp) fun g3 _ e3 => hE g3 e s.toks (fun c o c1 _ c3 _ q => e3.extBut _ _ c1 (e2 _ _ c3 (e1.extBut _ _ c1 q))) ⟨oe, e3.extBut _ _ hez hoe, hce⟩
 ·refine ZAA (D1.item k { s with heap := g1 } _ _ k1 (YN D1 h1 e1.extBut az1) fun x g2 tk1 px s1 e2 => ZAC ?_)
  have to2 : IsPair g2 TO a b := e2.extBut _ _ D.TOi1 (e1.extBut _ _ D.TOz hTO)
  refine ZAA (ZAw to2 rfl (ZAA (ZB6 to2 fun g3 to3 e3 => ?_)))
  refine ZAA (ZCU (ZAC ?_))
  show 227
  show wpAny _ _ (Builtin.SmallTypes.nextOf (.ref i2) >>= _) _ _ _
  have h23 : S2 n2 g3 := YN D2 (YN D2 (YN D2 h2 e1.extBut az2) e2.extBut ax2) e3.extBut at2
  refine ZAA (D2.done { s with heap := g3, toks := tk1 } _ _ h23 fun g4 e e4 he => ?_)
  obtain ⟨oe, hoe, hce⟩ := he
  have hz4 : IsZip g4 z TI TO .ellipsis := e4 _ _ D.i2z.symm (e3.extBut _ _ D.TOz.symm (e2.extBut _ _ D.i1z.symm hz1))
  have hez : e ≠ z := fun q => by subst q; rw [hz4] at hoe; cases hoe; simp at hce
  exact wpAny_setField_rec hz4 (by simp) fun g5 _ e5 => hE g5 e tk1 (fun c o c1 c2 c3 c4 q => e5.extBut _ _ c1 (e4 _ _ c4 (e3.extBut _ _ c2 (e2.extBut _ _ c3 (e1.extBut _ _ c1 q))))) ⟨oe, e5.extBut _ _ hez hoe, hce⟩
theorem WK {Q : Option Value -> Shared -> Prop} (D1 : Draws prog w A.in1 i1 f1 n1 P1 S1) (D : ZAp z TI TO i1 i2) (az1 : z ∉ f1)
 (hz : IsZip s.heap z TI TO .none) (hTI : IsPair s.heap TI (.ref i1) (.ref i2)) (hTO : IsPair s.heap TO a b) (h1 : S1 k s.heap)
 (hk : k = n1 \/ k < n1 /\ ∃ f2 n2 P2 S2, Draws prog w A.in1 i2 f2 n2 P2 S2 /\ S2 n2 s.heap /\ z ∉ f2 /\ TO ∉ f2 /\ i1 ∉ f2)
 (hQ : ∀ h' tk, (∀ c o, c ≠ z -> c ≠ TO -> c ≠ i1 -> c ≠ i2 -> s.heap.get? c = some o -> h'.get? c = some o) -> Q none { s with heap := h', toks := tk }) : wpAny (model prog w) A (pyNext (.ref z)) Q E s := by
 show 58
 refine ZAA (ZBS (wpAny_callSpecial?_slot (name := Str.ofString "__next__") hT F.slot_zip_next
  (ZAj F.slot_zip_next hT F.entry_zip_next (Ygq D1 D az1 hz hTI hTO h1 hk fun h' e tk kp he => ?_) (F.args_zip_next_1 _))))
 obtain ⟨o, ho, hc⟩ := he
 exact ZAA (ZBp (T := "StopIteration") (b := true) ⟨o, ho, hc⟩ isSubtype_stop (ZAC (hQ h' tk kp)))
end
def Ypt (go1 go2 : Nat -> Hp -> V -> Prop) (stop1 stop2 : Nat -> Hp -> Prop) : It :=
 ⟨fun i H => ∃ x y, go1 i H x /\ go2 i H y, fun i H v H' => ∃ p, v = .ref p /\ H p = none /\ ∀ x y, go1 i H x -> go2 i H y -> H' = upd H p (.tup [x, y]), fun i H => stop1 i H \/ (∃ x, go1 i H x) /\ stop2 i H⟩
def YpS (z TI TO i1 i2 : Addr) (t1 t2 : Nat -> Heap -> Prop) (i : Nat) (h : Heap) : Prop := IsZip h z TI TO .none /\ IsPair h TI (.ref i1) (.ref i2) /\ (∃ x y, IsPair h TO x y) /\ t1 i h /\ t2 i h
def Ym5 (P' : Program) (w : World) (K : Frag) (it : Addr) (tn0 : Nat -> Heap -> Prop) (stop : Nat -> Hp -> Prop) : Prop :=
 ∀ (X : Cx), X.prog = P' -> X.w = w -> X.K = K -> X.calm = true -> ∀ i pins s σ H, Inv X pins σ H s -> Ymx X pins H it -> tn0 i s.heap -> stop i H ->
  ∃ fp n Pv St, Draws P' w X.A.in1 it fp n Pv St /\ St n s.heap /\ ∀ e, Ymx X pins H e -> e ≠ it -> e ∉ fp
theorem YfW : Ym5 P' w K it (fun i h => h.IsTupleIter it l i) (fun i H => ∃ xs, SqT K H l xs /\ i = xs.length) :=
 fun X hP hw hK hc i pins s σ H I f st ⟨xs, h1, h2⟩ => by
  show 176
  obtain ⟨its, rv, pt, _⟩ := I.tuple h1
  show 187
  have D := ZP (prog := X.prog) (w := X.w) (A := X.A.in1) (I.ok.hd hc) it l (Yan I h1 f) its.toArray
  refine ⟨_, _, _, _, D, ⟨?_, pt⟩, fun e fe hne hm => ?_⟩
  ·show 60
   exact st
  ·show 261
   rcases hm with z | z
   ·exact hne z
   ·exact Yan I h1 fe z.symm
theorem Yfg {P : Program} {t1 t2 : Nat -> Heap -> Prop} {go1 go2 : Nat -> Hp -> V -> Prop} {stop1 stop2 : Nat -> Hp -> Prop} (D : ZAp z TI TO i1 i2) (B1 : Yoa P w K i1 t1 go1 stop1) (B2 : Yoa P w K i2 t2 go2 stop2) (C1 : Ym5 P w K i1 t1 stop1) (C2 : Ym5 P w K i2 t2 stop2) :
 Turn P w K (.Tuple elts x1 tp) (Ypt go1 go2 stop1 stop2) [z, TI, TO, i1, i2] z (YpS z TI TO i1 i2 t1 t2) where
 mem := by simp
 obj := fun i h st c hc => by
  obtain ⟨h1, h2, ⟨x, y, h3⟩, h4, h5⟩ := st
  show 50
  ·exact ⟨_, h1, fun v z => by cases z⟩
  ·exact ⟨_, h2, fun v z => by cases z⟩
  ·exact ⟨_, h3, fun v z => by cases z⟩
  ·exact B1.obj i h h4
  ·exact B2.obj i h h5
 keep := fun i h h' st k => by
  obtain ⟨h1, h2, ⟨x, y, h3⟩, h4, h5⟩ := st
  exact ⟨k z (by simp) _ h1, k TI (by simp) _ h2, ⟨x, y, k TO (by simp) _ h3⟩, B1.keep i h h' h4 fun o e => k i1 (by simp) o e, B2.keep i h h' h5 fun o e => k i2 (by simp) o e⟩
 item := by
  show 75
  obtain ⟨x, y, ex, ey⟩ := hg
  show 242
  have fTI := hf TI (by simp)
  show 79
  obtain ⟨fp1, n1, P1, S1, D1, s1, k1, ap1, r1, b1⟩ := B1.item X rfl rfl rfl hc i pins s σ H x I f1 h4 ex
  obtain ⟨fp2, n2, P2, S2, D2, s2, k2, ap2, r2, b2⟩ := B2.item X rfl rfl rfl hc i pins s σ H y I f2 h5 ey
  refine Vv D1 D2 ⟨D, ap1 _ fz D.i1z.symm, ap1 _ fTO D.TOi1, ap1 _ f2 D.i12.symm, ap2 _ fz D.i2z.symm, ap2 _ fTO D.TOi2, ap2 _ f1 D.i12⟩ h1 h2 h3 s1 s2 k1 k2 fun ux uy h' tk px py a1 a2 a3 a4 a5 a6 hk => ?_
  have nT : H s.heap.objs.size = none := I.hok.fresh (ZAI _)
  have fp4 : ∀ c ∈ [z, TO, i1, i2], Ymx X pins H c := fun c hc => by
   show 51
  have notIn : ∀ {c}, c ∉ [z, TO, i1, i2] -> c ≠ z /\ c ≠ TO /\ c ≠ i1 /\ c ≠ i2 := fun {c} hc => by
   show 238
  have tr : ∀ {c u}, H c = some u -> c ≠ z /\ c ≠ TO /\ c ≠ i1 /\ c ≠ i2 := fun {c u} e => ⟨Ye e fz.1, Ye e fTO.1, Ye e f1.1, Ye e f2.1⟩
  have hns : ∀ m, s.heap.Ns X.env.locals m -> h'.Ns X.env.locals m := fun m ⟨o, es, ep, e, r⟩ => ⟨o, es, ep, hk _ o fz.2.1.symm fTO.2.1.symm f1.2.1.symm f2.2.1.symm e, r⟩
  have hok : HOk X.prog X.w (upd H s.heap.objs.size (.tup [x, y])) h' := fun c u e => by
   by_cases hb : c = s.heap.objs.size
   ·subst hb
    rw [Yn] at e
    cases e
    exact ⟨by show 2 <= sizeLine; decide, [ux, uy], .cons (r1 _ px) (.cons (r2 _ py) .nil), ⟨_, a5, rfl, _, rfl⟩⟩
   ·rw [Yf hb] at e
    refine (I.hok c u e).stay (fun c' v hc' q => ?_) (fun c' q => by rw [Yf (Ye q nT)]; exact q) fun c' xs q => by rw [Yf (Ye q nT)]; exact q
    show 250
    ·show 239
    ·obtain ⟨t1, t2, t3, t4⟩ := tr z1; exact hk _ v t1 t2 t3 t4 q
  have I1 : Inv X pins σ (upd H s.heap.objs.size (.tup [x, y])) { s with heap := h', toks := tk } :=
   I.step (h' := h') (g' := s.gens) (t' := tk) (d' := s.drawn) (ch := [z, TO, i1, i2]) (fun c hc => ⟨(fp4 c hc).2.2.2.1, (fp4 c hc).2.1, (fp4 c hc).2.2.2.2.1, (fp4 c hc).2.2.2.2.2⟩)
    (fun c o _ _ hc e _ => let ⟨t1, t2, t3, t4⟩ := notIn hc; hk c o t1 t2 t3 t4 e) (fun c o _ _ hc e _ => let ⟨t1, t2, t3, t4⟩ := notIn hc; ⟨o.slots, hk c o t1 t2 t3 t4 e⟩)
    (fun c o hc e n => by rw [Yf (ZAN (ZAG e))]; exact n) (fun c o hc e => let ⟨t1, t2, t3, t4⟩ := notIn hc; ⟨o, hk c o t1 t2 t3 t4 e⟩)
    (fun c xs q => by rw [Yf (Ye q nT)]; exact q) (fun c o u q => by rw [Yf (Ye q nT)]; exact q) (fun c ps q => ⟨#[], by rw [Yf (Ye q nT), q]; simp⟩) hns hok I.bare
  refine ⟨.ref s.heap.objs.size, rfl, ZCH (s := { s with heap := h', toks := tk }) a1 fun h'' hz'' sb => ?_⟩
  have zl : z < s.heap.objs.size := ZAG h1
  have nz1 : (upd H s.heap.objs.size (.tup [x, y])) z = none := by rw [Yf (ZAN zl)]; exact fz.1
  have I2 : Inv X pins σ (upd H s.heap.objs.size (.tup [x, y])) { s with heap := h'', toks := tk } := Inv.turned (s := { s with heap := h', toks := tk }) (it := z) I1 (fun c o hc e => (sb.2 c hc).trans e) nz1 fz.2.1 fz.2.2.2.1 fz.2.2.2.2.1 fz.2.2.2.2.2
  refine ⟨.ref s.heap.objs.size, _, I2, rfl, ⟨s.heap.objs.size, rfl, nT, fun x' y' hx' hy' => ?_⟩, ⟨hz'', (sb.2 _ D.TIz).trans (hk _ _ D.TIz D.TITO D.TIi1 D.TIi2 h2), ⟨_, _, (sb.2 _ D.TOz).trans a2⟩, B1.keep _ _ _ (b1 _ a3) fun o e => (sb.2 _ D.i1z).trans e, B2.keep _ _ _ (b2 _ a4) fun o e => (sb.2 _ D.i2z).trans e⟩, fun c hc => ?_⟩
  ·rw [B1.uniq X rfl i pins s σ H x' x I hx' ex, B2.uniq X rfl i pins s σ H y' y I hy' ey]
  ·have hlt : c < s.heap.objs.size := by
    show 50
    ·exact ZAG h1
    ·exact ZAG h2
    ·exact ZAG h3
    ·obtain ⟨_, e, _⟩ := B1.obj _ _ h4; exact ZAG e
    ·obtain ⟨_, e, _⟩ := B2.obj _ _ h5; exact ZAG e
   rw [Yf (ZAN hlt)]
   exact (hf c hc).1
 done := by
  show 75
  show 242
  show 79
  have fin : ∀ h' tk, (∀ c o, c ≠ z -> c ≠ TO -> c ≠ i1 -> c ≠ i2 -> s.heap.get? c = some o -> h'.get? c = some o) -> Inv X pins σ H { s with heap := h', toks := tk } := fun h' tk hk => by
   have fp4 : ∀ c ∈ [z, TO, i1, i2], Ymx X pins H c := fun c hc => by
    show 51
   have notIn : ∀ {c}, c ∉ [z, TO, i1, i2] -> c ≠ z /\ c ≠ TO /\ c ≠ i1 /\ c ≠ i2 := fun {c} hc => by
    show 238
   have tr : ∀ {c u}, H c = some u -> c ≠ z /\ c ≠ TO /\ c ≠ i1 /\ c ≠ i2 := fun {c u} e => ⟨Ye e fz.1, Ye e fTO.1, Ye e f1.1, Ye e f2.1⟩
   exact I.step (h' := h') (g' := s.gens) (t' := tk) (d' := s.drawn) (ch := [z, TO, i1, i2]) (fun c hc => ⟨(fp4 c hc).2.2.2.1, (fp4 c hc).2.1, (fp4 c hc).2.2.2.2.1, (fp4 c hc).2.2.2.2.2⟩)
    (fun c o _ _ hc e _ => let ⟨t1, t2, t3, t4⟩ := notIn hc; hk c o t1 t2 t3 t4 e) (fun c o _ _ hc e _ => let ⟨t1, t2, t3, t4⟩ := notIn hc; ⟨o.slots, hk c o t1 t2 t3 t4 e⟩)
    (fun c o hc e n => n) (fun c o hc e => let ⟨t1, t2, t3, t4⟩ := notIn hc; ⟨o, hk c o t1 t2 t3 t4 e⟩)
    (fun c xs q => q) (fun c o u q => q) (fun c ps q => ⟨#[], by rw [q]; simp⟩) (fun m ⟨o, es, ep, e, r⟩ => ⟨o, es, ep, hk _ o fz.2.1.symm fTO.2.1.symm f1.2.1.symm f2.2.1.symm e, r⟩)
    (fun c u e => by
     refine (I.hok c u e).stay (fun c' v hc' q => ?_) (fun c' q => q) fun c' xs q => q
     show 250
     ·show 239
     ·obtain ⟨t1, t2, t3, t4⟩ := tr z1; exact hk _ v t1 t2 t3 t4 q) I.bare
  rcases hg with hg | ⟨⟨x, ex⟩, hg⟩
  ·obtain ⟨fp1, n1, P1, S1, D1, s1, ap1⟩ := C1 X rfl rfl rfl hc i pins s σ H I f1 h4 hg
   exact WK D1 D (ap1 _ fz D.i1z.symm) h1 h2 h3 s1 (.inl rfl) fun h' tk hk => ⟨rfl, fin h' tk hk⟩
  ·obtain ⟨fp1, n1, P1, S1, D1, s1, k1, ap1, r1, b1⟩ := B1.item X rfl rfl rfl hc i pins s σ H x I f1 h4 ex
   obtain ⟨fp2, n2, P2, S2, D2, s2, ap2⟩ := C2 X rfl rfl rfl hc i pins s σ H I f2 h5 hg
   exact WK D1 D (ap1 _ fz D.i1z.symm) h1 h2 h3 s1 (.inr ⟨k1, fp2, n2, P2, S2, D2, s2, ap2 _ fz D.i2z.symm, ap2 _ fTO D.TOi2, ap2 _ f1 D.i12⟩) fun h' tk hk => ⟨rfl, fin h' tk hk⟩
 self := fun A i s Q E st h => ZBo st.1 h
section
def Ypr (xs ys : List P) : Src := ⟨xs.length, fun i _ => if i <= xs.length /\ i <= ys.length then some (Yml xs ys i) else none⟩
def YoK (ps : List P) (st : Ylo) : R Src := match ps with
 | [.ref k, .ref l] => (match listAt st k, listAt st l with
  | some xs, some _ => .ok (Ynk k l xs.length) st
  | _, _ => .bad)
 | [.tup xs, .tup ys] => .ok (Ypr xs ys) st
 | _ => .bad
end
section
variable {tg : Expr}
def Yok (lo : Int) (n : Nat) : Src := ⟨n, fun i _ => some (if i < n then some (.int (lo - i)) else none)⟩
def YnZ (ps : List P) (st : Ylo) : R Src := match ps with
 | [.int i, .int j, .int c] => if small62 i = true /\ small62 j = true /\ c = -1 then .ok (Yok i (i - j).toNat) st else .bad
 | _ => .bad
def YoD (mr : MA) : MI := fun ρ st => (mr ρ st).bind fun ps st1 => YnZ ps st1
end
@[simp] theorem Ykv {ρ : Rho} {st : Ylo} {r : MA} : YoD r ρ st = (r ρ st).bind fun ps st1 => YnZ ps st1 := rfl
@[simp] theorem Yk9 {lo : Int} {n : Nat} : (Yok lo n).n = n := rfl
@[simp] theorem YkA {lo : Int} {n i : Nat} {st : Ylo} : (Yok lo n).nx i st = some (if i < n then some (.int (lo - i)) else none) := rfl
inductive ZK where | tup (a : Addr) | lst (a : Addr) | str (z : Str)
def ZK.v : ZK -> V
 | .tup a => .ref a
 | .lst a => .ref a
 | .str z => .str z
def ZK.ok (K : Frag) (H : Hp) : ZK -> Prop
 | .tup a => ∃ xs, SqT K H a xs
 | .lst a => ∃ xs, SqL K H a xs
 | .str _ => True
def goZ (K : Frag) : ZK -> Nat -> Hp -> V -> Prop
 | .tup a => fun i H x => ∃ xs, SqT K H a xs /\ xs[i]? = some x
 | .lst a => fun i H x => ∃ xs, SqL K H a xs /\ xs[i]? = some x
 | .str z => fun i _ x => ∃ c, z.cps[i]? = some c /\ x = .str ⟨#[c]⟩
def YnM (K : Frag) : ZK -> Nat -> Hp -> Prop
 | .tup a => fun i H => ∃ xs, SqT K H a xs /\ i = xs.length
 | .lst a => fun i H => ∃ xs, SqL K H a xs /\ i = xs.length
 | .str z => fun i _ => i = z.cps.size
theorem Yfq : Ym5 P' w K it (fun i h => h.IsListIter it l i) (fun i H => ∃ xs, SqL K H l xs /\ i = xs.length) :=
 fun X hP hw hK hc i pins s σ H I f st ⟨xs, h1, h2⟩ => by
  show 176
  obtain ⟨its, rv, pt, _⟩ := I.list h1
  show 187
  have D := Draws.list (prog := X.prog) (w := X.w) (A := X.A.in1) (I.ok.hd hc) it l (YE I h1 f) its.toArray
  refine ⟨_, _, _, _, D, ⟨?_, pt.isList⟩, fun e fe hne hm => ?_⟩
  ·show 60
   exact st
  ·show 261
   rcases hm with z | z
   ·exact hne z
   ·exact YE I h1 fe z.symm
theorem YgY {z : Str} : Ym5 P' w K it (fun i h => h.IsStrIter it (strIterType z) z t i) (fun i _ => i = z.cps.size) :=
 fun X hP hw hK hc i pins s σ H I f st h1 => by
  show 176
  subst h1
  unfold strIterType at st
  split at st
  ·have D := Draws.strAscii (prog := X.prog) (w := X.w) (A := X.A.in1) (I.ok.hd hc) it z t
   exact ⟨_, _, _, _, D, st, fun e fe hne hm => hne (by simpa using hm)⟩
  ·have D := Draws.strWide (prog := X.prog) (w := X.w) (A := X.A.in1) (I.ok.hd hc) it z t
   exact ⟨_, _, _, _, D, st, fun e fe hne hm => hne (by simpa using hm)⟩
def Opn (v : Value) (o : Obj) (C : Heap -> Prop) : Prop := ∀ {prog : Program} {w : World} {A : Around} {Q : VSP} {E : VSP} {s : Shared}, C s.heap -> Q (.ref s.heap.objs.size) { s with heap := s.heap.push o } -> wpAny (model prog w) A (pyIter v) Q E s
theorem Ycx {pins : LAO} {σ : St} {k : ZK} {v : Value} (I : Inv X pins σ H s) (hk : k.ok X.K H) (rv : RelV k.v v) :
 ∃ (o : Obj) (C : Heap -> Prop) (t0 : Addr -> Nat -> Heap -> Prop), C s.heap /\ (∀ h p, C h -> C (h.push p)) /\ Opn v o C /\ (∀ it, Yoa X.prog X.w X.K it (t0 it) (goZ X.K k) (YnM X.K k)) /\ (∀ it, Ym5 X.prog X.w X.K it (t0 it) (YnM X.K k)) /\ (∀ h it, h.get? it = some o -> t0 it 0 h) /\ o.isFreed = false := by
 cases k with
 | tup a =>
  obtain ⟨xs, hx⟩ := hk
  have rv' : RelV (.ref a) v := rv
  cases rv'
  obtain ⟨its, rx, px, zx⟩ := I.tuple hx
  exact ⟨{ cls := .type "tuple_iterator", data := .fields #[.ref a, .int 0 0] }, fun h => h.IsTuple a its.toArray, fun it i h => h.IsTupleIter it a i, px, fun h p q => Heap.IsTuple.push q _, fun hc hQ => wpAny_pyIter_tuple hc hQ, fun it => Yjq, fun it => YfW, fun h it e => ⟨_, e, rfl, rfl⟩, rfl⟩
 | lst a =>
  obtain ⟨xs, hx⟩ := hk
  have rv' : RelV (.ref a) v := rv
  cases rv'
  obtain ⟨its, rx, px, zx⟩ := I.list hx
  exact ⟨{ cls := .type "list_iterator", data := .fields #[.ref a, .int 0 0] }, fun h => h.IsList a its.toArray, fun it i h => h.IsListIter it a i, px.isList, fun h p q => let ⟨o, e, r⟩ := q; ⟨o, ZAD _ e, r⟩, fun hc hQ => ZB1 hc hQ, fun it => Yjs, fun it => Yfq, fun h it e => ⟨_, e, rfl, rfl⟩, rfl⟩
 | str z =>
  obtain ⟨t, rfl⟩ : ∃ t, v = .str z t := rv
  exact ⟨{ cls := .type (strIterType z), data := .fields #[.str z t, .int 0 0] }, fun _ => True, fun it i h => h.IsStrIter it (strIterType z) z t i, trivial, fun _ _ _ => trivial, fun {_ _ _ _ _ _} _ hQ => by
   cases ha : z.cps.all (· < 128)
   ·exact wpAny_pyIter_wide ha (by simpa [strIterType, ha] using hQ)
   ·exact wpAny_pyIter_ascii ha (by simpa [strIterType, ha] using hQ), fun it => Yjy, fun it => YgY, fun h it e => ⟨_, e, rfl, rfl⟩, rfl⟩
abbrev zg1 (h : Heap) (o1 : Obj) : Heap := h.push o1
abbrev zg2 (h : Heap) (o1 o2 : Obj) : Heap := (zg1 h o1).push o2
abbrev zg3 (h : Heap) (o1 o2 : Obj) : Heap := (zg2 h o1 o2).push { cls := .type "tuple", data := .seq #[.ref h.objs.size, .ref (zg1 h o1).objs.size] }
abbrev zg4 (h : Heap) (o1 o2 : Obj) : Heap := (zg3 h o1 o2).push { cls := .type "tuple", data := .seq #[.none, .none] }
abbrev zg5 (h : Heap) (o1 o2 : Obj) : Heap := (zg4 h o1 o2).push { cls := .type "zip", data := .fields #[.none, .bool false, .bool false, .ref (zg2 h o1 o2).objs.size, .ref (zg3 h o1 o2).objs.size] }
theorem Ycq (v1 v2 : Value) (o1 o2 : Obj) (C1 C2 : Heap -> Prop) (p1 : Opn v1 o1 C1) (p2 : Opn v2 o2 C2) (c2 : ∀ h p, C2 h -> C2 (h.push p)) :
 Meets (Builtin.«zip.__new__» ⟨[.type "zip", v1, v2], []⟩) (fun _ R s => C1 s.heap /\ C2 s.heap /\ R (.ok (.ret (.ref (zg4 s.heap o1 o2).objs.size))) { s with heap := zg5 s.heap o1 o2 }) :=
 .of_wp fun prog w A R s h => by
  obtain ⟨hp, g, d, tk, os⟩ := s; obtain ⟨hl1, hl2, h⟩ := h
  have hsub := sub_zip
  have hL1 : C1 (Shared.heap ⟨hp, g, d, tk, os⟩) := hl1
  have hL2 : C2 (Shared.heap ⟨hp.push o1, g, d, tk, os⟩) := c2 _ _ hl2
  have P1 : ∀ {A : Around} {Q : VSP} {E : VSP} {s : Shared}, C1 s.heap -> Q (.ref s.heap.objs.size) { s with heap := s.heap.push o1 } -> wpAny (model prog w) A (pyIter v1) Q E s := fun h1 h2 => p1 h1 h2
  have P2 : ∀ {A : Around} {Q : VSP} {E : VSP} {s : Shared}, C2 s.heap -> Q (.ref s.heap.objs.size) { s with heap := s.heap.push o2 } -> wpAny (model prog w) A (pyIter v2) Q E s := fun h1 h2 => p2 h1 h2
  wp_walk using P1 hL1, P2 hL2
  exact ⟨_, rfl, h⟩
theorem Yaf {v1 v2 : Value} {o1 o2 : Obj} {C1 C2 : Heap -> Prop} (p1 : Opn v1 o1 C1) (p2 : Opn v2 o2 C2) (c2 : ∀ h p, C2 h -> C2 (h.push p)) (hl1 : C1 s.heap) (hl2 : C2 s.heap) (n1 : o1.isFreed = false) (n2 : o2.isFreed = false)
 (h : ∀ h', IsZip h' (s.heap.objs.size + 4) (s.heap.objs.size + 2) (s.heap.objs.size + 3) .none -> IsPair h' (s.heap.objs.size + 2) (.ref s.heap.objs.size) (.ref (s.heap.objs.size + 1)) -> IsPair h' (s.heap.objs.size + 3) .none .none ->
  h'.get? s.heap.objs.size = some o1 -> h'.get? (s.heap.objs.size + 1) = some o2 -> (∀ c o, s.heap.get? c = some o -> h'.get? c = some o) -> Q (.ref (s.heap.objs.size + 4)) { s with heap := h' }) :
 wpAny (model prog w) A (call (.type "zip") [v1, v2]) Q E s := by
 refine callType_new F.called_zip (by decide) (F.typeCall_zip_2 _ _) (F.newCall_zip_2 _ _) (fun obj => F.args_object_init_3 obj _ _) F.entry_zip_new (Ycq v1 v2 o1 o2 C1 C2 p1 p2 c2) ⟨hl1, hl2, ?_⟩
 have z1 : (zg1 s.heap o1).objs.size = s.heap.objs.size + 1 := ZAf ..
 have z2 : (zg2 s.heap o1 o2).objs.size = s.heap.objs.size + 2 := by rw [ZAf, z1]
 have z3 : (zg3 s.heap o1 o2).objs.size = s.heap.objs.size + 3 := by rw [ZAf, z2]
 have z4 : (zg4 s.heap o1 o2).objs.size = s.heap.objs.size + 4 := by rw [ZAf, z3]
 have up : ∀ {h : Heap} {c : Addr} {o p : Obj}, h.get? c = some o -> (h.push p).get? c = some o := fun e => ZAD _ e
 have g5 : (zg5 s.heap o1 o2).get? (zg4 s.heap o1 o2).objs.size = some _ := ZAH _ rfl
 have g4 : (zg5 s.heap o1 o2).get? (zg3 s.heap o1 o2).objs.size = some _ := up (ZAH _ rfl)
 have g3 : (zg5 s.heap o1 o2).get? (zg2 s.heap o1 o2).objs.size = some _ := up (up (ZAH _ rfl))
 have g2 : (zg5 s.heap o1 o2).get? (zg1 s.heap o1).objs.size = some o2 := up (up (up (ZAH _ n2)))
 have g1 : (zg5 s.heap o1 o2).get? s.heap.objs.size = some o1 := up (up (up (up (ZAH _ n1))))
 show _ /\ _
 rw [z2, z3, z4] at g5
 rw [z1, z2] at g3
 rw [z3] at g4
 rw [z1] at g2
 rw [z4]
 exact ⟨⟨_, g5, rfl⟩, h _ g5 g3 g4 g1 g2 fun c o q => up (up (up (up (up q))))⟩
section
def Ypo (K : Frag) (k1 k2 : ZK) : It := Ypt (goZ K k1) (goZ K k2) (YnM K k1) (YnM K k2)
theorem YhG {ta : TA} (hg : Gl X "zip") (hm : X.mg "zip" = none) (hv : bootBuiltins "zip" = some (.type "zip")) (ha : PA X [e, f] ta) (hs : starEach [e, f] X.env = [(false, eval e X.env), (false, eval f X.env)] := by rfl) (hs2 : starEach [f] X.env = [(false, eval f X.env)] := by rfl) :
 PI X (.Tuple elts x1 tp) (.Call (.Name "zip" p) [e, f] [] pos) (fun σ H R => ta σ H fun vs H1 => (∃ a b, vs = [.ref a, .ref b] /\ ∃ xs ys, SqL X.K H1 a xs /\ SqL X.K H1 b ys /\ R (Itz X.K a b) H1) \/ ∃ k1 k2 : ZK, vs = [k1.v, k2.v] /\ k1.ok X.K H1 /\ k2.ok X.K H1 /\ R (Ypo X.K k1 k2) H1) := by
 intro pins s σ H R I h
 refine Call_ (Z5 I hg hm hv (PyProof.Rows.callWith_type1 (thn (ha pos pins s σ H _ I h) fun us s1 ⟨vs, H1, I1, r1, q1⟩ => ?_) (by rw [hs, hs2]) (by rw [hs2]; rfl)))
 have fps : ∀ c ∈ [s1.heap.objs.size + 4, s1.heap.objs.size + 2, s1.heap.objs.size + 3, s1.heap.objs.size, s1.heap.objs.size + 1], Ymx X pins H1 c := fun c hc => by
  show 267
  have hle : s1.heap.objs.size <= c := by rcases hc with rfl | rfl | rfl | rfl | rfl <;> simp
  exact I1.fpOk hle (I1.hok.fresh hle)
 have ap : ZAp (s1.heap.objs.size + 4) (s1.heap.objs.size + 2) (s1.heap.objs.size + 3) s1.heap.objs.size (s1.heap.objs.size + 1) := by
  constructor <;> (intro z; have z' : (_ : Nat) = _ := z; omega)
 rcases q1 with ⟨a, b, rfl, xs, ys, hx, hy, q⟩ | ⟨k1, k2, rfl, o1, o2, q⟩
 ·obtain ⟨u, v, rfl, ru, rv⟩ := r1.two
  cases ru
  cases rv
  obtain ⟨its, rx, px, zx⟩ := I1.list hx
  obtain ⟨jts, ry, py, zy⟩ := I1.list hy
  refine call_zip_2 px.isList py.isList fun h' b1 b2 b3 b4 b5 b6 hk => ?_
  refine ZBo b1 ?_
  have I2 : Inv X pins σ H1 { s1 with heap := h' } := I1.kept (t' := s1.toks) hk
  exact ⟨_, _, _, _, H1, rfl, I2, YgP (a := a) (b := b) ap, ⟨b1, b2, ⟨_, _, b3⟩, b4, b5⟩, fps, q⟩
 ·obtain ⟨u, v, rfl, ru, rv⟩ := r1.two
  obtain ⟨ob1, C1, t1, c1, m1, p1, e1, s1', g1, n1⟩ := Ycx I1 o1 ru
  obtain ⟨ob2, C2, t2, c2, m2, p2, e2, s2', g2, n2⟩ := Ycx I1 o2 rv
  refine Yaf p1 p2 m2 c1 c2 n1 n2 fun h' b1 b2 b3 b4 b5 hk => ?_
  refine ZBo b1 ?_
  have I2 : Inv X pins σ H1 { s1 with heap := h' } := I1.kept (t' := s1.toks) hk
  exact ⟨_, _, _, _, H1, rfl, I2, Yfg ap (e1 _) (e2 _) (s1' _) (s2' _), ⟨b1, b2, ⟨_, _, b3⟩, g1 _ _ b4, g2 _ _ b5⟩, fps, q⟩
def rowAt (p : P) (st : Ylo) : Option (List P) := match p with
 | .tup xs => some xs
 | .str z => some (YmW z)
 | .ref k => listAt st k
 | _ => none
def Yoe (K : Frag) (as : List Addr) (H : Hp) : P -> ZK -> Prop
 | .tup xs, .tup a => Den K as H (.ref a) (.tup xs)
 | .str z, .str z' => z = z'
 | .ref j, .lst a => as[j]? = some a
 | _, _ => False
theorem YiQ {v : V} {p : P} (rp : Rep K as st H) (d : Den K as H v p) (h : rowAt p st = some xs) : ∃ k : ZK, v = k.v /\ k.ok K H /\ Yoe K as H p k := by
 cases d with
 | tup s1 d1 => exact ⟨.tup _, rfl, ⟨_, s1⟩, .tup s1 d1⟩
 | str => exact ⟨.str _, rfl, trivial, rfl⟩
 | ref e1 =>
  have h' : listAt st _ = some xs := h
  obtain ⟨vs, s1, _⟩ := Y8 rp e1 h'
  exact ⟨.lst _, rfl, ⟨_, s1⟩, e1⟩
 | _ => cases h
theorem Yg1 {as2 : List Addr} {H2 : Hp} {st2 : Ylo} {p px : P} {k : ZK} (z : Yoe K as H p k) (x : Ext as H as2 H2) (rp : Rep K as2 st2 H2) (h : rowAt p st2 = some xs) (hi : xs[i]? = some px) : ∃ v, goZ K k i H2 v /\ Den K as2 H2 v px := by
 match p, k, z with
 | .tup ys, .tup a, z =>
  cases h
  have z' : Den K as H (.ref a) (.tup xs) := z
  cases z'.ext x with
  | tup s1 d1 =>
   obtain ⟨v, g1, g2⟩ := d1.get hi
   exact ⟨v, ⟨_, s1, g1⟩, g2⟩
 | .str y, .str _, z =>
  have z' : y = _ := z
  subst z'
  have h' : YmW y = xs := Option.some.inj h
  subst h'
  unfold YmW at hi
  rw [ZAZ] at hi
  obtain ⟨c, e2, rfl⟩ := ZCS.mp hi
  exact ⟨_, ⟨c, by simpa using e2, rfl⟩, .str⟩
 | .ref j, .lst a, z =>
  have z' : as[j]? = some a := z
  have h' : listAt st2 j = some xs := h
  obtain ⟨vs, s1, d1⟩ := Y8 rp (x.pre j a z') h'
  obtain ⟨v, g1, g2⟩ := d1.get hi
  exact ⟨v, ⟨_, s1, g1⟩, g2⟩
theorem YdS {as2 : List Addr} {H2 : Hp} {st2 : Ylo} {p : P} {k : ZK} (z : Yoe K as H p k) (x : Ext as H as2 H2) (rp : Rep K as2 st2 H2) (h : rowAt p st2 = some xs) (hi : i = xs.length) : YnM K k i H2 := by
 match p, k, z with
 | .tup ys, .tup a, z =>
  cases h
  have z' : Den K as H (.ref a) (.tup xs) := z
  cases z'.ext x with
  | tup s1 d1 => exact ⟨_, s1, by rw [d1.length]; exact hi⟩
 | .str y, .str _, z =>
  have z' : y = _ := z
  subst z'
  have h' : YmW y = xs := Option.some.inj h
  subst h'
  show i = y.cps.size
  rw [hi]
  unfold YmW
  simp
 | .ref j, .lst a, z =>
  have z' : as[j]? = some a := z
  have h' : listAt st2 j = some xs := h
  obtain ⟨vs, s1, d1⟩ := Y8 rp (x.pre j a z') h'
  exact ⟨_, s1, by rw [d1.length]; exact hi⟩
def Yol (p q : P) (n : Nat) : Src := ⟨n, fun i st => match rowAt p st, rowAt q st with
 | some xs, some ys => if i <= xs.length /\ i <= ys.length then some (Yml xs ys i) else none
 | _, _ => none⟩
theorem YeC {p q : P} {k1 k2 : ZK} (ha : Yoe K as H p k1) (hb : Yoe K as H q k2) : Ynw K as H (Yol p q n) (Ypo K k1 k2) where
 go := fun i as2 st2 H2 pp x rp e => by
  have e' : (match rowAt p st2, rowAt q st2 with
   | some xs, some ys => if i <= xs.length /\ i <= ys.length then some (Yml xs ys i) else none
   | _, _ => none) = some (some pp) := e
  cases q1 : rowAt p st2 with
  | none => show 248
  | some xs =>
   cases q2 : rowAt q st2 with
   | none => show 258
   | some ys =>
    rw [q1, q2] at e'
    dsimp only at e'
    have ez : Yml xs ys i = some pp := by
     by_cases y : i <= xs.length /\ i <= ys.length
     ·rw [ZAF y] at e'; exact Option.some.inj e'
     ·rw [ZAE y] at e'; cases e'
    unfold Yml at ez
    cases r1 : xs[i]? with
    | none => rw [r1] at ez; cases ez
    | some px =>
     cases r2 : ys[i]? with
     | none => show 235
     | some py =>
      rw [r1, r2] at ez
      cases ez
      obtain ⟨v, g1, g2⟩ := Yg1 ha x rp q1 r1
      obtain ⟨w, g3, g4⟩ := Yg1 hb x rp q2 r2
      refine ⟨⟨v, w, g1, g3⟩, fun u H3 ⟨t, e1, e2, e3⟩ => ?_⟩
      have := e3 v w g1 g3
      subst this e1
      exact ⟨Ext.laid e2, rp.laid e2, .tup (.of Yn) (.cons (g2.ext (Ext.laid e2)) (.cons (g4.ext (Ext.laid e2)) .nil))⟩
 stop := fun i as2 st2 H2 x rp e => by
  have e' : (match rowAt p st2, rowAt q st2 with
   | some xs, some ys => if i <= xs.length /\ i <= ys.length then some (Yml xs ys i) else none
   | _, _ => none) = some none := e
  cases q1 : rowAt p st2 with
  | none => show 248
  | some xs =>
   cases q2 : rowAt q st2 with
   | none => show 258
   | some ys =>
    rw [q1, q2] at e'
    dsimp only at e'
    by_cases y : i <= xs.length /\ i <= ys.length
    ·rw [ZAF y] at e'
     have ez : Yml xs ys i = none := Option.some.inj e'
     unfold Yml at ez
     cases r1 : xs[i]? with
     | none =>
      have := ZAz.mp r1
      exact .inl (YdS ha x rp q1 (by omega))
     | some px =>
      cases r2 : ys[i]? with
      | none =>
       have := ZAz.mp r2
       obtain ⟨v, g1, g2⟩ := Yg1 ha x rp q1 r1
       exact .inr ⟨⟨v, g1⟩, YdS hb x rp q2 (by omega)⟩
      | some py => show 235
    ·rw [ZAE y] at e'; cases e'
def YnA : List P -> Bool
 | [.ref _, .ref _] => true
 | _ => false
def Yov (ps : List P) (st : Ylo) : R Src := match ps with
 | [p, q] => (match rowAt p st, rowAt q st with
  | some xs, some _ => .ok (Yol p q xs.length) st
  | _, _ => .bad)
 | _ => .bad
def YnK (ps : List P) (st : Ylo) : R Src := if YnA ps = true then YoK ps st else Yov ps st
def Yn5 (mr : MA) : MI := fun ρ st => (mr ρ st).bind YnK
theorem YdX {mr : MA} (hg : Gl X "zip") (hm : X.mg "zip" = none) (hv : bootBuiltins "zip" = some (.type "zip")) (ha : JA X [e, f] mr) (hs : starEach [e, f] X.env = [(false, eval e X.env), (false, eval f X.env)] := by rfl) (hs2 : starEach [f] X.env = [(false, eval f X.env)] := by rfl) :
 JI X (.Tuple elts x1 tp) (.Call (.Name "zip" p) [e, f] [] pos) (Yn5 mr) := by
 show 255
 refine YhG hg hm hv ha hs hs2 pins s σ H R I ⟨as, ρ, st, en, rp, ?_⟩
 refine YlZ.bindA h fun ps st1 as1 H1 vs x rp1 d h1 => ?_
 unfold YnK at h1
 by_cases ht : YnA ps = true
 ·rw [ZAF ht] at h1
  match ps, d, h1, ht with
  | [.ref k, .ref l], d, h1, _ =>
   obtain ⟨v, w, rfl, d1, d2⟩ := d.two
   cases d1 with
   | ref e1 =>
    cases d2 with
    | ref e2 =>
     have h2 : YlZ X as1 H1 ρ (match listAt st1 k, listAt st1 l with | some xs, some _ => .ok (Ynk k l xs.length) st1 | _, _ => .bad) R := h1
     cases q1 : listAt st1 k with
     | none => rw [q1] at h2; exact h2.elim
     | some xs =>
      cases q2 : listAt st1 l with
      | none => rw [q1, q2] at h2; exact h2.elim
      | some ys =>
       rw [q1, q2] at h2
       obtain ⟨vs, s1, _⟩ := Y8 rp1 e1 q1
       obtain ⟨ws, s2, _⟩ := Y8 rp1 e2 q2
       exact .inl ⟨_, _, rfl, vs, ws, s1, s2, h2 as1 H1 _ Ext.refl rp1 (YfN e1 e2)⟩
 ·rw [ZAE ht] at h1
  match ps, d, h1 with
  | [p, q], d, h1 =>
   obtain ⟨v, w, rfl, d1, d2⟩ := d.two
   have h2 : YlZ X as1 H1 ρ (match rowAt p st1, rowAt q st1 with | some xs, some _ => .ok (Yol p q xs.length) st1 | _, _ => .bad) R := h1
   cases q1 : rowAt p st1 with
   | none => rw [q1] at h2; exact h2.elim
   | some xs =>
    cases q2 : rowAt q st1 with
    | none => rw [q1, q2] at h2; exact h2.elim
    | some ys =>
     rw [q1, q2] at h2
     obtain ⟨k1, rfl, o1, z1⟩ := YiQ rp1 d1 q1
     obtain ⟨k2, rfl, o2, z2⟩ := YiQ rp1 d2 q2
     exact .inr ⟨k1, k2, rfl, o1, o2, h2 as1 H1 _ Ext.refl rp1 (YeC z1 z2)⟩
  | [], _, h1 => show 152
  | [_], _, h1 => show 152
  | _ :: _ :: _ :: _, _, h1 => show 152
end
section
theorem YhB {r : MA} : Yn5 r ρ st = (r ρ st).bind fun ps st1 => YnK ps st1 := rfl
theorem Yf4 {l : Nat} {ys : List P} (h1 : listAt st k = some xs) (h2 : listAt st l = some ys) : YnK [.ref k, .ref l] st = .ok (Ynk k l xs.length) st := by
 unfold YnK
 rw [ZAF (show YnA [P.ref k, P.ref l] = true from rfl)]
 unfold YoK
 show 145
 rw [h1, h2]
end
section
end
section
def Yp1 : GM := fun p ps st => match p, ps with
 | .ref k, [] => (match YlM st k with
  | some xs => (match xs[xs.length - 1]? with
   | some y => some (y, st.set k (.lst xs.dropLast))
   | none => none)
  | none => none)
 | _, _ => none
theorem Dens.dropLast {K : Frag} {as : List Addr} {H : Hp} : ∀ {vs : List V} {xs : List P}, Dens K as H vs xs -> Dens K as H vs.dropLast xs.dropLast
 | [], [], _ => .nil
 | [_], [_], _ => .nil
 | v :: v2 :: vs, x :: x2 :: xs, d => by
  cases d with
  | cons d1 d2 =>
   have ih := Dens.dropLast d2
   exact .cons d1 ih
 | [], _ :: _, d => nomatch d
 | _ :: _, [], d => nomatch d
 | [_], _ :: _ :: _, d => by cases d with | cons _ d2 => cases d2
 | _ :: _ :: _, [_], d => by cases d with | cons _ d2 => cases d2
def YmG : GM := fun p ps st => match p, ps with
 | .ref k, [.ref l] => (match YlM st k, YlM st l with
  | some xs, some ys => if xs.length + ys.length <= cap then some (.non, st.set k (.lst (xs ++ ys))) else none
  | _, _ => none)
 | _, _ => none
theorem Ya8 : MtR X "list.extend" (rMM X YmG) := mM fun pins s σ H x xs v us Q as st p ps I rx rv rp d1 d2 h => by
 match p, ps, d1, d2, h with
 | .ref k, [.ref l], d1, d2, h =>
  have h' : YlG X as H (match YlM st k, YlM st l with | some xs, some ys => if xs.length + ys.length <= cap then some (.non, st.set k (.lst (xs ++ ys))) else none | _, _ => none) Q := h
  cases z : YlM st k with
  | none => rw [z] at h'; exact h'.elim
  | some ys =>
   cases z2 : YlM st l with
   | none => rw [z, z2] at h'; exact h'.elim
   | some zs =>
    rw [z, z2] at h'
    dsimp only at h'
    obtain ⟨a, vs, rfl, e, hk, h1, h2⟩ := Vj rp d1 z
    obtain ⟨y, rfl, dy⟩ := d2.one
    obtain ⟨b, ws, rfl, e', hk', h1', h2'⟩ := Vj rp dy z2
    by_cases hl : ys.length + zs.length <= cap
    ·rw [ZAF hl] at h'
     exact Ye3 pins s σ H _ _ v us Q I rx rv ⟨a, b, vs, ws, rfl, rfl, h1, h1', by rw [h2.length, h2'.length]; exact ZAV hl Yt, h' as _ _ (Ext.write h1 trivial) (rp.lset e h1 hk (h2.append h2')) .non⟩
    ·rw [ZAE hl] at h'; exact h'.elim
 | .ref k, [.non], _, _, h => show 144
 | .ref k, [.bl _], _, _, h => show 144
 | .ref k, [.int _], _, _, h => show 144
 | .ref k, [.str _], _, _, h => show 144
 | .ref k, [.tup _], _, _, h => show 144
 | .ref k, [], _, _, h => show 144
 | .ref k, _ :: _ :: _, _, _, h => exact (by simp only [YmG] at h; exact h.elim)
 | .non, _, _, _, h => show 144
 | .bl _, _, _, _, h => show 144
 | .int _, _, _, _, h => show 144
 | .str _, _, _, _, h => show 144
 | .tup _, _, _, _, h => show 144
variable {es : Expr} {lo hi : Option Expr}
end
section
theorem J5 {l : Nat} {ys : List P} (h : st[k]? = some (.lst xs)) (h2 : st[l]? = some (.lst ys)) (hl : xs.length + ys.length <= 1000000) : YmG (.ref k) [.ref l] st = some (.non, st.set k (.lst (xs ++ ys))) := by
 have e : YlM st k = some xs := by unfold YlM; rw [h]
 have e2 : YlM st l = some ys := by unfold YlM; rw [h2]
 show (match YlM st k, YlM st l with | some xs, some ys => if xs.length + ys.length <= cap then some (P.non, st.set k (.lst (xs ++ ys))) else none | _, _ => none) = _
 rw [e, e2]
 show 145
 rw [ZAF (show xs.length + ys.length <= cap from hl)]
end
section
end
section
end
theorem Wx : entryFor table "dict.update.loop" = some Builtin.«dict.update.loop» := entryFor_of_tree (by kernel_rfl)
theorem Za : plainId "dict.update.loop" = true := by decide +kernel
section
end
section
variable {R : Result -> Shared -> Prop} {I : Addr} {fp wr : List Addr} {G : Array GenState -> Array GenState -> Prop} {P : Nat -> Value -> Prop} {St : Nat -> Shared -> Prop}
def storeAll (prs : List (Key × Value)) : List (Key × Value) := prs.foldl (fun acc p => stored acc p.1 p.2) []
theorem Yax (prs : List (Key × Value)) (p : Key × Value) : storeAll (prs ++ [p]) = stored (storeAll prs) p.1 p.2 := by simp [storeAll, List.foldl_append]
theorem Ydw (kvs : List (Key × Value)) (k : Key) (v : Value) : (stored kvs k v).length <= kvs.length + 1 := by
 unfold stored
 split
 ·simp
 ·simp
theorem Vq (prs : List (Key × Value)) : (storeAll prs).length <= prs.length := by
 have : ∀ (prs acc : List (Key × Value)), (prs.foldl (fun acc p => stored acc p.1 p.2) acc).length <= acc.length + prs.length := by
  intro prs
  induction prs with
  | nil => intro acc; simp
  | cons p r ih =>
   intro acc
   have h1 := ih (stored acc p.1 p.2)
   have h2 := Ydw acc p.1 p.2
   rw [ZAr, ZA2]
   omega
 have h := this prs []
 rw [List.length_nil, ZCd] at h
 exact h
def Ynx (prog : Program) (w : World) (P : Nat -> Value -> Prop) (no : List Addr) (prs : List (Key × Value)) (h : Heap) : Prop :=
 ∀ i v, P i v -> ∃ t k key val, v = .ref t /\ t ∉ no /\ IsTup h t #[key, val] /\ prs[i]? = some (k, val) /\ (Ylv prog w).is k key = true
theorem Ynx.keep {no : List Addr} {prs : List (Key × Value)} (x : Ynx prog w P no prs h) (k : ∀ b o, b ∉ no -> h.get? b = some o -> h'.get? b = some o) : Ynx prog w P no prs h' := fun i v hv => by
 obtain ⟨t, kk, key, val, e1, e2, ⟨o, ho, c⟩, e4, e5⟩ := x i v hv
 exact ⟨t, kk, key, val, e1, e2, ⟨o, k t o e2 ho, c⟩, e4, e5⟩
end
section
theorem PlainL.keep {xs : Array Value} (x : PlainL h a xs) (k : ∀ o, h.get? a = some o -> h'.get? a = some o) : PlainL h' a xs :=
 let ⟨o, n, e, c⟩ := x; ⟨o, n, k o e, c⟩
end
def Yoq (prs : List (Key × V)) : List (Key × V) := prs.foldl (fun acc q => L2.putK acc q.1 q.2) []
def Yn4 (prs : List (Key × P)) : List (Key × P) := prs.foldl (fun acc q => Ymp acc q.1 q.2) []
section
variable {pins : LAO} {σ : St}
theorem Yid {prs : List (Key × V)} {pv : List (Key × Value)} (r : KV prs pv) : ∀ {a : List (Key × V)} {b : List (Key × Value)}, KV a b -> KV (prs.foldl (fun acc q => L2.putK acc q.1 q.2) a) (pv.foldl (fun acc p => stored acc p.1 p.2) b) := by
 unfold KV at r
 induction r with
 | nil => exact fun h => h
 | @cons p q ps qs r1 r2 ih =>
  intro a b h
  rw [ZAr, ZAr]
  refine ih ?_
  rw [<- r1.1]
  exact KV.put h p.1 r1.2
end
section
variable {m : MA}
theorem Yg2 : ∀ {prs : List (Key × V)} {kvs : List (Key × P)} {a : List (Key × V)} {b : List (Key × P)}, prs.map (·.1) = kvs.map (·.1) -> Dens K as H (prs.map (·.2)) (kvs.map (·.2)) -> a.map (·.1) = b.map (·.1) -> Dens K as H (a.map (·.2)) (b.map (·.2)) ->
 (prs.foldl (fun acc q => L2.putK acc q.1 q.2) a).map (·.1) = (kvs.foldl (fun acc q => Ymp acc q.1 q.2) b).map (·.1) /\ Dens K as H ((prs.foldl (fun acc q => L2.putK acc q.1 q.2) a).map (·.2)) ((kvs.foldl (fun acc q => Ymp acc q.1 q.2) b).map (·.2)) := by
 intro prs
 induction prs with
 | nil =>
  intro kvs a b h1 h2 h3 h4
  cases kvs with
  | nil => exact ⟨h3, h4⟩
  | cons c d => simp at h1
 | cons q qs ih =>
  intro kvs a b h1 h2 h3 h4
  cases kvs with
  | nil => simp at h1
  | cons c d =>
   simp only [List.map_cons, List.cons.injEq] at h1
   cases h2 with
   | cons d1 d2 =>
    have := Ybv (k := q.1) d1 h3 h4
    rw [ZAr, ZAr]
    rw [h1.1] at this ⊢
    exact ih h1.2 d2 this.1 this.2
end
def Yor (k : Nat) (st : Ylo) : Option (P × Ylo) := match listAt st k with
 | some xs => (match Yna xs with
  | some ns => okP (.int ns.sum) st
  | none => none)
 | none => none
def Yow : GC := fun ps st => match ps with
 | [.ref k] => Yor k st
 | _ => none
section
theorem Yi2 (hc : X.calm = true) : Yl2 X (.builtin "sum") (rMC X Yow) := cM fun pins s σ H xs us Q as st ps I rv rp d h => by
 match ps, d, h with
 | [], _, h => show 144
 | _ :: _ :: _, _, h => exact (by simp only [Yow] at h; exact h.elim)
 | [.ref k], d, h =>
  show 245
  have h' : YlG X as H (Yor k st) Q := h
  unfold Yor at h'
  cases q : listAt st k with
  | none => show 201
  | some xs =>
   rw [q] at h'
   dsimp only at h'
   cases qi : Yna xs with
   | none => rw [qi] at h'; exact h'.elim
   | some ns =>
    rw [qi] at h'
    dsimp only at h'
    cases d1 with
    | @ref _ a e =>
     obtain ⟨vs, sq, r⟩ := Y8 rp e q
     exact YeB hc pins s σ H _ us Q I rv ⟨a, vs, ns, rfl, sq, fun us r' => YdQ r r' qi, h' as H _ Ext.refl rp .int⟩
 | [.non], _, h => show 144
 | [.bl _], _, h => show 144
 | [.int _], _, h => show 144
 | [.str _], _, h => show 144
 | [.tup _], _, h => show 144
end
theorem YaB : typeLookup (.type "zip") "keys" = pure none := by rw [typeLookup_type, builtinLookup_eq_fast]; kernel_rfl
theorem V6 : typeLookup (.type "zip") "__getattr__" = pure none := by rw [typeLookup_type, builtinLookup_eq_fast]; kernel_rfl
theorem Wn : entryFor table "zip.__getattribute__" = some Builtin.«object.__getattribute__» :=
 entryFor_alias (id' := "object.__getattribute__") (by kernel_rfl) (by decide +kernel) (by decide +kernel) (by kernel_rfl)
theorem JU (a : Addr) (fs : Array Value) (name : Str) (u : Tok) (hmiss : typeLookup (.type "zip") name = pure none) (hname : (["__module__", "__name__", "__qualname__", "__doc__", "__annotations__"] : List Str).contains name = false) (hsz : name.length + 100 <= sizeLine := by size_fits) :
 Meets (Builtin.«object.__getattribute__» ⟨[.ref a, .str name u], []⟩) (fun A R s => s.heap.get? a = some { cls := .type "zip", dict := none, data := .fields fs, slots := #[] } /\ raisesAttr (.ref a) name A R s) :=
 Meets.of_wp fun prog w A R s hs => by
  obtain ⟨hp, g, d, tk, os⟩ := s
  obtain ⟨hx, hs⟩ := hs
  have hT : (⟨hp, g, d, tk, os⟩ : Shared).TypeIs (.ref a) "zip" := ⟨_, hx, rfl⟩
  unfold Builtin.«object.__getattribute__»
  show 182
  simp only [hname, Bool.false_eq_true, if_false]
  show 182
  exact wpAny_raiseAttrError hs.1 hs.2 (attrMsg_fits (by decide +kernel) hsz)
section
theorem J3 {fs : Array Value} {Q : Option Value -> Shared -> Prop} (hx : s.heap.get? a = some { cls := .type "zip", dict := none, data := .fields fs, slots := #[] }) (hA : A.handled = none)
 (h : ∀ h' tk, (∀ b o, s.heap.get? b = some o -> h'.get? b = some o) -> Q none { s with heap := h', toks := tk }) : wpAny (model prog w) A (getAttr? (.ref a) "keys") Q E s := by
 obtain ⟨hp, g, d, tk, os⟩ := s
 have hT : ∀ tk', (⟨hp, g, d, tk', os⟩ : Shared).TypeIs (.ref a) "zip" := fun _ => ⟨_, hx, rfl⟩
 have f1 := sub_AttributeError
 have f3 := F.slot_zip_getattribute.lookup
 have f4 := F.slot_zip_getattribute.bind (.ref a)
 have f5 := V6
 unfold getAttr? getAttrBy? getAttrBy
 repeat (any_goals (first | assumption | exact hT _ | ((with_reducible show wpAny _ _ (call (Value.builtin "zip.__getattribute__") _ _) _ _ _); refine call_meets F.slot_zip_getattribute (hT _) Wn (F.args_zip_getattribute_2 _ _) (JU a fs "keys" _ YaB (by decide +kernel)) ⟨hx, hA, fun h' tk' e hx' => ?_⟩) | wp_step))
 obtain ⟨t', u', he⟩ := hx'.there
 show wpAny _ _ (getattributeRaised _ _ _ _ _ _ _) _ _ _
 unfold getattributeRaised
 show 182
 exact h _ _ hx'.keeps
abbrev YmA (h : Heap) (z TI TO a : Addr) (f : Bool) : Prop := h.get? z = some { cls := .type "zip", dict := none, data := .fields #[rawInt a, .bool f, .bool false, .ref TI, .ref TO], slots := #[] }
theorem YaG {M : Model} {Q : Option Obj -> Shared -> Prop} (h : Q (s.heap.get? a) s) : wpAny M A (loadIfAlive a) Q E s := fun _ _ _ => h
theorem busy {f : Bool} {Q : Bool -> Shared -> Prop} (hz : YmA s.heap z TI TO a f) (ha : ∃ o, s.heap.get? a = some o) (hQ : ∀ h', YmA h' z TI TO a true -> Heap.SameBut z s.heap h' -> Q false { s with heap := h' }) : wpAny (model prog w) A (Builtin.SmallTypes.ownedTupleIsFree (.ref z)) Q E s := by
 unfold Builtin.SmallTypes.ownedTupleIsFree
 refine ZAA (ZAn hz rfl (x := rawInt a) rfl ?_)
 show wpAny _ _ (loadIfAlive a >>= _) _ _ _
 obtain ⟨o, ho⟩ := ha
 refine ZAA (YaG ?_)
 rw [ho]
 show wpAny _ _ (field (.ref z) 1 >>= _) _ _ _
 refine ZAA (ZAn hz rfl (x := .bool f) rfl ?_)
 cases f with
 | true => exact ZAC (hQ s.heap hz ⟨rfl, fun _ _ => rfl⟩)
 | false =>
  show wpAny _ _ (setField (.ref z) 1 (.bool true) >>= _) _ _ _
  exact wpAny_bind (wpAny_setField_rec hz (by simp) fun g1 hz1 e1 => wpAny_pure (hQ g1 hz1 e1))
end
section
variable {al : Addr} {fl : Bool} {n1 n2 : Nat}
theorem Yes (D1 : Draws prog w A i1 f1 n1 P1 S1) (D2 : Draws prog w A i2 f2 n2 P2 S2) (D : Yn9 z TI TO i1 i2 f1 f2)
 (hz : YmA s.heap z TI TO al fl) (ha : ∃ o, s.heap.get? al = some o) (hTI : IsPair s.heap TI (.ref i1) (.ref i2)) (h1 : S1 k s.heap) (h2 : S2 k s.heap) (k1 : k < n1) (k2 : k < n2)
 (hQ : ∀ x y h' tk, P1 k x -> P2 k y -> YmA h' z TI TO al true -> S1 (k + 1) h' -> S2 (k + 1) h' -> IsPair h' s.heap.objs.size x y -> h'.objs.size = s.heap.objs.size + 1 ->
  (∀ c o, c ≠ z -> c ≠ i1 -> c ≠ i2 -> s.heap.get? c = some o -> h'.get? c = some o) -> Q (.ref s.heap.objs.size) { s with heap := h', toks := tk }) :
 wpAny (model prog w) A (Builtin.«zip.__next__» ⟨[.ref z], []⟩) (fun fin s' => ∃ v, fin = .done (.ret v) /\ Q v s') E s := by
 show 77
 refine ZAA (busy hz ha fun g1 hz1 e1 => ?_)
 show 256
 rw [<- Array.forIn_toList]
 simp only [List.forIn_cons, List.forIn_nil]
 refine ZAA (ZAA (ZAA (ZAi ?_)))
 show 241
 refine ZAA (D1.item k { s with heap := g1 } _ _ k1 (YN D1 h1 e1.extBut D.z1) fun x g2 tk1 px s1 e2 => ZAC (ZAC ?_))
 refine ZAA (ZAA (ZAi ?_))
 show wpAny _ _ (Builtin.SmallTypes.nextOf (.ref i2) >>= _) _ _ _
 refine ZAA (D2.item k { s with heap := g2, toks := tk1 } _ _ k2 (YN D2 (YN D2 h2 e1.extBut D.z2) e2.extBut D.x2) fun y g3 tk2 py s2 e3 => ZAC (ZAC ?_))
 show 170
 show wpAny _ _ (newTuple [x, y] >>= _) _ _ _
 refine ZAA (wpAny_newTuple ?_)
 have sz : g3.objs.size = s.heap.objs.size := by rw [e3.1, e2.1, e1.1]
 have hz3 : YmA g3 z TI TO al true := e3.extBut _ _ D.ap.i2z.symm (e2.extBut _ _ D.ap.i1z.symm hz1)
 have kp : ∀ c o, c ≠ z -> c ≠ i1 -> c ≠ i2 -> s.heap.get? c = some o -> g3.get? c = some o := fun c o c1 c2 c3 e => e3.extBut _ _ c3 (e2.extBut _ _ c2 (e1.extBut _ _ c1 e))
 have s13 : S1 (k + 1) g3 := YN D1 s1 e3.extBut D.x1
 refine ZAC ⟨_, rfl, ?_⟩
 show Q (.ref g3.objs.size) _
 rw [sz]
 have hp : ∀ c o, g3.get? c = some o -> (g3.push { cls := .type "tuple", data := .seq #[x, y] }).get? c = some o := fun c o e => ZAD _ e
 have ht : IsPair (g3.push { cls := .type "tuple", data := .seq #[x, y] }) s.heap.objs.size x y := by rw [<- sz]; exact ZAH _ rfl
 exact hQ x y _ tk2 px py (hp _ _ hz3) (D1.frame _ _ _ s13 fun c _ o e => hp c o e) (D2.frame _ _ _ s2 fun c _ o e => hp c o e) ht (by rw [ZAf, sz]) fun c o c1 c2 c3 e => hp c o (kp c o c1 c2 c3 e)
theorem YbN {Q : Option Value -> Shared -> Prop} (D1 : Draws prog w A.in1 i1 f1 n1 P1 S1) (D2 : Draws prog w A.in1 i2 f2 n2 P2 S2) (D : Yn9 z TI TO i1 i2 f1 f2)
 (hz : YmA s.heap z TI TO al fl) (ha : ∃ o, s.heap.get? al = some o) (hTI : IsPair s.heap TI (.ref i1) (.ref i2)) (h1 : S1 k s.heap) (h2 : S2 k s.heap) (k1 : k < n1) (k2 : k < n2)
 (hQ : ∀ x y h' tk, P1 k x -> P2 k y -> YmA h' z TI TO al true -> S1 (k + 1) h' -> S2 (k + 1) h' -> IsPair h' s.heap.objs.size x y -> h'.objs.size = s.heap.objs.size + 1 ->
  (∀ c o, c ≠ z -> c ≠ i1 -> c ≠ i2 -> s.heap.get? c = some o -> h'.get? c = some o) -> Q (some (.ref s.heap.objs.size)) { s with heap := h', toks := tk }) :
 wpAny (model prog w) A (pyNext (.ref z)) Q E s := by
 show 58
 exact ZAA (ZBS (wpAny_callSpecial?_slot (name := Str.ofString "__next__") hT F.slot_zip_next
  (ZAj F.slot_zip_next hT F.entry_zip_next
   (Yes D1 D2 D hz ha hTI h1 h2 k1 k2 fun x y h' tk c1 c2 a1 a2 a3 a4 a5 a6 => ZAC (hQ x y h' tk c1 c2 a1 a2 a3 a4 a5 a6)) (F.args_zip_next_1 _))))
theorem Yf2 {Q : Fin -> Shared -> Prop} (D1 : Draws prog w A i1 f1 n1 P1 S1) (D : ZAp z TI TO i1 i2) (az1 : z ∉ f1)
 (hz : YmA s.heap z TI TO al fl) (ha : ∃ o, s.heap.get? al = some o) (hTI : IsPair s.heap TI (.ref i1) (.ref i2)) (h1 : S1 n1 s.heap)
 (hE : ∀ h' e, (∀ c o, c ≠ z -> c ≠ i1 -> c ≠ i2 -> s.heap.get? c = some o -> h'.get? c = some o) -> (∃ o, h'.get? e = some o /\ o.cls = .type "StopIteration") -> E (.ref e) { s with heap := h' }) :
 wpAny (model prog w) A (Builtin.«zip.__next__» ⟨[.ref z], []⟩) Q E s := by
 show 77
 refine ZAA (busy hz ha fun g1 hz1 e1 => ?_)
 show 256
 rw [<- Array.forIn_toList]
 simp only [List.forIn_cons, List.forIn_nil]
 refine ZAA (ZAA (ZAA (ZAi ?_)))
 show 241
 refine ZAA (D1.done { s with heap := g1 } _ _ (YN D1 h1 e1.extBut az1) fun g2 e e2 he => ?_)
 exact hE g2 e (fun c o c1 c2 c3 q => e2 _ _ c2 (e1.extBut _ _ c1 q)) he
theorem Yb0 {Q : Option Value -> Shared -> Prop} (D1 : Draws prog w A.in1 i1 f1 n1 P1 S1) (D : ZAp z TI TO i1 i2) (az1 : z ∉ f1)
 (hz : YmA s.heap z TI TO al fl) (ha : ∃ o, s.heap.get? al = some o) (hTI : IsPair s.heap TI (.ref i1) (.ref i2)) (h1 : S1 n1 s.heap)
 (hQ : ∀ h', (∀ c o, c ≠ z -> c ≠ i1 -> c ≠ i2 -> s.heap.get? c = some o -> h'.get? c = some o) -> Q none { s with heap := h' }) : wpAny (model prog w) A (pyNext (.ref z)) Q E s := by
 show 58
 refine ZAA (ZBS (wpAny_callSpecial?_slot (name := Str.ofString "__next__") hT F.slot_zip_next
  (ZAj F.slot_zip_next hT F.entry_zip_next (Yf2 D1 D az1 hz ha hTI h1 fun h' e kp he => ?_) (F.args_zip_next_1 _))))
 obtain ⟨o, ho, hc⟩ := he
 exact ZAA (ZBp (T := "StopIteration") (b := true) ⟨o, ho, hc⟩ isSubtype_stop (ZAC (hQ h' kp)))
def ZSt (z TI TO i1 i2 : Addr) (lo : Addr) (S1 S2 : Nat -> Heap -> Prop) (i : Nat) (h : Heap) : Prop :=
 (IsZip h z TI TO .none \/ ∃ a f, YmA h z TI TO a f /\ lo <= a /\ ∃ o, h.get? a = some o) /\ IsPair h TI (.ref i1) (.ref i2) /\ (∃ x y, IsPair h TO x y) /\ S1 i h /\ S2 i h
theorem Yg3 {Q : Option Value -> Shared -> Prop} {lo : Addr} (D1 : Draws prog w A.in1 i1 f1 n1 P1 S1) (D2 : Draws prog w A.in1 i2 f2 n2 P2 S2) (D : Yn9 z TI TO i1 i2 f1 f2) (hlo : lo <= s.heap.objs.size) (lz : z < lo) (l1 : i1 < lo) (l2 : i2 < lo)
 (st : ZSt z TI TO i1 i2 lo S1 S2 k s.heap) (k1 : k < n1) (k2 : k < n2)
 (hQ : ∀ x y h' tk, P1 k x -> P2 k y -> ZSt z TI TO i1 i2 lo S1 S2 (k + 1) h' -> IsPair h' s.heap.objs.size x y -> h'.objs.size = s.heap.objs.size + 1 ->
  (∀ c o, c ≠ z -> c ≠ TO -> c ≠ i1 -> c ≠ i2 -> s.heap.get? c = some o -> h'.get? c = some o) -> Q (some (.ref s.heap.objs.size)) { s with heap := h', toks := tk }) :
 wpAny (model prog w) A (pyNext (.ref z)) Q E s := by
 obtain ⟨hz, hTI, ⟨u, v, hTO⟩, h1, h2⟩ := st
 rcases hz with hz | ⟨a, f, hz, la, ha⟩
 ·refine Vv D1 D2 D hz hTI hTO h1 h2 k1 k2 fun x y h' tk p1 p2 b1 b2 b3 b4 b5 b6 kp => hQ x y h' tk p1 p2 ⟨.inr ⟨s.heap.objs.size, false, b1, hlo, _, b5⟩, kp _ _ D.ap.TIz D.ap.TITO D.ap.TIi1 D.ap.TIi2 hTI, ⟨_, _, b2⟩, b3, b4⟩ b5 b6 kp
 ·obtain ⟨o, ho⟩ := ha
  refine YbN D1 D2 D hz ⟨o, ho⟩ hTI h1 h2 k1 k2 fun x y h' tk p1 p2 b1 b3 b4 b5 b6 kp => hQ x y h' tk p1 p2 ⟨.inr ⟨a, true, b1, la, ?_⟩, kp _ _ D.ap.TIz D.ap.TIi1 D.ap.TIi2 hTI, ⟨_, _, kp _ _ D.ap.TOz D.ap.TOi1 D.ap.TOi2 hTO⟩, b3, b4⟩ b5 b6 fun c o c1 _ c3 c4 e => kp c o c1 c3 c4 e
  exact ⟨o, kp a o (ZA6 (ZAP lz la)) (ZA6 (ZAP l1 la)) (ZA6 (ZAP l2 la)) ho⟩
theorem Yh9 {Q : Option Value -> Shared -> Prop} {lo : Addr} (D1 : Draws prog w A.in1 i1 f1 n1 P1 S1) (D : ZAp z TI TO i1 i2) (az1 : z ∉ f1) (st : ZSt z TI TO i1 i2 lo S1 S2 n1 s.heap)
 (hQ : ∀ h' tk, (∀ c o, c ≠ z -> c ≠ TO -> c ≠ i1 -> c ≠ i2 -> s.heap.get? c = some o -> h'.get? c = some o) -> Q none { s with heap := h', toks := tk }) : wpAny (model prog w) A (pyNext (.ref z)) Q E s := by
 obtain ⟨hz, hTI, ⟨u, v, hTO⟩, h1, h2⟩ := st
 rcases hz with hz | ⟨a, f, hz, la, ha⟩
 ·exact WK D1 D az1 hz hTI hTO h1 (.inl rfl) hQ
 ·exact Yb0 D1 D az1 hz ha hTI h1 fun h' kp => hQ h' s.toks fun c o c1 _ c3 c4 e => kp c o c1 c3 c4 e
theorem ZSt.keep {lo : Addr} {d : Addr} (D1 : Draws prog w A i1 f1 n1 P1 S1) (D2 : Draws prog w A i2 f2 n2 P2 S2) (st : ZSt z TI TO i1 i2 lo S1 S2 i h) (e : ∀ b o, b ≠ d -> h.get? b = some o -> h'.get? b = some o) (dz : z ≠ d) (dTI : TI ≠ d) (dTO : TO ≠ d) (d1 : d ∉ f1) (d2 : d ∉ f2) (dl : d < lo) : ZSt z TI TO i1 i2 lo S1 S2 i h' := by
 obtain ⟨hz, hTI, ⟨u, v, hTO⟩, h1, h2⟩ := st
 refine ⟨?_, e _ _ dTI hTI, ⟨u, v, e _ _ dTO hTO⟩, D1.frame _ _ _ h1 fun b hb o q => e b o (fun z => d1 (z ▸ hb)) q, D2.frame _ _ _ h2 fun b hb o q => e b o (fun z => d2 (z ▸ hb)) q⟩
 rcases hz with hz | ⟨a, f, hz, la, o, ho⟩
 ·exact .inl (e _ _ dz hz)
 ·exact .inr ⟨a, f, e _ _ dz hz, la, o, e a o (ZA6 (ZAP dl la)) ho⟩
end
section
variable {R : Result -> Shared -> Prop}
theorem J6 {prs : List (Key × Value)} (D1 : Draws prog w A.in1.in1 i1 f1 prs.length P1 S1) (D2 : Draws prog w A.in1.in1 i2 f2 prs.length P2 S2) (D : Yn9 z TI TO i1 i2 f1 f2) (d lo : Addr) (dz : z ≠ d) (dTI : TI ≠ d) (dTO : TO ≠ d) (di1 : i1 ≠ d) (di2 : i2 ≠ d) (d1 : d ∉ f1) (d2 : d ∉ f2) (dl : d < lo) (lz : z < lo) (l1 : i1 < lo) (l2 : i2 < lo)
 (hp : ∀ i x y, P1 i x -> P2 i y -> ∃ k, prs[i]? = some (k, y) /\ (Ylv prog w).is k x = true) (hb : prs.length <= sizeLine) :
 ∀ (k i : Nat) (s : Shared) (c : Int) (u : Tok), prs.length - i = k -> i <= prs.length -> lo <= s.heap.objs.size -> ZSt z TI TO i1 i2 lo S1 S2 i s.heap -> s.heap.DictOf (Ylv prog w) d (storeAll (prs.take i)) ->
  (∀ h' tk, h'.DictOf (Ylv prog w) d (storeAll prs) -> (∀ b o, b ≠ d -> b ≠ z -> b ≠ TO -> b ≠ i1 -> b ≠ i2 -> s.heap.get? b = some o -> h'.get? b = some o) -> R (.ok (.ret .none)) { s with heap := h', toks := tk }) -> codeAny (model prog w) A (.builtin "dict.update.loop" ⟨[.ref d, .ref z, .int c u, .none], []⟩) R s := by
 intro k
 induction k with
 | zero =>
  intro i s c u hk hi hlo hst D0 hR
  have e : i = prs.length := by omega
  subst e
  rw [ZAo] at D0
  refine codeAny_builtin Wx ?_
  rw [Around.under_plainId Za _]
  show wpAny _ A.in1 (pyNext (.ref z) >>= _) _ _ s
  refine ZAA (Yh9 D1 D.ap D.z1 hst fun h' tk kp => ?_)
  show wpAny _ A.in1 (Builtin.Dict.addKeywords d [] >>= _) _ _ _
  show 218
  show wpAny _ A.in1 (ret Value.none) _ _ _
  obtain ⟨o, es, ep, ho, r⟩ := D0
  exact ZAC (hR h' tk ⟨o, es, ep, kp d o dz.symm dTO.symm di1.symm di2.symm ho, r⟩ fun b o b0 b1 b2 b3 b4 e => kp b o b1 b2 b3 b4 e)
 | succ k ih =>
  intro i s c u hk hi hlo hst D0 hR
  have hlt : i < prs.length := by omega
  refine codeAny_builtin Wx ?_
  rw [Around.under_plainId Za _]
  show wpAny _ A.in1 (pyNext (.ref z) >>= _) _ _ s
  refine ZAA (Yg3 D1 D2 D hlo lz l1 l2 hst hlt hlt fun x y h' tk p1 p2 st' ht hsz kp => ?_)
  obtain ⟨kk, hpr, hkey⟩ := hp i x y p1 p2
  have D' : h'.DictOf (Ylv prog w) d (storeAll (prs.take i)) := by
   obtain ⟨o, es, ep, ho, r⟩ := D0
   exact ⟨o, es, ep, kp d o dz.symm dTO.symm di1.symm di2.symm ho, r⟩
  have hT : Shared.TypeIs { s with heap := h', toks := tk } (.ref s.heap.objs.size) "tuple" := ⟨_, ht, rfl⟩
  show wpAny _ A.in1 (holding [Value.ref s.heap.objs.size] _ >>= _) _ _ _
  refine ZAA (ZAi ?_)
  refine ZAA (wpAny_tryCatch ?_)
  unfold Builtin.Dict.pairItems
  refine ZAA (ZBW hT ?_)
  show 223
  refine ZAA (ZAw ht rfl ?_)
  show 170
  show wpAny _ A.in1 (holding [x, y] (dictSet d x y)) _ _ _
  have room : (storeAll (prs.take i)).length <= sizeLine := by
   have := Vq (prs.take i)
   rw [ZAm] at this
   omega
  refine ZAi (wpAny_dictSet_pairs hkey D' (fun h2 D2' sb => ?_) room)
  have D3 : h2.DictOf (Ylv prog w) d (storeAll (prs.take (i + 1))) := by
   rw [ZCE, hpr]
   simp only [Option.toList_some]
   rw [Yax]
   exact D2'
  have sk : ∀ b o, b ≠ d -> h'.get? b = some o -> h2.get? b = some o := fun b o hb e => by rw [sb.2 b hb]; exact e
  refine ZAC ⟨plainId_quiet Za _, ih (i + 1) _ _ _ (by omega) hlt ?_ (ZSt.keep D1 D2 st' sk dz dTI dTO d1 d2 dl) D3 fun h3 tk3 D4 k3 => ?_⟩
  ·show lo <= h2.objs.size
   rw [sb.1, hsz]
   exact Nat.le_succ_of_le hlo
  ·exact hR h3 tk3 D4 fun b o b0 b1 b2 b3 b4 e => k3 b o b0 b1 b2 b3 b4 (sk b o b0 (kp b o b1 b2 b3 b4 e))
end
section
theorem Yed (hh : A.handled = none) (it : Addr) (x : Str) (t : Tok) : Draws prog w A it [it] x.cps.size (fun i v => ∃ c u, x.cps[i]? = some c /\ v = .str ⟨#[c]⟩ u) (fun i h => h.IsStrIter it (strIterType x) x t i) := by
 unfold strIterType
 split
 ·exact Draws.strAscii hh it x t
 ·exact Draws.strWide hh it x t
theorem YbM {zs : Str} {its : Array Value} {prs : List (Key × Value)} (hh : A.handled = none) (D : ZAp z TI TO i1 i2) (hz : IsZip s.heap z TI TO .none) (hTI : IsPair s.heap TI (.ref i1) (.ref i2)) (hTO : IsPair s.heap TO .none .none)
 (h1 : s.heap.IsStrIter i1 (strIterType zs) zs t 0) (h2 : s.heap.IsTupleIter i2 a 0) (ha : s.heap.IsTuple a its) (az : z ≠ a) (aTO : TO ≠ a) (a1 : i1 ≠ a) (a2 : a ≠ i2) (hn1 : zs.cps.size = prs.length) (hn2 : its.size = prs.length)
 (hp : ∀ (i : Nat) c y, zs.cps[i]? = some c -> its[i]? = some y -> prs[i]? = some (.inr ⟨#[c]⟩, y)) (hb : prs.length <= sizeLine)
 (h : ∀ h' tk, h'.DictOf (Ylv prog w) s.heap.objs.size (storeAll prs) -> (∀ b o, b ≠ z -> b ≠ TO -> b ≠ i1 -> b ≠ i2 -> s.heap.get? b = some o -> h'.get? b = some o) -> Q (.ref s.heap.objs.size) { s with heap := h', toks := tk }) :
 wpAny (model prog w) A (call (.type "dict") [.ref z]) Q E s := by
 refine callType_codes (Q₁ := fun obj s₁ => obj = .ref s.heap.objs.size /\ s₁ = { s with heap := s.heap.push { cls := .type "dict", data := .dict #[] } }) F.kt_called_dict (F.kt_typeCall_dict_1 _) F.entry_dict_init (kt_code_dict_new _ ⟨rfl, rfl⟩) ?_
 rintro obj s₁ ⟨rfl, rfl⟩
 have hnew : (s.heap.push { cls := .type "dict", data := .dict #[] }).DictOf (Ylv prog w) s.heap.objs.size [] := Heap.DictOf.new s.heap
 have up : ∀ b o, s.heap.get? b = some o -> (s.heap.push { cls := .type "dict", data := .dict #[] }).get? b = some o := fun b o e => ZAD _ e
 have hzT : Shared.TypeIs { s with heap := s.heap.push { cls := .type "dict", data := .dict #[] } } (.ref z) "zip" := ⟨_, up _ _ hz, rfl⟩
 have lz : z < s.heap.objs.size := ZAG hz
 have lTI : TI < s.heap.objs.size := ZAG hTI
 have lTO : TO < s.heap.objs.size := ZAG hTO
 have l1 : i1 < s.heap.objs.size := by obtain ⟨o, e, _⟩ := h1; exact ZAG e
 have l2 : i2 < s.heap.objs.size := by obtain ⟨o, e, _⟩ := h2; exact ZAG e
 have la : a < s.heap.objs.size := by obtain ⟨o, e, _⟩ := ha; exact ZAG e
 refine ⟨hnew.typeIs, F.args_dict_init_2 _ _, ?_⟩
 unfold Builtin.«dict.__init__»
 show 156
 unfold Builtin.Dict.selfAndRest
 refine ZAA (wpAny_notOrdered_dict hnew.typeIs ?_)
 show wpAny _ _ (pure (s.heap.objs.size, [Value.ref z])) _ _ _
 show 170
 show wpAny _ _ (Builtin.Dict.updateFrom "dict.__init__" s.heap.objs.size (.ref z) [] .none) _ _ _
 unfold Builtin.Dict.updateFrom
 refine ZAA (ZBW hzT ?_)
 show 223
 refine wpAny_bind (J3 (up _ _ hz) (by simp [hh]) fun hA tkA kA => ?_)
 rw [ZAF (show (none : Option Value).isNone = true from rfl)]
 refine ZAA (ZBn ?_)
 have up2 : ∀ b o, s.heap.get? b = some o -> hA.get? b = some o := fun b o e => kA b o (up b o e)
 refine ZAA (ZBo (up2 _ _ hz) ?_)
 have hd1 : hA.DictOf (Ylv prog w) s.heap.objs.size [] := by
  obtain ⟨o, es, ep, ho, r⟩ := hnew
  exact ⟨o, es, ep, kA _ _ ho, r⟩
 have sz : s.heap.objs.size < hA.objs.size := by
  obtain ⟨o, es, ep, ho, r⟩ := hd1
  exact ZAG ho
 have G1 := Yed (prog := prog) (w := w) (A := A.in1.in1.in1) (by simp [hh]) i1 zs t
 rw [hn1] at G1
 have G2 := ZP (prog := prog) (w := w) (A := A.in1.in1.in1) (by simp [hh]) i2 a a2 its
 rw [hn2] at G2
 refine ZAC ⟨plainId_quiet Za _, J6 (A := A.in1) G1 G2 ⟨D, ?_, ?_, ?_, ?_, ?_, ?_⟩ s.heap.objs.size (s.heap.objs.size + 1) (ZAN lz) (ZAN lTI) (ZAN lTO) (ZAN l1) (ZAN l2) ?_ ?_ (ZAx _) (ZAv lz) (ZAv l1) (ZAv l2) ?_ hb (prs.length - 0) 0 _ _ _ (by omega) (ZBN _) sz ?_ hd1 ?_⟩
 ·simpa using D.i1z.symm
 ·simpa using D.TOi1
 ·simpa using D.i12.symm
 ·simp only [List.mem_cons, List.not_mem_nil, or_false, not_or]; exact ⟨D.i2z.symm, az⟩
 ·simp only [List.mem_cons, List.not_mem_nil, or_false, not_or]; exact ⟨D.TOi2, aTO⟩
 ·simp only [List.mem_cons, List.not_mem_nil, or_false, not_or]; exact ⟨D.i12, a1⟩
 ·simpa using Nat.ne_of_gt l1
 ·simp only [List.mem_cons, List.not_mem_nil, or_false, not_or]; exact ⟨Nat.ne_of_gt l2, Nat.ne_of_gt la⟩
 ·rintro i x y ⟨c, u, hc, rfl⟩ hy
  refine ⟨_, hp i c y hc hy, ?_⟩
  show Value.isStrOf ⟨#[c]⟩ (.str ⟨#[c]⟩ u) = true
  simp [Value.isStrOf]
 ·refine ⟨.inl (up2 _ _ hz), up2 _ _ hTI, ⟨_, _, up2 _ _ hTO⟩, ?_, ?_⟩
  ·obtain ⟨o, e, r⟩ := h1; exact ⟨o, up2 _ _ e, r⟩
  ·obtain ⟨o, e, r⟩ := h2
   obtain ⟨o', e', r'⟩ := ha
   exact ⟨⟨o, up2 _ _ e, r⟩, ⟨o', up2 _ _ e', r'⟩⟩
 ·intro h3 tk3 D3 k3
  exact ⟨rfl, h h3 tk3 D3 fun b o b1 b2 b3 b4 e => k3 b o (ZAN (ZAG e)) b1 b2 b3 b4 (up2 b o e)⟩
end
def keyz {α : Type} (cs : List Nat) (ws : List α) : List (Key × α) := (cs.zip ws).map fun q => (.inr ⟨#[q.1]⟩, q.2)
theorem VF {α : Type} {cs : List Nat} {ws : List α} (h : cs.length = ws.length) : (keyz cs ws).length = ws.length := by unfold keyz; rw [List.length_map, List.length_zip]; omega
theorem YiI {α : Type} {cs : List Nat} {ws : List α} {c : Nat} {y : α} (h1 : cs[i]? = some c) (h2 : ws[i]? = some y) : (keyz cs ws)[i]? = some (.inr ⟨#[c]⟩, y) := by
 unfold keyz
 rw [ZAZ, List.zip, List.getElem?_zipWith, h1, h2]
 rfl
theorem Yd1 : ∀ {cs : List Nat} {ws : List V} {its : List Value}, Vals ws its -> KV (keyz cs ws) (keyz cs its)
 | [], _, _, _ => .nil
 | _ :: _, _, _, .nil => .nil
 | c :: cs, _, _, .cons r t => .cons ⟨rfl, r⟩ (Yd1 t)
section
variable {pos2 : Pos}
theorem Yc9 {ta : TA} (hc : X.calm = true) (hgd : Gl X "dict") (hmd : X.mg "dict" = none) (hvd : bootBuiltins "dict" = some (.type "dict")) (hgz : Gl X "zip") (hmz : X.mg "zip" = none) (hvz : bootBuiltins "zip" = some (.type "zip")) (ha : PA X [e, f] ta)
 (hs1 : starEach [.Call (.Name "zip" p2) [e, f] [] pos2] X.env = (false, eval (.Call (.Name "zip" p2) [e, f] [] pos2) X.env) :: starEach [] X.env := by rfl) (hs : starEach [e, f] X.env = [(false, eval e X.env), (false, eval f X.env)] := by rfl) (hs2 : starEach [f] X.env = [(false, eval f X.env)] := by rfl) :
 PE X (.Call (.Name "dict" p) [.Call (.Name "zip" p2) [e, f] [] pos2] [] pos) (fun σ H Q => ta σ H fun vs H1 => ∃ zs a ws, vs = [.str zs, .ref a] /\ SqT X.K H1 a ws /\ zs.cps.size = ws.length /\ ∀ p, H1 p = none -> Q (.ref p) (upd H1 p (.dK (Yoq (keyz zs.cps.toList ws))))) := by
 show 163
 refine ZBE (Z5 I hgd hmd hvd ?_ (by decide) (by decide))
 refine PyProof.Rows.callWith_type1 ?_ hs1 rfl
 rw [hs1]
 show wpAny _ _ (spliced ((false, eval _ X.env) :: [])) _ _ s
 refine Calls.spliced_cons ?_
 refine ZBE (Z5 I hgz hmz hvz ?_ (by decide) (by decide))
 refine PyProof.Rows.callWith_type1 (thn (ha pos2 pins s σ H _ I h) fun us s1 ⟨vs, H1, I1, r1, q1⟩ => ?_) (by rw [hs, hs2]) (by rw [hs2]; rfl)
 obtain ⟨zs, a, ws, rfl, sq, hlen, q⟩ := q1
 obtain ⟨u, v, rfl, ru, rv⟩ := r1.two
 obtain ⟨t, rfl⟩ : ∃ t, u = .str zs t := ru
 cases rv
 obtain ⟨its, rx, px, zx⟩ := I1.tuple sq
 have hl := rx.length
 refine Yaf (o1 := { cls := .type (strIterType zs), data := .fields #[.str zs t, .int 0 0] }) (o2 := { cls := .type "tuple_iterator", data := .fields #[.ref a, .int 0 0] }) (C1 := fun _ => True) (C2 := fun h => h.IsTuple a its.toArray) (fun {_ _ _ _ _ _} _ hQ => by
  cases ha : zs.cps.all (· < 128)
  ·exact wpAny_pyIter_wide ha (by simpa [strIterType, ha] using hQ)
  ·exact wpAny_pyIter_ascii ha (by simpa [strIterType, ha] using hQ)) (fun hc hQ => wpAny_pyIter_tuple hc hQ) (fun h p q => Heap.IsTuple.push q _) trivial px rfl rfl fun h' b1 b2 b3 b4 b5 hk => ?_
 refine Calls.spliced_nil ?_
 have la : a < s1.heap.objs.size := by obtain ⟨o, e, _⟩ := px; exact ZAG e
 have ap : ZAp (s1.heap.objs.size + 4) (s1.heap.objs.size + 2) (s1.heap.objs.size + 3) s1.heap.objs.size (s1.heap.objs.size + 1) := by
  constructor <;> (intro z; have z' : (_ : Nat) = _ := z; omega)
 have pa' : h'.IsTuple a its.toArray := by obtain ⟨o, e, r⟩ := px; exact ⟨o, hk _ _ e, r⟩
 have hcs : zs.cps.toList.length = its.length := by simp; omega
 have nla : ∀ k, s1.heap.objs.size + k ≠ a := fun k => ZA6 (ZAP la (ZBq _ k))
 refine YbM (s := { s1 with heap := h' }) (t := t) (prs := keyz zs.cps.toList its) (I1.ok.hd hc) ap b1 b2 b3 ⟨_, b4, rfl, rfl⟩ ⟨_, b5, rfl, rfl⟩ pa' (nla 4) (nla 3) (nla 0) (nla 1).symm (by rw [VF hcs]; simpa using hcs) (by rw [VF hcs]; simp) (fun i c y h1 h2 => YiI (by simpa using h1) (by simpa using h2)) (by rw [VF hcs]; omega) fun h2 tk D2 k2 => ?_
 have rel : KV (Yoq (keyz zs.cps.toList ws)) (storeAll (keyz zs.cps.toList its)) := Yid (Yd1 rx) .nil
 have hle : s1.heap.objs.size <= h'.objs.size := ZBV (ZBy (ZBq _ 4) (ZAG b1))
 refine ⟨.ref _, _, I1.laid (a := h'.objs.size) (o := .dK (Yoq (keyz zs.cps.toList ws))) (t' := tk) (fun b o hq => ?_) hle (YgZ ?_ (beq_eq_false_iff_ne.mpr (ZAs (ZAN (ZAP I1.big hle)))) rel D2), rfl, q _ (I1.hok.fresh hle)⟩
 ·have lb := ZAG hq
  exact k2 b o (ZAN (ZAP lb (ZBq _ 4))) (ZAN (ZAP lb (ZBq _ 3))) (ZAN lb) (ZAN (ZAP lb (ZBq _ 1))) (hk b o hq)
 ·rw [rel.length]
  refine ZAV (Vq _) ?_
  rw [VF hcs]
  omega
end
def Ym6 (ps : List P) (st : Ylo) : R P := match ps with
 | [.str z, .tup qs] => if z.cps.size = qs.length then .ok (.ref st.length) (st ++ [.dct (Yn4 (keyz z.cps.toList qs))]) else .bad
 | _ => .bad
def YnV (m : MA) : ME := fun ρ st => (m ρ st).bind Ym6
section
variable {pos2 : Pos} {m : MA}
theorem Ya9 {α β : Type} : ∀ {cs : List Nat} {ws : List α} {qs : List β}, ws.length = qs.length -> (keyz cs ws).map (·.1) = (keyz cs qs).map (·.1)
 | [], _, _, _ => rfl
 | _ :: _, [], [], _ => rfl
 | c :: cs, _ :: ws, _ :: qs, h => by
  show _ :: _ = _ :: _
  exact ZBI _ (Ya9 (cs := cs) (Nat.succ.inj h))
theorem Ycw {K : Frag} {as : List Addr} {H : Hp} : ∀ {cs : List Nat} {ws : List V} {qs : List P}, Dens K as H ws qs -> Dens K as H ((keyz cs ws).map (·.2)) ((keyz cs qs).map (·.2))
 | [], _, _, _ => .nil
 | _ :: _, _, _, .nil => .nil
 | c :: cs, _, _, .cons r t => .cons r (Ycw (cs := cs) t)
theorem Yg6 (hc : X.calm = true) (hgd : Gl X "dict") (hmd : X.mg "dict" = none) (hvd : bootBuiltins "dict" = some (.type "dict")) (hgz : Gl X "zip") (hmz : X.mg "zip" = none) (hvz : bootBuiltins "zip" = some (.type "zip")) (ha : JA X [e, f] m)
 (hs1 : starEach [.Call (.Name "zip" p2) [e, f] [] pos2] X.env = (false, eval (.Call (.Name "zip" p2) [e, f] [] pos2) X.env) :: starEach [] X.env := by rfl) (hs : starEach [e, f] X.env = [(false, eval e X.env), (false, eval f X.env)] := by rfl) (hs2 : starEach [f] X.env = [(false, eval f X.env)] := by rfl) :
 JE X (.Call (.Name "dict" p) [.Call (.Name "zip" p2) [e, f] [] pos2] [] pos) (YnV m) :=
 PE.imp (Yc9 hc hgd hmd hvd hgz hmz hvz ha hs1 hs hs2) fun σ H Q ⟨as, ρ, st, en, rp, h⟩ => ⟨as, ρ, st, en, rp, YlH.bindA h fun ps st1 as1 H1 vs x rp1 d h1 => by
  match ps, d, h1 with
  | [.str z, .tup qs], d, h1 =>
   obtain ⟨v, u, rfl, d1, d2⟩ := d.two
   cases d1
   cases d2 with
   | @tup a ws _ sq dd =>
    have h2 : YlH X as1 H1 ρ (if z.cps.size = qs.length then .ok (.ref st1.length) (st1 ++ [.dct (Yn4 (keyz z.cps.toList qs))]) else .bad) Q := h1
    by_cases hl : z.cps.size = qs.length
    ·rw [ZAF hl] at h2
     have k4 := Yg2 (a := []) (b := []) (Ya9 (cs := z.cps.toList) dd.length) (Ycw (cs := z.cps.toList) dd) rfl .nil
     exact ⟨z, a, ws, rfl, sq, by rw [dd.length]; exact hl, fun p hp => h2 (as1 ++ [p]) _ _ (Ext.new hp) (rp1.new hp ⟨_, Yn, k4.1, k4.2.ext (Ext.new hp)⟩) (.ref (by rw [<- rp1.len]; exact Vg))⟩
    ·rw [ZAE hl] at h2; exact h2.elim
  | [], _, h1 => show 152
  | [_], _, h1 => exact (by simp only [Ym6] at h1; exact h1.elim)
  | _ :: _ :: _ :: _, _, h1 => exact (by simp only [Ym6] at h1; exact h1.elim)
  | [.non, _], _, h1 => show 152
  | [.bl _, _], _, h1 => show 152
  | [.int _, _], _, h1 => show 152
  | [.tup _, _], _, h1 => show 152
  | [.ref _, _], _, h1 => show 152
  | [.str _, .non], _, h1 => show 152
  | [.str _, .bl _], _, h1 => show 152
  | [.str _, .int _], _, h1 => show 152
  | [.str _, .str _], _, h1 => show 152
  | [.str _, .ref _], _, h1 => exact h1.elim⟩
end
section
end
section
end
section
end
section
end
def Ynt (z : Str) : List V := z.cps.toList.map fun c => V.str ⟨#[c]⟩
theorem Yex (z : Str) : (Ynt z).length = z.cps.size := by unfold Ynt; simp
theorem YeS {z : Str} {acc : Array Value} (h : ItemsOf (SignAt z) acc z.cps.size) : Vals (Ynt z) acc.toList := by
 show 212
 have gen : ∀ (cs : List Nat) (vs : List Value), cs.length = vs.length -> (∀ (i : Nat) v, vs[i]? = some v -> ∃ c u, cs[i]? = some c /\ v = .str ⟨#[c]⟩ u) -> Vals (cs.map fun c => V.str ⟨#[c]⟩) vs := by
  intro cs
  induction cs with
  | nil =>
   intro vs hl _
   cases vs with
   | nil => exact .nil
   | cons _ _ => cases hl
  | cons c cs ih =>
   intro vs hl hv
   cases vs with
   | nil => cases hl
   | cons v vs =>
    obtain ⟨d, u, e1, e2⟩ := hv 0 v rfl
    have e1' : some c = some d := e1
    cases e1'
    exact .cons ⟨u, e2⟩ (ih vs (Nat.succ.inj hl) fun i w hw => hv (i + 1) w hw)
 refine gen z.cps.toList acc.toList (by simp [h1]) fun i v hv => ?_
 obtain ⟨c, u, e1, e2⟩ := h2 i v (by simpa using hv)
 exact ⟨c, u, by simpa using e1, e2⟩
theorem Yep (z : Str) : Dens K as H (Ynt z) (YmW z) := by
 unfold Ynt YmW
 induction z.cps.toList with
 | nil => exact .nil
 | cons c cs ih => exact .cons .str ih
section
theorem YcK {z : Str} {R : Result -> Shared -> Prop} (hh : A.handled = none) (hz : z.cps.size <= sizeLine)
 (hR : ∀ h' tk acc c1, (∀ b o, s.heap.get? b = some o -> h'.get? b = some o) -> h'.get? s.heap.objs.size = some { cls := .type "list", dict := none, data := .seq acc c1, slots := #[] } -> ItemsOf (SignAt z) acc z.cps.size -> R (.ok (.ret (.ref s.heap.objs.size))) { s with heap := h', toks := tk }) :
 codeAny (model prog w) A (.builtin "proto.collect" ⟨[.str z t], []⟩) R s := by
 apply codeAny_builtin F.entry_proto_collect
 rw [Around.under_plainId F.plain_proto_collect _]
 apply ZAA (m := newList [])
 refine ZAu ?_
 refine ZAC ⟨plainId_quiet F.plain_list_iadd _, ?_⟩
 apply codeAny_builtin F.entry_list_iadd
 rw [Around.under_plainId F.plain_list_iadd _]
 have g0 : (s.heap.push { cls := .type "list", data := .seq ([] : List Value).toArray }).get? s.heap.objs.size = some { cls := .type "list", data := .seq #[] } := ZAH _ rfl
 show wpAny _ _ (Builtin.List.listExtendWith (Value.ref s.heap.objs.size) (Value.str z t) (Value.ref s.heap.objs.size)) _ _ _
 exact wpAny_extend_str (s := { s with heap := s.heap.push { cls := .type "list", data := .seq ([] : List Value).toArray } }) hh z t s.heap.objs.size (.ref s.heap.objs.size) _ g0 (fun h1 tk acc c1 hk hS hi => hR h1 tk acc c1 (fun b o e => hk b o (ZAN (ZAG e)) (ZAD _ e)) hS hi) hz
theorem gathered {z : Str} {Q : List Value -> Shared -> Prop} (hh : A.handled = none) (hz : z.cps.size <= sizeLine)
 (hQ : ∀ h' tk acc, (∀ b o, s.heap.get? b = some o -> h'.get? b = some o) -> s.heap.objs.size <= h'.objs.size -> ItemsOf (SignAt z) acc z.cps.size -> Q acc.toList { s with heap := h', toks := tk }) : wpAny (model prog w) A (collect (.str z t)) Q E s := by
 unfold collect
 apply ZAA
 apply ZB9
 refine YcK hh hz fun h1 tk acc c1 hk hS hi => ?_
 refine ZAA (m := load s.heap.objs.size) (ZCG hS ?_)
 exact ZAC (hQ h1 tk acc hk (ZBV (ZAG hS)) hi)
theorem Jq (z : Str) (t : Tok) (hz : z.cps.size <= sizeLine) :
 Meets (Builtin.«tuple.__new__» ⟨[.type "tuple", .str z t], []⟩) (fun A R s => A.handled = none /\ ∀ (h' : Heap) (tk : Nat) (acc : Array Value), (∀ b o, s.heap.get? b = some o -> h'.get? b = some o) -> s.heap.objs.size <= h'.objs.size -> ItemsOf (SignAt z) acc z.cps.size ->
  R (.ok (.ret (.ref h'.objs.size))) { s with heap := h'.push { cls := .type "tuple", data := .seq acc }, toks := tk }) :=
 .of_wp fun prog w A R s h => by
  obtain ⟨hh, h⟩ := h
  have f1 := sub_tuple_self
  have f2 := init_tuple_lookup
  have f3 := madeHere_tuple
  have f4 : s.TypeIs (.str z t) "str" := rfl
  have f5 : A.in1.handled = none := hh
  wp_walk using ZBW f4, gathered (t := t) f5 hz
  intro h1 tk acc hk hsz hi
  apply ZAA (m := pure acc.toList.toArray)
  apply ZAC
  have ea : acc.toList.toArray = acc := by simp
  show wpAny _ _ (Builtin.Tuple.tupleExact acc.toList.toArray >>= fun v => ret v) _ _ _
  rw [ea]
  unfold Builtin.Tuple.tupleExact
  refine ZAA (ZAu ?_ (by show acc.size <= sizeLine; rw [hi.1]; exact hz))
  exact ZAC ⟨_, rfl, h h1 tk acc hk hsz hi⟩
theorem JX (hh : A.handled = none) (z : Str) (t : Tok) (hz : z.cps.size <= sizeLine)
 (h : ∀ (h' : Heap) (tk : Nat) (acc : Array Value), (∀ b o, s.heap.get? b = some o -> h'.get? b = some o) -> s.heap.objs.size <= h'.objs.size -> ItemsOf (SignAt z) acc z.cps.size -> Q (.ref h'.objs.size) { s with heap := h'.push { cls := .type "tuple", data := .seq acc }, toks := tk }) :
 wpAny (model prog w) A (call (.type "tuple") [.str z t]) Q E s :=
 callType_new F.called_tuple (by decide) (F.typeCall_tuple_1 _) (F.newCall_tuple_1 _) (fun obj => F.args_object_init_2 obj _) F.entry_tuple_new
  (Jq z t hz) ⟨hh, fun h1 tk acc hk hsz hi => ⟨⟨_, ZAH _ rfl, rfl⟩, h h1 tk acc hk hsz hi⟩⟩
end
section
def Ymd : GC := fun ps st => match ps with
 | [.str z] => if z.cps.size <= cap then okP (.tup (YmW z)) st else none
 | _ => Ym0 ps st
theorem WY (hc : X.calm = true) : Yl2 X (.type "tuple") (rMC X Ymd) := by
 intro pins s σ H xs us Q I r ⟨as, st, ps, rp, d, h⟩
 have old : YlG X as H (Ym0 ps st) Q -> wpAny (model X.prog X.w) X.A (call (.type "tuple") us) (EP X pins σ Q) X.xe s := fun h' => Ygj pins s σ H xs us Q I r ⟨as, st, ps, rp, d, h'⟩
 match ps, d, h, old with
 | [.str z], d, h, old =>
  have h' : YlG X as H (if z.cps.size <= cap then okP (.tup (YmW z)) st else none) Q := h
  by_cases q : z.cps.size <= cap
  ·rw [ZAF q] at h'
   obtain ⟨x, rfl, dx⟩ := d.one
   cases dx
   obtain ⟨u, rfl, ru⟩ := vals1 r
   obtain ⟨t, rfl⟩ : ∃ t, u = .str z t := ru
   refine JX (I.ok.hd hc) z t (ZAV q Yt) fun h1 tk acc hk hsz hi => ?_
   have hf : H h1.objs.size = none := I.hok.fresh hsz
   refine ⟨.ref h1.objs.size, _, I.laid (t' := tk) (o := .tup (Ynt z)) (fun b o e => ZAD _ (hk b o e)) hsz ?_, rfl, h' as _ _ (Ext.laid hf) (rp.laid hf) (.tup (.of Yn) ((Yep z).ext (Ext.laid hf)))⟩
   refine ⟨by rw [Yex]; exact ZAV q Yt, acc.toList, YeS hi, ?_⟩
   have := IsTup.new h1 acc
   show 195
  ·rw [ZAE q] at h'; exact h'.elim
 | [], _, h, old => exact old h
 | [.non], _, h, old => exact old h
 | [.bl _], _, h, old => exact old h
 | [.int _], _, h, old => exact old h
 | [.ref _], _, h, old => exact old h
 | [.tup _], _, h, old => exact old h
 | _ :: _ :: _, _, h, old => exact old (by simp only [Ymd] at h; exact h)
end
section
set_option maxHeartbeats 3200000 in
theorem Yd7 {z : Str} {tz : Tok} {ys : List Str}
 (hh : A.handled = none) (hys : ys = z.cps.toList.map fun c => (⟨#[c]⟩ : Str)) (hb : ys.length + 1 < scanBound)
 (h : ∀ (h' : Heap) (tk : Nat), TS prog w h' s.heap.objs.size (once ys) -> s.heap.objs.size < h'.objs.size -> (∀ b o, s.heap.get? b = some o -> h'.get? b = some o) -> Q (.ref s.heap.objs.size) { s with heap := h', toks := tk }) :
 wpAny (model prog w) A (call (.type "set") [.str z tz]) Q E s := by
 have hn : z.cps.size = ys.length := by rw [hys]; simp
 obtain ⟨c, tl, hmro⟩ := F.called_set.mro
 have q1 := F.called_set.made
 have q2 := F.called_set.sub
 refine wpAny_call (codeAny_of_tree ?_)
 show wpAny _ _ (callAny (.type "set") _) _ _ _
 refine ZAC ⟨Code.quiet_builtin _ (by decide +kernel), codeAny_builtin F.entry_type_call ?_⟩
 rw [Around.under_plain (weight_type_call_type "set" [.str z tz] []) rfl]
 have q3 := F.called_set.notType
 have q4 := F.called_set.canCreate
 have q5 := F.typeCall_set_1 (.str z tz)
 show 182
 refine codeAny_mono (Jm (.str z tz) (E := E) (Q := fun obj s1 => obj = .ref s.heap.objs.size /\ s1 = { s with heap := s.heap.push (YlF #[] 0 (.fresh 0 0 (!(byText w)))) }) ⟨rfl, rfl⟩) fun r s1 hr => ?_
 cases r with
 | error e => exact hr
 | ok fl =>
  cases fl with
  | ret obj =>
   obtain ⟨rfl, rfl⟩ := hr
   have gS : (s.heap.push (YlF #[] 0 (.fresh 0 0 (!(byText w))))).get? s.heap.objs.size = some (YlF #[] 0 (.fresh 0 0 (!(byText w)))) := ZAH _ rfl
   have hT : Shared.TypeIs { s with heap := s.heap.push (YlF #[] 0 (.fresh 0 0 (!(byText w)))) } (.ref s.heap.objs.size) "set" := ⟨_, gS, rfl⟩
   have q6 := F.called_set.init.lookup
   have q7 := F.called_set.init.bind (.ref s.heap.objs.size)
   show 182
   refine codeAny_mono (codeAny_call_builtin (R := wants (fun r s2 => r = .none /\ ∃ h' tk, s2 = { s with heap := h', toks := tk } /\ TS prog w h' s.heap.objs.size (once ys) /\ (∀ b o, s.heap.get? b = some o -> h'.get? b = some o)) E)
    F.called_set.init.plain F.entry_set_init (check_set_init_1 hT ?_)) fun r2 s2 hr2 => ?_
   ·have q8 := F.sub_str_set
    have q9 := F.sub_str_frozenset
    have q10 : (Value.type "str" == Value.type "dict") = false := by decide
    have q11 : Shared.TypeIs { s with heap := s.heap.push (YlF #[] 0 (.fresh 0 0 (!(byText w)))) } (.str z tz) "str" := rfl
    unfold Builtin.«set.__init__» noKeywords Builtin.Frozenset.updateFrom
    generalize hPI : pyIter = PI
    wp_walk
    subst hPI
    refine wpAny_pyIter_str fun oI St W0 hst => ?_
    refine ZAA (ZB9 ?_)
    have hh3 : A.in1.in1.in1.handled = none := by simp [hh]
    have hSf : s.heap.objs.size ∉ [(s.heap.push (YlF #[] 0 (.fresh 0 0 (!(byText w))))).objs.size] := by
     rw [Heap.size_push]; simp only [List.mem_singleton]
     exact ZAN (ZAx _)
    have hv : ∀ (i : Nat) (v : Value), SignAt z i v -> ∃ x t, ys[i]? = some x /\ v = .str x t := fun i v ⟨c, u, e1, e2⟩ => by
     refine ⟨⟨#[c]⟩, u, ?_, e2⟩
     rw [hys, ZAZ, ZBP, e1]
     rfl
    have W := (W0 A.in1.in1.in1 hh3).toS
    rw [hn] at W
    refine VB W s.heap.objs.size hSf hv hb (ys.length - 0) 0 _ (by omega) (ZBN _)
     hst ?hS0 ?hR
    case hS0 =>
     exact TS.empty (ZAD _ gS)
    case hR =>
     intro s3 hm T3
     obtain ⟨h3, g3, d3, tk3, os3⟩ := s3
     have eg : g3 = s.gens := hm.gens
     have ed : d3 = s.drawn := hm.drawn
     have eo : os3 = s.os := hm.os
     subst eg; subst ed; subst eo
     show wpAny _ _ _ _ _ _
     show 170
     show wpAny _ _ (ret Value.none) _ _ _
     refine ZAC ⟨rfl, h3, tk3, rfl, T3, fun b o e => ?_⟩
     have hb := ZAG e
     have hb1 : b ≠ s.heap.objs.size := ZAN hb
     have hb2 : b ≠ (s.heap.push (YlF #[] 0 (.fresh 0 0 (!(byText w))))).objs.size := by
      rw [ZAf]; exact ZAN (ZAv hb)
     exact hm.heap b o (by simp only [List.mem_cons, List.mem_singleton, List.not_mem_nil, or_false, not_or]; exact ⟨hb1, hb2⟩) (Heap.get?_push_of_some _ (Heap.get?_push_of_some _ e))
   ·cases r2 with
    | error e => exact hr2
    | ok fl2 =>
     cases fl2 with
     | ret r =>
      obtain ⟨rfl, h', tk, rfl, hS', hk'⟩ := hr2
      show 182
      obtain ⟨es, ep, t, ho, T⟩ := hS'
      exact h _ _ ⟨es, ep, t, ho, T⟩ (ZAG ho) hk'
     | _ => exact hr2.elim
  | _ => exact hr.elim
end
def YmC (me : ME) : MA := fun ρ st => (me ρ st).bind fun p st1 => match p with
 | .ref k => (match listAt st1 k with
  | some xs => (match YmB xs with
   | some ys => if ys.length < 4000 /\ (once ys).length < 64 then .ok ((YmQ (once ys)).map P.str) st1 else .bad
   | none => .bad)
  | none => .bad)
 | .str z => if (z.cps.toList.map fun c => (⟨#[c]⟩ : Str)).length < 4000 /\ (once (z.cps.toList.map fun c => (⟨#[c]⟩ : Str))).length < 64 then .ok ((YmQ (once (z.cps.toList.map fun c => (⟨#[c]⟩ : Str)))).map P.str) st1 else .bad
 | _ => .bad
section
variable {p1 c1 c2 : Pos}
theorem Ycl (hc : X.calm = true) (hg : Gl X "sorted") (hm : X.mg "sorted" = none) (hv : bootBuiltins "sorted" = some (.builtin "sorted")) (hg2 : Gl X "set") (hm2 : X.mg "set" = none) (hv2 : bootBuiltins "set" = some (.type "set")) (he : JE X e me)
 (hs : starEach [e] X.env = (false, eval e X.env) :: starEach [] X.env := by rfl)
 (hs2 : starEach [Expr.Call (.Name "set" p2) [e] [] c2] X.env = (false, eval (.Call (.Name "set" p2) [e] [] c2) X.env) :: starEach [] X.env := by rfl) :
 JL X (.Call (.Name "sorted" p1) [.Call (.Name "set" p2) [e] [] c2] [] c1) (YmC me) := by
 intro pins s σ H Q I ⟨as, ρ, st, en, rp, h⟩
 refine ZBE (Z5 I hg hm hv ?_ (by decide) (by decide))
 refine PyProof.Rows.callWith_builtin1 ?_ hs2 rfl
 rw [hs2]
 show wpAny _ _ (spliced ((false, eval (.Call (.Name "set" p2) [e] [] c2) X.env) :: backTo c1 (starEach [] X.env))) _ _ s
 refine Calls.spliced_cons ?_
 refine ZBE (Z5 I hg2 hm2 hv2 ?_ (by decide) (by decide))
 refine PyProof.Rows.callWith_type1 ?_ hs rfl
 rw [hs]
 show wpAny _ _ (spliced ((false, eval e X.env) :: backTo c2 (starEach [] X.env))) _ _ s
 refine Calls.spliced_cons ?_
 unfold YmC at h
 refine thn (he pins s σ H (fun v H1 => ∃ ys ks as1 st1, ((∃ a vs, v = .ref a /\ SqL X.K H1 a vs /\ (∀ us, Vals vs us -> StrsAre us ys)) \/ ∃ z, v = .str z /\ ys = z.cps.toList.map fun c => (⟨#[c]⟩ : Str)) /\ ys.length < 4000 /\ (once ys).length < 64 /\ ks = YmQ (once ys) /\ Rep X.K as1 st1 H1 /\
  ∀ l, H1 l = none -> Q (.ref l) (upd H1 l (.lst (ks.map V.str)))) I ⟨as, ρ, st, en, rp, ?_⟩) fun u s1 ⟨x, H1, I1, r1, q1⟩ => ?_
 ·refine YlU.bindE (Q := Q) h fun p st1 as1 H1 v x rp1 d h1 => ?_
  cases d with
  | @str z =>
   dsimp only at h1
   by_cases q : (z.cps.toList.map fun c => (⟨#[c]⟩ : Str)).length < 4000 /\ (once (z.cps.toList.map fun c => (⟨#[c]⟩ : Str))).length < 64
   ·rw [ZAF q] at h1
    refine ⟨_, _, as1, st1, .inr ⟨z, rfl, rfl⟩, q.1, q.2, rfl, rp1, fun l hl => ?_⟩
    exact h1 as1 _ l _ (Ext.laid hl) (rp1.laid hl) Yn (rp1.fresh hl) (VS _)
   ·rw [ZAE q] at h1; exact h1.elim
  | @ref k a e =>
   dsimp only at h1
   cases q : listAt st1 k with
   | none => rw [q] at h1; exact h1.elim
   | some xs =>
    rw [q] at h1
    dsimp only at h1
    cases q2 : YmB xs with
    | none => rw [q2] at h1; exact h1.elim
    | some ys =>
     rw [q2] at h1
     dsimp only at h1
     by_cases z : ys.length < 4000 /\ (once ys).length < 64
     ·rw [ZAF z] at h1
      obtain ⟨vs, g1, g2⟩ := Y8 rp1 e q
      refine ⟨ys, _, as1, st1, .inl ⟨a, vs, rfl, g1, fun us r => Vi g2 r q2⟩, z.1, z.2, rfl, rp1, fun l hl => ?_⟩
      exact h1 as1 _ l _ (Ext.laid hl) (rp1.laid hl) Yn (rp1.fresh hl) (VS _)
     ·rw [ZAE z] at h1; exact h1.elim
  | _ => show 152
 ·obtain ⟨ys, ks, as1, st1, hway, hl1, hl2, hks, rp1, hq⟩ := q1
  refine Calls.spliced_nil ?_
  have fin : ∀ (h2 : Heap) (tk : Nat), TS X.prog X.w h2 s1.heap.objs.size (once ys) -> s1.heap.objs.size < h2.objs.size -> (∀ b o, s1.heap.get? b = some o -> h2.get? b = some o) -> wpAny (model X.prog X.w) X.A (spliced []) (fun vs s₂ => wpAny (model X.prog X.w) X.A (call (.builtin "sorted") ((.ref s1.heap.objs.size) :: vs)) (EP X pins σ Q) X.xe s₂) X.xe { s1 with heap := h2, toks := tk } := fun h2 tk TS2 lt2 keep2 => by
   have I2 : Inv X pins σ H1 { s1 with heap := h2, toks := tk } := I1.kept keep2
   refine Calls.spliced_nil ?_
   refine Jt TS2 hl2 (I1.ok.hd hc) fun D s3 out ss n hD keep3 hg3 ho3 hD3 hss hp3 hs3 => ?_
   have ess : ss = ks := by rw [hks]; exact Vz hp3 (V9 ss hs3)
   have hDs : s1.heap.objs.size <= D := ZAV (ZBV (ZBy (ZAI _) lt2)) hD
   have hzl : ss.length <= sizeLine := by
    rw [hp3.length_eq, sizeLine_eq]; omega
   have I3 : Inv X pins σ (upd H1 D (.lst (ss.map V.str))) { s1 with heap := s3.heap, gens := s3.gens, drawn := s3.drawn, toks := s3.toks } := by
    have hn : H1 D = none := I1.hok.fresh hDs
    have I3a : Inv X pins σ H1 { s1 with heap := s3.heap, gens := s3.gens, drawn := s3.drawn, toks := s3.toks } := by
     refine I1.step (ch := []) (fun b hb => absurd hb (by simp)) (fun b o _ _ _ e _ => keep3 b o (keep2 b o e)) (fun b o _ _ _ e _ => ⟨o.slots, keep3 b o (keep2 b o e)⟩) (fun b o _ e n => n) (fun b o _ e => ⟨o, keep3 b o (keep2 b o e)⟩)
      (fun b xs e => e) (fun b o u e => e) (fun b ps e => ⟨#[], by rw [e]; simp⟩) (fun m hm => hm.keeps fun b o e => keep3 b o (keep2 b o e)) (I1.hok.kept fun b o e => keep3 b o (keep2 b o e)) ?_
     rw [show s3.gens = s1.gens from hg3]; exact I1.bare
    have fo := I1.fpOk hDs hn
    exact Mi.Inv.track I3a hD3 hn (Ybe hss) (by rw [ZAK]; exact hzl) (ZAV I1.sz hDs) fo.2.1 fo.2.2.2.2.1 fo.2.2.2.2.2
   have es3 : { s1 with heap := s3.heap, gens := s3.gens, drawn := s3.drawn, toks := s3.toks } = s3 := by
    have : s3.os = s1.os := ho3
    cases s3
    simp only at this
    simp [this]
   rw [es3] at I3
   exact ⟨.ref D, _, I3, rfl, by rw [ess]; exact hq D (I1.hok.fresh hDs)⟩
  rcases hway with ⟨a, vs, rfl, hsq, hst⟩ | ⟨z, rfl, hys⟩
  ·cases r1
   obtain ⟨its, rv, pl, _⟩ := I1.list hsq
   exact Yel (I1.ok.hd hc) pl.isList (by simpa using hst its rv) (by show _ < 4096; omega) fun h2 tk TS2 lt2 keep2 => fin h2 tk TS2 lt2 keep2
  ·obtain ⟨t, rfl⟩ : ∃ t, u = .str z t := r1
   exact Yd7 (I1.ok.hd hc) hys (by show _ < 4096; omega) fun h2 tk TS2 lt2 keep2 => fin h2 tk TS2 lt2 keep2
end
section
variable {o : Expr} {mx : ME} {apos cpos : Pos}
end
section
end
end Mi
namespace Mi
open PySem PySem.Spec L2
open PyProof.Rows hiding St
theorem Ye0 {P' : Program} {w : World} {H : Hp} {h : Heap} {a : Addr} {o : HO} (x : YlV P' w H h a o) : ∃ u, h.get? a = some u := by
 cases o with
 | lst xs => obtain ⟨_, _, _, _, e⟩ := x; exact ⟨_, e⟩
 | tup xs => obtain ⟨_, _, _, ob, e, _⟩ := x; exact ⟨_, e⟩
 | dK kvs => obtain ⟨_, _, _, _, o, _, _, e, _⟩ := x; exact ⟨_, e⟩
 | dT kvs => obtain ⟨_, _, _, _, o, _, _, e, _⟩ := x; exact ⟨_, e⟩
 | set S n => obtain ⟨o, _, _, _, e, _⟩ := x; exact ⟨_, e⟩
 | ins C dx fs => obtain ⟨_, _, _, e, _⟩ := x; exact ⟨_, e⟩
 | own y => exact x
 | xd fs => obtain ⟨_, ⟨_, _, _, e, _⟩, _⟩ := x; exact ⟨_, e⟩
 | rng lo hi => obtain ⟨_, _, _, e⟩ := x; exact ⟨_, e⟩
 | frz ob u => obtain ⟨e, _⟩ := x; exact ⟨_, e⟩
 | tbl ps => exact ⟨_, x⟩
 | met f y => exact ⟨_, x⟩
 | ext φ => exact x.2.1
structure YpZ (l : List Env) (a : Addr) (Ts : List Addr) (h h' : Heap) : Prop where
 keep : ∀ b o, h.get? b = some o -> b ≠ a -> b ∉ Ts -> b ∉ frs l -> h'.get? b = some o
 slot : ∀ b o, h.get? b = some o -> b ∈ frs l -> ∃ sl, h'.get? b = some { o with slots := sl }
section
variable {M : Model} {A : Around} {E : VSP} {s : Shared} {base : Heap} {env e0 : Env} {l r : List Env} {L a : Addr} {oe : Obj} {vs : Array Value}
end
section
variable {M : Model} {A : Around} {E : VSP} {X : Cx} {pins : LAO} {σ : St} {H : Hp} {s : Shared} {a : Addr} {C : Value} {od : Option Addr} {N : Addr -> Prop}
theorem untracked (I : Inv X pins σ H s) {T : Addr} (z : s.heap.get? T = none) : H T = none := by
 cases q : H T with
 | none => rfl
 | some u =>
  obtain ⟨u', hu⟩ := Ye0 (I.hok T u q)
  rw [z] at hu; cases hu
end
end Mi
namespace Mi
open PySem PySem.Spec L2
open PyProof.Rows hiding St
variable {K : Frag}
def CX1 (P' : Program) (w : World) : CXT := fun outer H s E e s' => ∃ a C od H', e = .ref a /\ s'.os = s.os /\ AllBare s'.gens /\ Un (frs outer) [] H H' s.heap s'.heap /\ HOk P' w H' s'.heap /\
 Yop (fun b => s.heap.get? b = none) H' a C od s'.heap /\ E C od H'
section
variable {P' : Program} {w : World} {mg : SOV} {base : Heap} {N : List Str} {qual : Str} {scope : Scope} {f : Addr} {cd : Value} {A : Around} {outer : List Env} {s₀ : Shared} {H₀ : Hp} {E : XK}
end
def YpL (K : Frag) (n : Nat) (mf : MF) : Sp := fun vs H Q E => vs.length = n /\ ∃ as st ps, Rep K as st H /\ Dens K as H vs ps /\ match mf ps st with
 | .ok p st' => ∀ as' H' v, Ext as H as' H' -> Rep K as' st' H' -> Den K as' H' v p -> Q v H'
 | .exc x st' => ∀ as' H' C od, nsIn K mainGlobals x.1 = some (some (.ref C)) -> Yn7 K as' H' od x.2 -> Ext as H as' H' -> Rep K as' st' H' -> E (.ref C) od H'
 | .bad => False
abbrev FM1 (P' : Program) (w : World) (K : Frag) (mg : SOV) (base : Heap) (k : Nat) (f : Addr) (fd : FuncData) (ps : List Str) (mf : MF) : Prop := YmV P' w K mg base (CX1 P' w) k f fd ps (YpL K ps.length mf)
section
variable {P' : Program} {w : World} {mg : SOV} {base : Heap}
end
section
variable {X : Cx} {k : Nat} {f : Addr} {fd : FuncData} {ps : List Str} {mf : MF} {x : Str} {p pos : Pos} {e : Expr} {es : List Expr} {mr : MA}
end
structure Fn1 (P' : Program) (w : World) (K : Frag) (mg : SOV) (base : Heap) (x : Str) (k : Nat) (ps : List Str) (mf : MF) : Prop where
 ex : ∃ f fd, FM1 P' w K mg base k f fd ps mf /\ mg x = some (.ref f) /\ PySem.W.keepIn K (.ref f) = true /\ Binds K fd ps []
section
variable {P' : Program} {w : World} {mg : SOV} {base : Heap} {x : Str} {st : Stmt} {N ps : List Str} {k : Nat} {m : MS}
end
section
variable {h : Heap} {C : Addr} {bmB : List Value} {newId : String}
end
abbrev Ypz : List Value := [.type "ValueError", .type "Exception", .type "BaseException", .type "object"]
end Mi
namespace Mi
open PySem PySem.Spec L2
open PyProof.Rows hiding St
variable {X : Cx}
section
variable {pins : LAO} {σ : St} {H H' : Hp} {s : Shared}
theorem _root_.L2.Inv.stepN {h' : Heap} {t' : Nat} {ch : List Addr} (I : Inv X pins σ H s) (hch : ∀ b ∈ ch, Nw X pins b /\ b ≠ X.env.locals /\ (∀ x c, X.env.cells.lookup x = some c -> c ≠ b) /\ b ∉ frs X.stack)
 (keep : ∀ b o, b ∉ frs X.stack -> b ∉ ch -> s.heap.get? b = some o -> H b = none -> h'.get? b = some o) (slot : ∀ b o, b ∈ frs X.stack -> s.heap.get? b = some o -> ∃ sl, h'.get? b = some { o with slots := sl })
 (free : ∀ b, b ∉ ch -> H b = none -> H' b = none) (there : ∀ b o, b ∉ ch -> s.heap.get? b = some o -> ∃ o', h'.get? b = some o') (trk : ∀ b u, H b = some u -> H' b = some u)
 (hL : ∃ o sl, s.heap.get? X.env.locals = some o /\ h'.get? X.env.locals = some { o with slots := sl }) (hfs : ∀ b ∈ X.fs, b ∈ frs X.stack)
 (hok : HOk X.prog X.w H' h') : Inv X pins σ H' { s with heap := h', toks := t' } := by
 have neC : ∀ b o, X.s₀.heap.get? b = some o -> b ∉ X.ex -> b ∉ ch := fun b o e hx hb => by
  rcases (hch b hb).1.1 with z | z
  ·exact hx z
  ·rw [z] at e; cases e
 have anyF : ∀ b o, b ∉ ch -> s.heap.get? b = some o -> H b = none -> ∃ sl, h'.get? b = some { o with slots := sl } := fun b o hc e n => by
  by_cases hb : b ∈ frs X.stack
  ·exact slot b o hb e
  ·exact ⟨o.slots, keep b o hb hc e n⟩
 have cellK : ∀ x c, X.env.cells.lookup x = some c -> ∀ v, s.heap.IsCell c v -> h'.IsCell c v := fun x c e v ⟨o, ho, hd⟩ => by
  obtain ⟨sl, q⟩ := anyF c o (fun z => (hch c z).2.2.1 x c e rfl) ho (I.freeC x c e)
  exact ⟨_, q, hd⟩
 obtain ⟨oL, slL, hoL, hoL'⟩ := hL
 have nsK : ∀ m, s.heap.Ns X.env.locals m -> h'.Ns X.env.locals m := fun m ⟨o, es, ep, ho, r⟩ => by
  rw [hoL] at ho; cases ho
  exact ⟨_, es, ep, hoL', r⟩
 have lnch : X.env.locals ∉ ch := fun z => (hch _ z).2.1 rfl
 refine ⟨I.ok, I.os, I.bare, ⟨fun b o e n hb hx => ?_, fun b o e n hb hx => ?_, fun b o e n hx => free b (neC b o e hx) (I.base.free b o e n hx), fun b o e hx => ?_, fun b xs e => trk _ _ (I.base.tups b xs e), fun b o xs e => trk _ _ (I.base.frzs b o xs e), fun b ps e => ?_⟩,
  ?_, fun x c e => ?_, free _ lnch I.free, fun x c e => free c (fun z => (hch c z).2.2.1 x c e rfl) (I.freeC x c e), fun p hp => ?_, hok, I.len⟩
 ·have h1 := I.base.keep b o e n hb hx
  exact keep b o (fun z => by
   rcases ZAc.mp (I.stkSub b z) with y | y
   ·exact absurd (ZAP (ZAG e) I.ok.above) (by rw [y]; exact ZBK _)
   ·exact hb y) (neC b o e hx) h1 (I.base.free b o e n hx)
 ·show 220
  obtain ⟨sl', e2⟩ := slot b _ (hfs b hb) e1
  exact ⟨sl', e2⟩
 ·show 209
  exact there b o' (neC b o e hx) e1
 ·obtain ⟨m1, e1⟩ := I.base.tbls b ps e
  exact ⟨m1, trk _ _ e1⟩
 ·obtain ⟨m, hn, hl⟩ := I.loc
  refine ⟨m, nsK m hn, fun i x v e1 e2 e3 => ?_⟩
  obtain ⟨u, r, l⟩ := hl i x v e1 e2 e3
  refine ⟨u, r, ?_⟩
  rcases l with l | ⟨k, c, e, z⟩
  ·exact .inl l
  ·exact .inr ⟨k, c, e, cellK x c e _ z⟩
 ·obtain ⟨v, z⟩ := I.cell x c e
  exact ⟨v, cellK x c e v z⟩
 ·show 219
  have nch : p.1 ∉ ch := fun z => (hch p.1 z).1.2 p hp rfl
  refine ⟨keep p.1 p.2 (fun z => ?_) nch e n, free p.1 nch n, ne, nf, d⟩
  rcases ZAc.mp (I.stkSub p.1 z) with y | y
  ·exact ne y
  ·exact nf y
theorem _root_.L2.Inv.gone {i : Nat} {n : Str} {h' : Heap} {v : Option Value} {m : SOV} {t' : Nat} (I : Inv X pins σ H s) (hN : X.N.Nodup) (hi : X.N[i]? = some n) (hk : X.env.kindOf n = some .local) (hn : s.heap.Ns X.env.locals m)
 (hl : ∀ (i : Nat) (x : Str) (v : V), X.N[i]? = some x -> σ[i]? = some (some v) -> Vis X.env.scope x -> ∃ u, RelV v u /\ Look X.env s.heap m x u)
 (hn' : h'.Ns X.env.locals (fun x => if x = n then v else m x)) (hs : Heap.SameBut X.env.locals s.heap h') : Inv X pins (σ.set i none) H { s with heap := h', toks := t' } := by
 have cne := I.cne
 obtain ⟨oL, _, _, hoL, _⟩ := id hn
 have lt : ∀ b o, X.s₀.heap.get? b = some o -> b ≠ X.env.locals := fun b o e => ZAN (ZAP (ZAG e) I.ok.above)
 refine ⟨I.ok, I.os, I.bare, ⟨fun b o e n hb hx => (hs.2 b (lt b o e)).trans (I.base.keep b o e n hb hx), fun b o e n hb hx => ?_, I.base.free, fun b o e hx => ?_, I.base.tups, I.base.frzs, I.base.tbls⟩, ⟨_, hn', fun j y v' e1 e2 e3 => ?_⟩, fun y c e => ?_, I.free, I.freeC, fun p hp => ?_, fun b ob e => ?_, by simpa using I.len⟩
 ·show 220
  exact ⟨sl, (hs.2 b (lt b o e)).trans e1⟩
 ·show 209
  exact ⟨o', (hs.2 b (lt b o e)).trans e1⟩
 ·have hj : i ≠ j := fun z => by
   subst z
   by_cases hlt : i < σ.length
   ·rw [ZAR hlt] at e2; cases e2
   ·rw [ZCK (by omega)] at e2
    have := (ZAB.mp e2).1
    omega
  rw [ZAL hj] at e2
  obtain ⟨u', r', q⟩ := hl j y v' e1 e2 e3
  refine ⟨u', r', ?_⟩
  rcases q with ⟨k, e⟩ | ⟨k, c, e, z⟩
  ·refine .inl ⟨k, ?_⟩
   have : y ≠ n := fun z => hj (Yau hN hi (z ▸ e1))
   simp [this, e]
  ·exact .inr ⟨k, c, e, z.sameBut hs (cne y c e)⟩
 ·obtain ⟨w', z⟩ := I.cell y c e
  exact ⟨w', z.sameBut hs (cne y c e)⟩
 ·show 219
  exact ⟨(hs.2 p.1 ne).trans e, n, ne, nf, d⟩
 ·refine (I.hok b ob e).stay (fun c w' hc q => (hs.2 c ?_).trans q) (fun _ q => q) fun _ _ q => q
  rintro rfl
  rcases hc with rfl | hc
  ·rw [I.free] at e; cases e
  ·rw [I.free] at hc; cases hc
end
abbrev _root_.L2.Cx.caught (X : Cx) (pins : LAO) (v : Value) : Cx := { X with pn := X.pn ++ pins, A := X.A.mark (some v), calm := false, xe := fun _ _ => False }
theorem _root_.L2.Cx.Ok.caught (ok : X.Ok) (pins : LAO) (v : Value) : (X.caught pins v).Ok :=
 ⟨ok.mod, ok.kind, ok.glob, ok.blt, ok.above, ok.inj, ok.has, ok.cab, (fun h => by cases h), ok.frames, ok.stk, ok.exf, ok.bs, ok.bsz, ok.noex, ok.exfs, ok.funs, ok.frf⟩
section
variable {pins : LAO} {σ : St} {H : Hp} {s : Shared}
theorem _root_.L2.Inv.caught (I : Inv X pins σ H s) (v : Value) : Inv (X.caught pins v) [] σ H s :=
 ⟨I.ok.caught pins v, I.os, I.bare, I.base, I.loc, I.cell, I.free, I.freeC, fun p hp => I.pin p (by simpa using hp), I.hok, I.len⟩
end
def YnY (i : Nat) : RS -> RS
 | .nx ρ st => .nx (ρ.set i none) st
 | .rt p st => .rt p st
 | _ => .bad
def YnX : RS -> RS
 | .exc _ _ _ => .bad
 | r => r
section
variable {pins : LAO}
end
end Mi
namespace Mi
open PySem PySem.Spec L2 PySem.W
open PyProof.Rows hiding St
section
variable {prog : Program} {w : World} {A : Around} {E : VSP} {s : Shared} {K : Frag} {x C : Addr} {ox : Obj} {odo : Option Obj} {name : Str}
end
end Mi
namespace Mi
open PySem PySem.Spec L2
open PyProof.Rows hiding St
section
variable {K : Frag}
end
section
variable {X : Cx} {e : Expr} {me : ME} {pos p p' : Pos}
end
end Mi
namespace Mi
open PySem PySem.Spec L2
open PyProof.Rows hiding St
def YlO : P -> Bool
 | .non => true
 | .bl _ => true
 | .int _ => true
 | .str _ => true
 | _ => false
def eqF : P -> P -> Bool
 | .non, .non => true
 | .bl a, .bl b => a == b
 | .bl a, .int b => (if a then 1 else 0) == b
 | .int a, .bl b => a == (if b then 1 else 0)
 | .int a, .int b => a == b
 | .str a, .str b => a == b
 | _, _ => false
def Yof : G2 := fun p q st => match Yl4 q st with
 | some xs => if YlO p = true /\ xs.all YlO = true then okP (.bl (xs.any fun y => eqF y p)) st else none
 | none => inP p q st
def Ymz : G2 := fun p q st => match Yl4 q st with
 | some xs => if YlO p = true /\ xs.all YlO = true then okP (.bl (!(xs.any fun y => eqF y p))) st else none
 | none => YnU p q st
section
variable {K : Frag} {as : List Addr} {H : Hp}
theorem VI {v : V} {p : P} (d : Den K as H v p) (h : YlO p = true) : YmL v = true := by cases d <;> first | rfl | cases h
theorem Yd2 {v w : V} {p q : P} (d : Den K as H v p) (e : Den K as H w q) (h : YlO p = true) (h' : YlO q = true) : eqV v w = eqF p q := by
 cases d <;> first | (cases h; done) | (cases e <;> first | rfl | (cases h'; done))
theorem Wg : ∀ {vs : List V} {ps : List P}, Dens K as H vs ps -> ps.all YlO = true -> vs.all YmL = true
 | _, _, .nil, _ => rfl
 | _, _, .cons d r, h => by
  rw [ZBL, ZAk] at h ⊢
  exact ⟨VI d h.1, Wg r h.2⟩
theorem YbD {w : V} {q : P} (e : Den K as H w q) (h' : YlO q = true) : ∀ {vs : List V} {ps : List P}, Dens K as H vs ps -> ps.all YlO = true -> inV w vs = ps.any fun y => eqF y q
 | _, _, .nil, _ => rfl
 | _, _, .cons d r, h => by
  rw [ZBL, ZAk] at h
  have ih := YbD e h' r h.2
  unfold inV at ih ⊢
  rw [ZBM, ZBM, Yd2 d e h.1 h', ih]
end
section
variable {X : Cx}
theorem Ygr (hu : X.A.units + 1 < cLine) : OpR X (compareOp .In) (rM X Yof) := opM fun pins s σ H x y v u Q as st p q I rx ry rp d1 d2 h => by
 have h' : YlG X as H (match Yl4 q st with
  | some xs => if YlO p = true /\ xs.all YlO = true then okP (.bl (xs.any fun y => eqF y p)) st else none
  | none => inP p q st) Q := h
 cases z : Yl4 q st with
 | none =>
  show 168
  exact YkW hu pins s σ H x y v u Q I rx ry ⟨as, st, p, q, rp, d1, d2, h'⟩
 | some xs =>
  show 168
  by_cases c : YlO p = true /\ xs.all YlO = true
  ·simp only [if_pos c] at h'
   obtain ⟨a, vs, e1, e2, e3⟩ := Ydm rp d2 z
   subst e1
   refine Ye4 pins s σ H x _ v u Q I rx ry ⟨a, vs, rfl, e2, VI d1 c.1, Wg e3 c.2, ?_⟩
   have := YbD d1 c.1 e3 c.2
   simp only [Bool.false_eq_true, if_false, this]
   show 208
  ·simp only [if_neg c] at h'; exact h'.elim
theorem V8 (hu : X.A.units + 1 < cLine) : OpR X (compareOp .NotIn) (rM X Ymz) := opM fun pins s σ H x y v u Q as st p q I rx ry rp d1 d2 h => by
 have h' : YlG X as H (match Yl4 q st with
  | some xs => if YlO p = true /\ xs.all YlO = true then okP (.bl (!(xs.any fun y => eqF y p))) st else none
  | none => YnU p q st) Q := h
 cases z : Yl4 q st with
 | none =>
  show 168
  exact YgX hu pins s σ H x y v u Q I rx ry ⟨as, st, p, q, rp, d1, d2, h'⟩
 | some xs =>
  show 168
  by_cases c : YlO p = true /\ xs.all YlO = true
  ·simp only [if_pos c] at h'
   obtain ⟨a, vs, e1, e2, e3⟩ := Ydm rp d2 z
   subst e1
   refine YbH pins s σ H x _ v u Q I rx ry ⟨a, vs, rfl, e2, VI d1 c.1, Wg e3 c.2, ?_⟩
   have := YbD d1 c.1 e3 c.2
   simp only [if_true, this]
   show 208
  ·simp only [if_neg c] at h'; exact h'.elim
end
end Mi
namespace Mi
open PySem PySem.Spec L2
open PyProof.Rows hiding St
structure Yp3 (N : Addr -> Prop) (H : Hp) (a : Addr) (C : Value) (od : Option Addr) (h : Heap) : Prop where
 na : N a
 ha : H a = none
 tr : ∃ oe vs T oT ts, h.get? a = some oe /\ oe.cls = C /\ oe.dict = od /\ oe.data = .fields vs /\ vs[1]? = some (.ref T) /\ N T /\ H T = none /\ T ≠ a /\ h.get? T = some oT /\ oT.data = .fields ts /\ 3 < ts.size
section
variable {M : Model} {A : Around} {E : VSP} {X : Cx} {pins : LAO} {σ : St} {H : Hp} {s : Shared} {a : Addr} {C : Value} {od : Option Addr} {N : Addr -> Prop}
end
section
variable {X : Cx} {scope : Scope} {TN FN : List Str} {pins : LAO} {σ : St} {H2 : Hp} {s2 : Shared} {fp : List Addr} {Cc : Addr}
end
section
variable {X : Cx}
end
end Mi
namespace Mi
open PySem PySem.Spec L2
open PyProof.Rows hiding St
section
variable {X : Cx}
def Ypn (ta : TA) : TE := fun σ H Q => ta σ H fun vs H1 => ∃ j : Int, vs = [.int j] /\ -(2 ^ 62) <= j /\ j < 2 ^ 62 /\ ∀ r, H1 r = none -> Q (.ref r) (upd H1 r (.rng 0 j))
theorem YeX {a : Expr} {ta : TA} {p pos : Pos} (hg : Gl X "range") (hm : X.mg "range" = none) (ha : PA X [a] ta) (hs : starEach [a] X.env = [(false, eval a X.env)] := by rfl) : PE X (.Call (.Name "range" p) [a] [] pos) (Ypn ta) := by
 intro pins s σ H R I h
 refine Call_ (Z5 I hg hm boot_range (PyProof.Rows.callWith_type1 (thn (ha pos pins s σ H _ I h) fun us s1 ⟨vs, H1, I1, r1, q1⟩ => ?_) hs rfl))
 obtain ⟨j, e, q1, q2, q⟩ := q1
 subst e
 cases r1 with
 | cons r rr =>
  cases rr
  show 228
  refine call_range_1 ⟨.ref s1.heap.objs.size, _, I1.laid (t' := s1.toks + 1 + 1) (fun b o e => ZAD _ e) (ZAI _) (show YlV X.prog X.w _ _ _ (.rng 0 j) from ⟨_, _, _, ZAH _ rfl⟩), rfl, q _ (I1.hok.fresh (ZAI _))⟩
def YnN (n : Nat) : List V := (List.range n).map fun (i : Nat) => V.int (i : Int)
def Ynf (n : Nat) : List P := (List.range n).map fun (i : Nat) => P.int (i : Int)
theorem Yfl {K : Frag} {as : List Addr} {H : Hp} (n : Nat) : Dens K as H (YnN n) (Ynf n) := by
 unfold YnN Ynf
 generalize List.range n = l
 induction l with
 | nil => exact .nil
 | cons x r ih => exact .cons .int ih
theorem Ybj {n : Nat} {acc : Array Value} (h : ItemsOf (fun i v => ∃ t, v = .int ((0 : Int) + i * 1) t) acc n) : Vals (YnN n) acc.toList := by
 show 212
 have gen : ∀ (cs : List Nat) (vs : List Value), cs.length = vs.length -> (∀ (i : Nat) v, vs[i]? = some v -> ∃ c u, cs[i]? = some c /\ v = .int (c : Int) u) -> Vals (cs.map fun (c : Nat) => V.int (c : Int)) vs := by
  intro cs
  induction cs with
  | nil =>
   intro vs hl _
   cases vs with
   | nil => exact .nil
   | cons _ _ => cases hl
  | cons c cs ih =>
   intro vs hl hv
   cases vs with
   | nil => cases hl
   | cons v vs =>
    obtain ⟨d, u, e1, e2⟩ := hv 0 v rfl
    have e1' : some c = some d := e1
    cases e1'
    exact .cons ⟨u, e2⟩ (ih vs (Nat.succ.inj hl) fun i w hw => hv (i + 1) w hw)
 refine gen (List.range n) acc.toList (by simp [h1]) fun i v hv => ?_
 obtain ⟨t, e⟩ := h2 i v (by simpa using hv)
 have hi : i < n := by
  have := (ZAB.mp hv).1
  rw [Array.length_toList, h1] at this
  exact this
 exact ⟨i, t, by simp [hi], by rw [e]; congr 1; omega⟩
theorem Ydn (hc : X.calm = true) : Yl2 X (.type "list") (fun xs H Q => ∃ r j, xs = [.ref r] /\ H r = some (.rng 0 j) /\ -(2 ^ 62) <= j /\ j < 2 ^ 62 /\ j.toNat <= cap /\ ∀ l, H l = none -> Q (.ref l) (upd H l (.lst (YnN j.toNat)))) := by
 intro pins s σ H xs us Q I rv ⟨r, j, e, hr, q1, q2, q3, q⟩
 subst e
 obtain ⟨u, rfl, ru⟩ := vals1 rv
 cases ru
 obtain ⟨t, t', t'', hrr⟩ := I.hok r _ hr
 have hn : Builtin.Range.rangeSize 0 j 1 = (j.toNat : Nat) := by rw [rangeSize_one]; split <;> omega
 refine call_list_range (a := 0) (b := j) (c := 1) (n := j.toNat) (I.ok.hd hc) hrr (small_one (by omega) (by omega) q1 q2) hn (ZAV q3 (by decide)) fun h1 tk acc c' hk hD hi => ?_
 exact ⟨.ref s.heap.objs.size, _, I.laid (t' := tk) hk (Nat.le_refl _) (show YlV X.prog X.w _ h1 _ (.lst (YnN j.toNat)) from ⟨by rw [(Ybj hi).length, Array.length_toList, hi.1]; exact Nat.le_trans q3 Yt, acc.toList, c', Ybj hi, by first | exact hD | simpa using hD⟩), rfl, q _ (I.hok.fresh (Nat.le_refl _))⟩
def Ynu (mr : MA) : ME := fun ρ st => (mr ρ st).bind fun ps st1 => match ps with
 | [.int j] => if small62 j = true /\ j.toNat <= cap then .ok (.ref st1.length) (st1 ++ [.lst (Ynf j.toNat)]) else .bad
 | _ => .bad
theorem Yf6 {a : Expr} {mr : MA} {p q pos qos : Pos} (hc : X.calm = true) (hgl : Gl X "list") (hml : X.mg "list" = none) (hvl : bootBuiltins "list" = some (.type "list")) (hg : Gl X "range") (hm : X.mg "range" = none) (ha : JA X [a] mr)
 (hs : starEach [a] X.env = [(false, eval a X.env)] := by rfl) (he : starEach [.Call (.Name "range" q) [a] [] qos] X.env = (false, eval (.Call (.Name "range" q) [a] [] qos) X.env) :: starEach [] X.env := by rfl) :
 JE X (.Call (.Name "list" p) [.Call (.Name "range" q) [a] [] qos] [] pos) (Ynu mr) :=
 PE.imp (VN (Ydn hc) hgl hml hvl (WW (YeX hg hm ha hs) Yad he) (by decide) (by decide) he) fun σ H Q ⟨as, ρ, st, en, rp, h⟩ => ⟨as, ρ, st, en, rp, by
  refine YlH.bindA h fun ps st1 as1 H1 vs x rp1 d h1 => ?_
  match ps, d, h1 with
  | [.int j], d, h1 =>
   obtain ⟨v, rfl, dv⟩ := d.one
   cases dv
   have h1' : YlH X as1 H1 ρ (if small62 j = true /\ j.toNat <= cap then .ok (.ref st1.length) (st1 ++ [.lst (Ynf j.toNat)]) else .bad) Q := h1
   by_cases hj : small62 j = true /\ j.toNat <= cap
   ·rw [ZAF hj] at h1'
    refine ⟨j, rfl, (Zf hj.1).1, (Zf hj.1).2, fun r hr => ⟨r, j, rfl, Yn, (Zf hj.1).1, (Zf hj.1).2, hj.2, fun l hl => ?_⟩⟩
    have x2 : Ext as1 H1 as1 (upd H1 r (.rng 0 j)) := Ext.laid hr
    have rp2 := rp1.laid (u := .rng 0 j) hr
    exact h1' (as1 ++ [l]) _ _ (x2.trans (Ext.new hl)) (rp2.lnew hl (Yfl _)) (.ref (by rw [<- rp1.len]; exact Vg))
   ·rw [ZAE hj] at h1'; exact h1'.elim
  | [], _, h1 => show 152
  | [.non], _, h1 => show 152
  | [.bl _], _, h1 => show 152
  | [.str _], _, h1 => show 152
  | [.ref _], _, h1 => show 152
  | [.tup _], _, h1 => show 152
  | x1 :: _ :: _, _, h1 => cases x1 <;> exact h1.elim⟩
end
end Mi
namespace Mi
open PySem PySem.Spec L2
open PyProof.Rows hiding St
def YnH : List P -> Option (List Key)
 | [] => some []
 | p :: ps => match Ymt p, YnH ps with
  | some k, some ks => some (k :: ks)
  | _, _ => none
def Ymu : P -> Option (List Key)
 | .tup xs => YnH xs
 | _ => none
section
variable {K : Frag} {as : List Addr} {H : Hp}
theorem Ygw : ∀ {vs : List V} {xs : List P} {ks : List Key}, Dens K as H vs xs -> YnH xs = some ks -> vs = ks.map kV
 | _, _, ks, .nil, h => by cases h; rfl
 | _, _, ks, .cons (p := p) (ps := ps) d r, h => by
  have h' : (match Ymt p, YnH ps with | some k, some ks => some (k :: ks) | _, _ => none) = some ks := h
  cases hk : Ymt p with
  | none => rw [hk] at h'; cases h'
  | some k =>
   cases hs : YnH ps with
   | none => rw [hk, hs] at h'; cases h'
   | some ks' =>
    rw [hk, hs] at h'
    cases h'
    rw [Ygw r hs, Vb d hk]
    rfl
theorem JC {v : V} {p : P} {ks : List Key} (d : Den K as H v p) (h : Ymu p = some ks) : ∃ b, v = .ref b /\ H b = some (.tup (ks.map kV)) := by
 cases d with
 | tup sq ds tk =>
  have e := Ygw ds h
  subst e
  exact ⟨_, rfl, tk⟩
 | _ => cases h
def YlT (q : P) (st : Ylo) : Option (List (List Key × P)) := match q with
 | .ref k => (match st[k]? with
  | some (.dtt kvs) => some kvs
  | _ => none)
 | _ => none
theorem V5 {st : Ylo} {q : P} {kvs : List (List Key × P)} {v : V} (rp : Rep K as st H) (d : Den K as H v q) (h : YlT q st = some kvs) :
 ∃ k a ws, q = .ref k /\ st[k]? = some (.dtt kvs) /\ v = .ref a /\ as[k]? = some a /\ H a = some (.dT ws) /\ ws.map (·.1) = kvs.map (·.1) /\ Dens K as H (ws.map (·.2)) (kvs.map (·.2)) := by
 cases d with
 | @ref k a e =>
  have h' : (match st[k]? with | some (.dtt kvs) => some kvs | _ => none) = some kvs := h
  cases w : st[k]? with
  | none => rw [w] at h'; cases h'
  | some ob =>
   rw [w] at h'
   cases ob with
   | dtt kvs' =>
    cases h'
    obtain ⟨ws, h1, h2, h3⟩ := rp.ob k _ _ e w
    exact ⟨k, a, ws, rfl, w, rfl, e, h1, h2, h3⟩
   | _ => cases h'
 | _ => cases h
end
def YoA : G2 := fun p q st => match YlT q st with
 | some kvs => (match Ymu p with
  | some ks => okP (.bl (YlL kvs ks).isSome) st
  | none => none)
 | none => Yof p q st
def YmO : G2 := fun p q st => match YlT q st with
 | some kvs => (match Ymu p with
  | some ks => okP (.bl (!(YlL kvs ks).isSome)) st
  | none => none)
 | none => Ymz p q st
def YnE : G2 := fun p q st => match YlT p st with
 | some kvs => (match Ymu q with
  | some ks => (YlL kvs ks).map fun p => (p, st)
  | none => none)
 | none => ixP p q st
section
variable {X : Cx} {a b o i e : Expr} {ma mb mo mi me : ME} {pos pos' : Pos}
theorem Ykj (hu : X.A.units + 1 < cLine) : OpR X (compareOp .In) (rM X YoA) := opM fun pins s σ H x y v u Q as st p q I rx ry rp d1 d2 h => by
 have h' : YlG X as H (match YlT q st with
  | some kvs => (match Ymu p with
   | some ks => okP (.bl (YlL kvs ks).isSome) st
   | none => none)
  | none => Yof p q st) Q := h
 cases z : YlT q st with
 | none =>
  show 168
  exact Ygr hu pins s σ H x y v u Q I rx ry ⟨as, st, p, q, rp, d1, d2, h'⟩
 | some kvs =>
  show 168
  cases w : Ymu p with
  | none => show 229
  | some ks =>
   simp only [w] at h'
   obtain ⟨k, a, ws, rfl, _, rfl, e, g4, g5, g6⟩ := V5 rp d2 z
   obtain ⟨b, rfl, eb⟩ := JC d1 w
   cases ry
   refine d_in hu I (YmJ.t (k := ks) g4 eb) rx fun s3 I3 => ⟨.bl _, H, I3, rfl, ?_⟩
   rw [Zx (Zk (k := ks) g5 g6)]
   show 208
theorem YeP (hu : X.A.units + 1 < cLine) : OpR X (compareOp .NotIn) (rM X YmO) := opM fun pins s σ H x y v u Q as st p q I rx ry rp d1 d2 h => by
 have h' : YlG X as H (match YlT q st with
  | some kvs => (match Ymu p with
   | some ks => okP (.bl (!(YlL kvs ks).isSome)) st
   | none => none)
  | none => Ymz p q st) Q := h
 cases z : YlT q st with
 | none =>
  show 168
  exact V8 hu pins s σ H x y v u Q I rx ry ⟨as, st, p, q, rp, d1, d2, h'⟩
 | some kvs =>
  show 168
  cases w : Ymu p with
  | none => show 229
  | some ks =>
   simp only [w] at h'
   obtain ⟨k, a, ws, rfl, _, rfl, e, g4, g5, g6⟩ := V5 rp d2 z
   obtain ⟨b, rfl, eb⟩ := JC d1 w
   cases ry
   refine YdW hu I (YmJ.t (k := ks) g4 eb) rx fun s3 I3 => ⟨.bl _, H, I3, rfl, ?_⟩
   rw [Zx (Zk (k := ks) g5 g6)]
   show 208
theorem Ykq (hu : X.A.units + 1 < cLine) : IxR X (rM X YnE) := IxR.imp ((Yhi (X := X) hu).or (YbI hu)) fun x y H Q ⟨as, st, p, q, rp, d1, d2, h⟩ => by
 have h' : YlG X as H (match YlT p st with
  | some kvs => (match Ymu q with
   | some ks => (YlL kvs ks).map fun p => (p, st)
   | none => none)
  | none => ixP p q st) Q := h
 cases z : YlT p st with
 | none => rw [z] at h'; exact .inl ⟨as, st, p, q, rp, d1, d2, h'⟩
 | some kvs =>
  show 168
  cases w : Ymu q with
  | none => show 229
  | some ks =>
   simp only [w] at h'
   obtain ⟨k, a, ws, rfl, _, rfl, e, g4, g5, g6⟩ := V5 rp d1 z
   obtain ⟨b, rfl, eb⟩ := JC d2 w
   cases zz : YlL kvs ks with
   | none => rw [zz] at h'; exact h'.elim
   | some p =>
    rw [zz] at h'
    have od := Zk (k := ks) g5 g6
    rw [zz] at od
    cases hv : YmK ws ks with
    | none => rw [hv] at od; cases od
    | some v =>
     rw [hv] at od
     cases od with
     | some dd => exact .inr ⟨a, v, rfl, by rw [<- hv]; exact YmJ.t g4 eb, h' as H _ Ext.refl rp dd⟩
theorem Ygu (hu : X.A.units + 1 < cLine) (ha : JE X a ma) (hb : JE X b mb) (hs : Ynb b) : JE X (.Subscript a b pos) (Ylq YnE ma mb) := PE.imp (YfS (Ykq hu) ha hb hs) fun _ _ _ h => VQ h
def YmD (mo mi me : ME) : MS := fun ρ st => RS.ofE ρ (me ρ st) fun v st1 => RS.ofE ρ (mo ρ st1) fun o st2 => RS.ofE ρ (mi ρ st2) fun i st3 => match o, YlT o st3, Ymu i with
 | .ref k, some kvs, some ks => if kvs.length < cap then .nx ρ (st3.set k (.dtt (Ymp kvs ks v))) else .bad
 | _, _, _ => .bad
theorem YbJ (hu : X.A.units + 1 < cLine) (ho : JE X o mo) (hi : JE X i mi) (hv : JE X e me) (hs : swapsWith e (some (.Subscript o i pos')) pos.line X.env = pure false := by rfl) : JS X (.Assign [.Subscript o i pos'] e pos) (YmD mo mi me) :=
 PS.imp (Yfp hu ho hi hv hs) fun D σ H ⟨as, ρ, st, en, rp, h⟩ => ⟨as, ρ, st, en, rp, YlJ.ofE h fun pv st1 as1 H1 v x1 rp1 dv h1 => ⟨as1, ρ, st1, en.ext x1, rp1, YlJ.ofE h1 fun po st2 as2 H2 x x2 rp2 dx h2 =>
  ⟨as2, ρ, st2, (en.ext x1).ext x2, rp2, YlJ.ofE h2 fun pi st3 as3 H3 y x3 rp3 dy h3 => by
   have dv := (dv.ext x2).ext x3
   have dx := dx.ext x3
   have en3 := ((en.ext x1).ext x2).ext x3
   cases z : YlT po st3 with
   | none => cases po <;> (simp only [z] at h3; exact h3.elim)
   | some kvs =>
    cases w : Ymu pi with
    | none => cases po <;> (simp only [z, w] at h3; exact h3.elim)
    | some ks =>
     obtain ⟨k, a, ws, rfl, hk, rfl, e1, h4, h5, h6⟩ := V5 rp3 dx z
     simp only [z, w] at h3
     by_cases hl : kvs.length < cap
     ·rw [ZAF hl] at h3
      obtain ⟨b, rfl, eb⟩ := JC dy w
      obtain ⟨g1, g2⟩ := Ybv (k := ks) dv h5 h6
      have hlen : ws.length = kvs.length := by simpa using congrArg List.length h5
      refine .inr ⟨a, _, rfl, YnG.t h4 eb (by rw [hlen]; exact ZAP hl Yt), ?_⟩
      exact h3 as3 _ _ (Ext.write h4 trivial) (rp3.write e1 h4 trivial (fun z => z) (by rw [hk]; exact fun z => z) ⟨_, Yn, g1, g2.ext (Ext.write h4 trivial)⟩) (en3.ext (Ext.write h4 trivial))
     ·rw [ZAE hl] at h3; exact h3.elim⟩⟩⟩
def YmU : ME := fun _ st => .ok (.ref st.length) (st ++ [.dtt []])
theorem Ybb : JE X (.Dict [] [] pos) YmU := PE.imp Yhs fun σ H Q ⟨as, ρ, st, en, rp, h⟩ p hp =>
 h (as ++ [p]) _ _ (Ext.new hp) (rp.new hp ⟨[], Yn, rfl, .nil⟩) (.ref (by rw [<- rp.len]; exact Vg))
end
end Mi
namespace Mi
open PySem PySem.Spec L2
open PyProof.Rows hiding St
structure YnW (k : Nat) (A : Around) : Prop where
 dp : A.depth + 3 * k + 5 < recursionLimit
 un : A.units + 16 * k + 200 < cLine
theorem YnW.deeper {k : Nat} {A : Around} (r : YnW (k + 1) A) (env : Env) : YnW k (A.deeper env) :=
 ⟨by have := r.dp; show A.depth + 1 + 3 * k + 5 < _; omega, by have := r.un; show A.units + 3 + 16 * k + 200 < _; omega⟩
structure Ypb (P' : Program) (w : World) (K : Frag) (mg : SOV) (base : Heap) (k : Nat) (f : Addr) (fd : FuncData) (ps : List Str) (sp : Sp) : Prop where
 run : ∀ (A : Around) (outer : List Env) (s : Shared) (H : Hp) (args : Args) (us : List Value) (vs : List V) (Q : VK) (E : XK), YnW k A -> YnQ P' w K mg base A outer s H -> BindsTo s fd args (ps.zip us) -> Vals vs us -> sp vs H Q E ->
  codeAny (model P' w) A (.call (.ref f) args) (CR CX0 outer P' w H s Q E) s
section
variable {P' : Program} {w : World} {K : Frag} {mg : SOV} {base : Heap}
end
structure FnH (P' : Program) (w : World) (K : Frag) (mg : SOV) (base : Heap) (x : Str) (k : Nat) (ps : List Str) (mf : MF) : Prop where
 ex : ∃ f fd, Ypb P' w K mg base k f fd ps (spM K ps.length mf) /\ mg x = some (.ref f) /\ PySem.W.keepIn K (.ref f) = true /\ Binds K fd ps []
section
variable {P' : Program} {w : World} {K : Frag} {mg : SOV} {base : Heap} {x : Str} {st : Stmt} {N ps : List Str} {k : Nat} {m : MS}
end
end Mi
namespace Mi
open PySem PySem.Spec L2
open PyProof.Rows hiding St
section
variable {X : Cx}
end
end Mi
namespace Mi
open PySem
open Sem (wp)
section
variable {prog : Program} {w : World} {A : Around} {E : VSP} {h : Heap} {g : Array GenState} {d : Drawn} {t : Nat} {os : OsState}
variable {nm q : Str} {C N : Addr} {bs bm bmB : List Value} {hdct : Bool} {sn : List Str} {sub : List Value} {ab : Bool} {col : Option Bool} {dd : Option Addr} {k0 k1 k2 k3 k5 : Option Value} {B Bn newId nid initId inN : String} {bmN : List Value}
end
section
variable {prog : Program} {w : World} {A : Around} {E : VSP} {s : Shared} {env : Env}
variable {nm q : Str} {C N : Addr} {bs bm bmB : List Value} {hdct : Bool} {sn : List Str} {sub : List Value} {ab : Bool} {col : Option Bool} {dd : Option Addr} {k0 k1 k2 k3 k5 : Option Value} {B Bn newId nid initId inN : String} {bmN : List Value}
end
end Mi
namespace Mi
open PySem PySem.Spec L2 PySem.W
open PyProof.Rows hiding St
open Builtin Builtin.ObjectAttr
def YoH : List Value -> Bool
 | .ref _ :: r => YoH r
 | [.type a, .type b, .type c, .type d] => a == "ValueError" && b == "Exception" && c == "BaseException" && d == "object"
 | _ => false
def Yo2 (K : Frag) (C : Addr) : Bool := (clsIn K C).any fun cd => YoH cd.mro
section
variable {prog : Program} {w : World} {A : Around} {E : VSP} {s : Shared} {K : Frag} {x C : Addr} {ox : Obj} {name : Str} {v : Value}
end
end Mi
namespace Mi
open PySem PySem.Spec L2 PySem.W
open PyProof.Rows hiding St
open Builtin Builtin.ObjectAttr
section
variable {prog : Program} {w : World} {A : Around} {E : VSP} {s : Shared} {K : Frag} {x C : Addr} {ox : Obj}
end
section
variable {X : Cx} {pins : LAO} {σ : St} {H H' : Hp} {s : Shared}
theorem _root_.L2.Inv.swap {pins' : LAO} {h' : Heap} {t' : Nat} (I : Inv X pins σ H s) (hpn : X.pn = []) (fs : ∀ b ∈ X.fs, b ∈ frs X.stack)
 (hch : ∀ p ∈ pins', (p.1 ∈ X.ex \/ X.s₀.heap.get? p.1 = none) /\ p.1 ≠ X.env.locals /\ (∀ x c, X.env.cells.lookup x = some c -> c ≠ p.1) /\ p.1 ∉ frs X.stack /\ H p.1 = none /\ h'.get? p.1 = some p.2 /\ ∀ v, p.2.data ≠ .cell v)
 (keep : ∀ b o, b ∉ pins'.map (·.1) -> s.heap.get? b = some o -> h'.get? b = some o) : Inv X pins' σ H { s with heap := h', toks := t' } := by
 have I0 : Inv X [] σ H s := I.pins_of fun p hp => absurd hp (by simp)
 obtain ⟨m, ⟨oL, es, ep, hoL, _⟩, _⟩ := id I.loc
 have ne : ∀ b, b ∈ pins'.map (·.1) -> ∃ p ∈ pins', p.1 = b := fun b hb => by
  obtain ⟨p, hp, e⟩ := ZAY.mp hb
  exact ⟨p, hp, e⟩
 have q := L2.Inv.stepN (t' := t') (h' := h') (H' := H) (ch := pins'.map (·.1)) I0 (fun b hb => by
  obtain ⟨p, hp, rfl⟩ := ne b hb
  obtain ⟨a1, a2, a3, a4, _⟩ := hch p hp
  exact ⟨⟨a1, fun r hr => absurd hr (by rw [hpn]; simp)⟩, a2, a3, a4⟩)
  (fun b o _ hc e _ => keep b o hc e) (fun b o hb e => ⟨o.slots, keep b o (fun z => by obtain ⟨p, hp, rfl⟩ := ne b z; exact (hch p hp).2.2.2.1 hb) e⟩) (fun b _ q => q)
  (fun b o hc e => ⟨o, keep b o hc e⟩) (fun b u q => q) ⟨oL, oL.slots, hoL, keep _ _ (fun z => by obtain ⟨p, hp, e⟩ := ne _ z; exact (hch p hp).2.1 e) hoL⟩ fs (fun b u e => by
   refine (I.hok b u e).stay (fun c v hc q => keep c v (fun z => ?_) q) (fun _ q => q) fun _ _ q => q
   obtain ⟨p, hp, rfl⟩ := ne c z
   have hn := (hch p hp).2.2.2.2.1
   rcases hc with hc | hc
   ·rw [hc, e] at hn; cases hn
   ·rw [hc] at hn; cases hn)
 refine q.pins_of fun p hp => ?_
 obtain ⟨a1, a2, a3, a4, a5, a6, a7⟩ := hch p hp
 exact ⟨a6, a5, a2, fun z => a4 (fs _ z), a7⟩
end
end Mi
namespace Mi
open PySem PySem.Spec L2 PySem.W
open PyProof.Rows hiding St
def Short (v : V) : Prop := (∃ i : Int, v = .int i /\ i.natAbs.log2 < 1920) \/ ∃ x : Str, v = .str x /\ x.length <= 2000
structure Own (X : Cx) : Prop where
 pn : X.pn = []
 ex : X.ex = []
 fs : ∀ b ∈ X.fs, b ∈ frs X.stack
section
variable {X : Cx} {pins : LAO} {σ : St} {H : Hp} {s : Shared}
variable {e C : Addr} {fs : List (Str × V)}
end
end Mi
namespace Mi
open PySem PySem.Spec L2 PySem.W
open PyProof.Rows hiding St
def shapeOf (o : Obj) : Option (ClassData × List (Option Value)) := match o with
 | { cls := .type t, data := .cls d, slots := z, .. } => if t = "type" then some (d, z.toList) else none
 | _ => none
def Ypw : List (Option Value) -> Bool
 | [_, _, _, _, some (.builtin n), _] => n == "ValueError.__new__"
 | _ => false
def behind (C : Addr) : List Value -> Option (List Value)
 | .ref D :: r => if D = C then some r else none
 | _ => none
def YoW (K : Frag) (C fI : Addr) : Bool := match (K.lookup C).bind shapeOf with
 | some (d, z) => Ypw z && (!d.hasDel && (nsOkIn K d.ns && ((nsIn K d.ns "__init__" == some (some (.ref fI))) && (match behind C d.mro with | some r => tailIn K Ypz r | none => false))))
 | none => false
structure Yp2 (K : Frag) (C G : Addr) (ats : List Str) : Prop where
 over : Yo2 K C = true
 sa : findIn K (.ref C) "__setattr__" = some (some (.builtin "object.__setattr__"))
 hd : hasDictIn K C = true
 sp : specialIn K (.ref G) "__getattribute__" = some (some (.builtin "type.__getattribute__"))
 rd : readsIn K G (.type "type") = true
 cl : findCls K (.ref G) (.type "type") "__init__" = some (.val (.builtin "ValueError.__init__"))
 no : ∀ a ∈ ats, findIn K (.ref C) a = some none
section
variable {X : Cx} {σ : St} {e C : Addr} {fs fs' : List (Str × V)}
end
structure Made (P : Program) (w : World) (outer : List Env) (s s' : Shared) (H : Hp) (e C : Addr) (fs : List (Str × V)) : Prop where
 os : s'.os = s.os
 bare : AllBare s'.gens
 un : Un (frs outer) [] H H s.heap s'.heap
 hok : HOk P w H s'.heap
 ex : ∃ oe vs, s'.heap.get? e = some oe /\ oe.cls = .ref C /\ oe.data = .fields vs /\ vs[1]? = some .none /\
  ((oe.dict = none /\ fs = []) \/ ∃ d mA, oe.dict = some d /\ d ≠ e /\ s.heap.get? d = none /\ H d = none /\ s'.heap.Ns1 d mA /\ ∀ f, YmY (fs.lookup f) (mA f))
section
variable {P : Program} {w : World} {K : Frag} {mg : SOV} {base : Heap}
end
end Mi
namespace Mi
open PySem PySem.Spec L2 PySem.W
open PyProof.Rows hiding St
theorem Dens.getD {K : Frag} {as : List Addr} {H : Hp} : ∀ {vs : List V} {ps : List P}, Dens K as H vs ps -> ∀ i : Nat, Den K as H (vs.getD i .non) (ps.getD i .non)
 | _, _, .nil, i => by simp; exact .non
 | _, _, .cons d r, 0 => by simp; exact d
 | _, _, .cons d r, i + 1 => by
  have := Dens.getD r i
  show 195
structure Yp0 (P' : Program) (w : World) (K : Frag) (mg : SOV) (base : Heap) (c : Str) (k n : Nat) (ats : List (Str × Nat)) : Prop where
 ex : ∃ C fI oI, nsIn K mainGlobals c = some (some (.ref C)) /\ YoW K C fI = true /\ K.lookup fI = some oI /\ oI.cls = .type "function" /\
  ∀ (A : Around) (outer : List Env) (s : Shared) (H : Hp) (us : List Value) (vs : List V) (h' : Heap) (e : Addr) (Q : VSP) (E : VSP), Ymn k A -> YnQ P' w K mg base A outer s H -> YnQ P' w K mg base A outer { s with heap := h' } H -> vs.length = n -> Vals vs us -> (∀ v ∈ vs, Short v) ->
   Heap.MadeExcOf s.heap h' e (.ref C) us -> s.heap.objs.size <= h'.objs.size -> (∀ s', Made P' w outer s s' H e C (ats.map fun p => (p.1, vs.getD p.2 .non)) -> Q .none s') -> wpAny (model P' w) A (call (.ref fI) (.ref e :: us)) Q E { s with heap := h' }
end Mi
namespace Mi
open PySem PySem.Spec L2 PySem.W
open PyProof.Rows hiding St
section
variable {prog : Program} {w : World} {A : Around} {E : VSP} {s : Shared} {K : Frag} {x C : Addr} {ox : Obj} {odo : Option Obj} {name : Str} {expr : Bool}
end
section
variable {X : Cx} {e : Expr} {me : ME} {pos : Pos}
end
end Mi
namespace Mi
open PySem PySem.Spec L2 PySem.W
open PyProof.Rows hiding St
abbrev HM := Xc -> Rho -> Ylo -> RS
section
variable {X : Cx}
end
end Mi
namespace Mi
open PySem PySem.Spec L2
open PyProof.Rows hiding St
section
variable {X : Cx}
end
end Mi
namespace L2
open PySem PySem.Spec PyProof.Rows
variable {ws : List (Key × V)}
section
variable {X : Cx} {pins : LAO} {σ : List (Option V)} {H : Hp} {s : Shared} {a : Addr} {o : Obj}
theorem Inv.freeze (I : Inv X pins σ H s) (e : H a = some (.dK ws)) : ∃ o, Inv X pins σ (upd H a (.frz o (.dK ws))) s := by
 have ob : YlV X.prog X.w H s.heap a (.dK ws) := I.hok a _ e
 obtain ⟨z, y, vs, r, o, es, ep, ho, c⟩ := id ob
 exact ⟨o, I.write (x := a) (e := a) (o := .frz o (.dK ws)) (h' := s.heap) (t' := s.toks) (by rw [e]; trivial) (.inl rfl) (fun _ _ _ q => q) ⟨o, ho⟩ ⟨ho, ob⟩⟩
theorem Inv.thaw (I : Inv X pins σ H s) (e : H a = some (.frz o (.dK ws))) (n1 : ∀ xs, X.H₀ a ≠ some (.tup xs)) (n2 : ∀ o u, X.H₀ a ≠ some (.frz o u)) (n3 : ∀ ps, X.H₀ a ≠ some (.tbl ps)) : Inv X pins σ (upd H a (.dK ws)) s := by
 have hn : ∀ b, H b = none -> b ≠ a := fun b q z => by subst z; rw [e] at q; cases q
 refine ⟨I.ok, I.os, I.bare, ⟨I.base.keep, I.base.slot, fun b u q n x => ?_, I.base.there, fun b xs q => ?_, fun b u v q => ?_, fun b ps q => ?_⟩, I.loc, I.cell, ?_, fun x c q => ?_, fun p hp => ?_, fun b u q => ?_, I.len⟩
 ·have := I.base.free b u q n x
  rw [Yf (hn b this)]; exact this
 ·by_cases h : b = a
  ·subst h; exact absurd q (n1 xs)
  ·rw [Yf h]; exact I.base.tups b xs q
 ·by_cases h : b = a
  ·subst h; exact absurd q (n2 u v)
  ·rw [Yf h]; exact I.base.frzs b u v q
 ·by_cases h : b = a
  ·subst h; exact absurd q (n3 ps)
  ·rw [Yf h]; exact I.base.tbls b ps q
 ·rw [Yf (hn _ I.free)]; exact I.free
 ·rw [Yf (hn _ (I.freeC x c q))]; exact I.freeC x c q
 ·obtain ⟨a1, a2, a3⟩ := I.pin p hp
  exact ⟨a1, by rw [Yf (hn _ a2)]; exact a2, a3⟩
 ·by_cases h : b = a
  ·subst h
   rw [Yn] at q; cases q
   exact (show YlV X.prog X.w H s.heap b (.frz o (.dK ws)) from I.hok b _ e).2
  ·rw [Yf h] at q
   refine (I.hok b u q).stay (fun c v hc r => r) (fun c r => ?_) fun c xs r => ?_
   ·rw [Yf (by rintro rfl; rw [e] at r; cases r)]; exact r
   ·rw [Yf (by rintro rfl; rw [e] at r; cases r)]; exact r
end
def Itk (a : Addr) (o : Obj) (ws : List (Key × V)) : It :=
 ⟨fun i H => H a = some (.frz o (.dK ws)) /\ i < ws.length, fun i H x H' => H' = H /\ ∃ p, ws[i]? = some p /\ x = kV p.1, fun i H => H a = some (.frz o (.dK ws)) /\ ws.length <= i⟩
theorem Yij {k : Key} {v : Value} (h : Ynj k v = true) : RelV (kV k) v := by
 rcases Yw h with ⟨i, t, rfl, rfl⟩ | ⟨x, t, rfl, rfl⟩
 ·exact ⟨t, rfl⟩
 ·exact ⟨t, rfl⟩
theorem KV.key {vs : List (Key × Value)} (r : KV ws vs) : ∀ {i : Nat} {k : Key} {x : Value}, vs[i]? = some (k, x) -> ∃ p, ws[i]? = some p /\ p.1 = k := by
 induction r with
 | nil => intro i k x e; simp at e
 | @cons p q ps qs h t ih =>
  intro i k x e
  cases i with
  | zero => simp at e; subst e; exact ⟨p, rfl, h.1⟩
  | succ j =>
   obtain ⟨p', h1, h2⟩ := ih (i := j) (by simpa using e)
   exact ⟨p', by simpa using h1, h2⟩
theorem Yg8 {X : Cx} {pins : LAO} {σ : List (Option V)} {H : Hp} {s : Shared} {a : Addr} {o : Obj} {es : Array DictEntry} {ep : Nat} (I : Inv X pins σ H s) (e : H a = some (.frz o (.dK ws))) (hd : o.data = .dict es ep) :
 ∃ vs, KV ws vs /\ s.heap.DictAt (Ylv X.prog X.w) a vs ep /\ vs.length = ws.length /\ (a == sysModules) = false := by
 obtain ⟨ho, z, y, vs, r, o', es', ep', h1, h2, h3, h4⟩ := (show YlV X.prog X.w H s.heap a (.frz o (.dK ws)) from I.hok a _ e)
 rw [ho] at h1; cases h1
 rw [hd] at h3; cases h3
 exact ⟨vs, r, ⟨o, es, ho, h2, hd, h4⟩, (Paired.length r).symm, y⟩
theorem Yeb {P : Program} {w : World} {K : Frag} {tg : Expr} (a it : Addr) (o : Obj) (ws : List (Key × V)) {es : Array DictEntry} {ep : Nat} (hd : o.data = .dict es ep) : Turn P w K tg (Itk a o ws) [it] it (fun i h => h.IsKeyIter it a i ws.length ep) where
 mem := by simp
 obj := fun i h st b hb => by
  show 69
 keep := fun i h h' st k => st.at fun o e => k it (by simp) o e
 item := by
  show 12
  obtain ⟨he, hi⟩ := hg
  obtain ⟨vs, r, da, hl, _⟩ := Yg8 I he hd
  show 193
  obtain ⟨⟨k, x⟩, hx⟩ : ∃ p, vs[i]? = some p := ⟨vs[i]'(by omega), by simp [hl, hi]⟩
  obtain ⟨p, hp, hpk⟩ := KV.key r hx
  rw [<- hl] at st
  refine wpAny_pyNext_dict_item st da hx fun key h' hkey st' sb => ?_
  have I1 : Inv X pins σ H { s with heap := h' } := I.turned (t' := s.toks) (fun b o hb e => (sb.2 b hb).trans e) f0 f1 f3 f4 f5
  rw [hl] at st'
  obtain ⟨o, e, c, d⟩ := id st'
  exact ⟨key, rfl, Yci (s := { s with heap := h' }) e c d (by decide) ⟨kV k, H, I1, Yij hkey, ⟨rfl, p, hp, by rw [hpk]⟩, st', fun b hb => (hf b hb).1⟩⟩
 done := by
  show 12
  obtain ⟨he, hi⟩ := hg
  obtain ⟨vs, r, da, hl, _⟩ := Yg8 I he hd
  show 193
  rw [<- hl] at st
  exact wpAny_pyNext_dict_end (I.ok.hd hc) st da (by simp; omega) fun h' eb => ⟨rfl, I.turned (t' := s.toks) (fun b o hb e => eb b o hb e) f0 f1 f3 f4 f5⟩
 self := fun _ _ _ _ _ st h => wpAny_pyIter_keyiter st h
theorem YhO {X : Cx} {tg : Expr} {pins : LAO} {σ : St} {H : Hp} {s : Shared} {a : Addr} {o : Obj} {R : It -> Hp -> Prop} {E : VSP} (I : Inv X pins σ H s) (e : H a = some (.frz o (.dK ws))) (q : R (Itk a o ws) H) :
 wpAny (model X.prog X.w) X.A (pyIter (.ref a)) (PIE X pins σ tg R) E s := by
 obtain ⟨ho, z, y, vs, r, o', es, ep, h1, h2, h3, h4⟩ := (show YlV X.prog X.w H s.heap a (.frz o (.dK ws)) from I.hok a _ e)
 rw [ho] at h1; cases h1
 refine wpAny_pyIter_dict (knd := Ylv X.prog X.w) y ⟨o, es, ho, h2, h3, h4⟩ ?_
 refine ⟨s.heap.objs.size, [s.heap.objs.size], _, _, H, rfl, I.kept (t' := s.toks) fun b o e => ZAD _ e, Yeb a _ o ws h3, ⟨_, ZAH _ rfl, rfl, by rw [show ws.length = vs.length from Paired.length r]; rfl⟩, fun b hb => ?_, q⟩
 show 59
end L2
namespace Mi
open PySem PySem.Spec L2
open PyProof.Rows hiding St
section
variable {K : Frag} {as : List Addr} {H : Hp} {st : Ylo} {a : Addr} {o : Obj} {ws : List (Key × V)} {u : HO}
theorem SqT.thaw {b : Addr} {vs : List V} (e : H a = some (.frz o (.dK ws))) (h : SqT K H b vs) : SqT K (upd H a u) b vs := by
 rcases h with (h | ⟨ob, h⟩) | h
 ·exact .inl (.inl (by rw [Yf (by rintro rfl; rw [e] at h; cases h)]; exact h))
 ·exact .inl (.inr ⟨ob, by rw [Yf (by rintro rfl; rw [e] at h; cases h)]; exact h⟩)
 ·exact .inr h
mutual
theorem Den.thaw {v : V} {p : P} (e : H a = some (.frz o (.dK ws))) (h : Den K as H v p) : Den K as (upd H a u) v p :=
 match h with
 | .non => .non
 | .bl => .bl
 | .int => .int
 | .str => .str
 | .ref q => .ref q
 | .tup q r t => .tup (SqT.thaw e q) (Dens.thaw e r) (by rw [Yf (by rintro rfl; rw [e] at t; cases t)]; exact t)
theorem Dens.thaw {vs : List V} {ps : List P} (e : H a = some (.frz o (.dK ws))) (h : Dens K as H vs ps) : Dens K as (upd H a u) vs ps :=
 match h with
 | .nil => .nil
 | .cons x r => .cons (Den.thaw e x) (Dens.thaw e r)
end
theorem Ynl.thaw {b : Addr} {ob : O} (e : H a = some (.frz o (.dK ws))) (hb : b ≠ a) (h : Ynl K as H b ob) : Ynl K as (upd H a u) b ob := by
 cases ob with
 | lst xs => obtain ⟨vs, h1, h2⟩ := h; exact ⟨vs, by rw [Yf hb]; exact h1, h2.thaw e⟩
 | ro xs =>
  obtain ⟨vs, h1, h2⟩ := h
  refine ⟨vs, ?_, h2.thaw e⟩
  rcases h1 with ⟨o, h1⟩ | h1
  ·exact .inl ⟨o, by rw [Yf hb]; exact h1⟩
  ·exact .inr h1
 | dct kvs => obtain ⟨ws, h1, h2, h3⟩ := h; exact ⟨ws, by rw [Yf hb]; exact h1, h2, h3.thaw e⟩
 | exc c fs =>
  obtain ⟨C, od, h1, h2, h3⟩ := h
  refine ⟨C, od, h1, by rw [Yf hb]; exact h2, ?_⟩
  rcases h3 with h3 | ⟨d, ws, h4, h5, h6, h7⟩
  ·exact .inl h3
  ·exact .inr ⟨d, ws, h4, by rw [Yf (by rintro rfl; rw [e] at h5; cases h5)]; exact h5, h6, h7.thaw e⟩
 | dtt kvs => obtain ⟨ws, h1, h2, h3⟩ := h; exact ⟨ws, by rw [Yf hb]; exact h1, h2, h3.thaw e⟩
 | fdc kvs => obtain ⟨o, ws, h1, h2, h3⟩ := h; exact ⟨o, ws, by rw [Yf hb]; exact h1, h2, h3.thaw e⟩
theorem Rep.thaw {k : Nat} {kvs : List (Key × P)} (r : Rep K as st H) (hk : as[k]? = some a) (e : H a = some (.frz o (.dK ws))) (hs : st[k]? = some (.fdc kvs)) : Rep K as (st.set k (.dct kvs)) (upd H a (.dK ws)) where
 len := by rw [ZBw]; exact r.len
 nd := fun i j b hi hj ni nj => by
  have key : ∀ (i : Nat), (¬ YmT (st.set k (.dct kvs))[i]?) -> ¬ YmT st[i]? := fun i ni z => by
   by_cases h : k = i
   ·subst h; rw [hs] at z; exact z
   ·rw [ZAL h] at ni; exact ni z
  exact r.nd i j b hi hj (key i ni) (key j nj)
 ob := fun i b q hi hq => by
  have hkl : k < st.length := (ZAB.mp hs).1
  by_cases h : k = i
  ·subst h
   rw [hk] at hi; cases hi
   rw [ZAR hkl] at hq
   cases hq
   obtain ⟨o2, ws2, h1, h2, h3⟩ := r.ob k a _ hk hs
   rw [e] at h1; cases h1
   exact ⟨ws, Yn, h2, h3.thaw e⟩
  ·rw [ZAL h] at hq
   have old := r.ob i b q hi hq
   show 206
   ·subst hb
    by_cases hr : YmT st[i]?
    ·rw [hq] at hr
     cases q with
     | ro xs =>
      obtain ⟨vs, h1, h2⟩ := old
      refine ⟨vs, ?_, h2.thaw e⟩
      rcases h1 with ⟨ob, h1⟩ | h1
      ·rw [e] at h1; cases h1
      ·exact .inr h1
     | _ => exact hr.elim
    ·exact absurd (r.nd k i b hk hi (by rw [hs]; exact fun z => z) hr) h
   ·exact old.thaw e hb
theorem YlI.thaw {ρ : Rho} {σ : St} (e : H a = some (.frz o (.dK ws))) (h : YlI K as H ρ σ) : YlI K as (upd H a u) ρ σ :=
 ⟨h.len, fun i p q => let ⟨v, h1, h2⟩ := h.val i p q; ⟨v, h1, h2.thaw e⟩⟩
end
def Yoc (i : Nat) (m : MS) : MS := fun ρ st => match ρ[i]? with
 | some (some (.ref k)) => (match st[k]? with
  | some (.dct kvs) => (match m ρ (st.set k (.fdc kvs)) with
   | .nx ρ' st' => (match st'[k]? with
    | some (.fdc kvs') => .nx ρ' (st'.set k (.dct kvs'))
    | _ => .bad)
   | _ => .bad)
  | _ => .bad)
 | _ => .bad
section
variable {X : Cx} {tg : Expr}
theorem YjV {sm : Stmt} {m : MS} {i : Nat} (h : JS X sm m) : JS X sm (Yoc i m) := by
 intro pins s σ H D I ⟨as, ρ, st, en, rp, q⟩
 unfold Yoc at q
 cases z1 : ρ[i]? with
 | none => simp only [z1] at q; exact q.elim
 | some o1 => cases o1 with
  | none => simp only [z1] at q; exact q.elim
  | some p => cases p with
   | ref k =>
    simp only [z1] at q
    cases z2 : st[k]? with
    | none => simp only [z2] at q; exact q.elim
    | some ob => cases ob with
     | dct kvs =>
      simp only [z2] at q
      cases z3 : m ρ (st.set k (.fdc kvs)) with
      | nx ρ' st' =>
       simp only [z3] at q
       cases z4 : st'[k]? with
       | none => simp only [z4] at q; exact q.elim
       | some ob2 => cases ob2 with
        | fdc kvs' =>
         simp only [z4] at q
         obtain ⟨v, _, dv⟩ := en.val i _ z1
         cases dv with
         | @ref _ a hk =>
          obtain ⟨ws, e, ek, ed⟩ := rp.ob k a _ hk z2
          obtain ⟨o, I1⟩ := I.freeze e
          have xw : Ext as H as (upd H a (.frz o (.dK ws))) := Ext.write e trivial
          have rp1 : Rep X.K as (st.set k (.fdc kvs)) (upd H a (.frz o (.dK ws))) := rp.write hk e trivial (fun z => z) (by rw [z2]; exact fun z => z) ⟨o, ws, Yn, ek, ed.ext xw⟩
          refine thn (h pins s σ _ ⟨fun σ' H' => ∃ as', Ext as (upd H a (.frz o (.dK ws))) as' H' /\ Rep X.K as' st' H' /\ YlI X.K as' H' ρ' σ', fun _ _ => False, fun _ _ => False, fun _ _ => False⟩ I1 ⟨as, ρ, _, en.ext xw, rp1, by rw [z3]; exact fun as' H' σ' x r n => ⟨as', x, r, n⟩⟩) fun f s' hf => ?_
          cases f with
          | next =>
           obtain ⟨σ', H', I', as', x, r, n⟩ := hf
           have e' : H' a = some (.frz o (.dK ws)) := x.keep a _ Yn (fun z => z)
           have n1 : ∀ xs, X.H₀ a ≠ some (.tup xs) := fun xs z => by have := I.base.tups a xs z; rw [e] at this; cases this
           have n2 : ∀ o u, X.H₀ a ≠ some (.frz o u) := fun o u z => by have := I.base.frzs a o u z; rw [e] at this; cases this
           have n3 : ∀ ps, X.H₀ a ≠ some (.tbl ps) := fun ps z => by obtain ⟨_, t⟩ := I.base.tbls a ps z; rw [e] at t; cases t
           refine ⟨σ', _, I'.thaw e' n1 n2 n3, q as' _ σ' ⟨fun k b t => x.pre k b t, fun b w t nm => ?_⟩ (r.thaw (x.pre k a hk) e' z4) (n.thaw e')⟩
           have hb : b ≠ a := by rintro rfl; rw [e] at t; cases t; exact nm trivial
           rw [Yf hb]
           exact x.keep b w (by rw [Yf hb]; exact t) nm
          | brk => obtain ⟨_, _, _, z⟩ := hf; exact z.elim
          | cont => obtain ⟨_, _, _, z⟩ := hf; exact z.elim
          | ret u => obtain ⟨_, _, _, _, _, z⟩ := hf; exact z.elim
        | _ => simp only [z4] at q; exact q.elim
      | _ => simp only [z3] at q; exact q.elim
     | _ => simp only [z2] at q; exact q.elim
   | _ => simp only [z1] at q; exact q.elim
def kP : Key -> P
 | .inl i => .int i
 | .inr x => .str x
theorem Yj9 {K : Frag} {as : List Addr} {H : Hp} (k : Key) : Den K as H (kV k) (kP k) := by
 cases k with
 | inl i => exact .int
 | inr x => exact .str
def YmN (kvs : List (Key × P)) : Src := ⟨kvs.length, fun i _ => some ((kvs[i]?).map fun p => kP p.1)⟩
theorem Yea {K : Frag} {as : List Addr} {H : Hp} {a : Addr} {o : Obj} {ws : List (Key × V)} {kvs : List (Key × P)} (e : H a = some (.frz o (.dK ws))) (hk : ws.map (·.1) = kvs.map (·.1)) : Ynw K as H (YmN kvs) (Itk a o ws) where
 go := fun i as2 st2 H2 p x rp q => by
  have q' : (kvs[i]?).map (fun p => kP p.1) = some p := Option.some.inj q
  have hl : ws.length = kvs.length := by simpa using congrArg List.length hk
  cases w : kvs[i]? with
  | none => rw [w] at q'; cases q'
  | some kv =>
   rw [w] at q'
   cases q'
   have hi : i < kvs.length := (ZAB.mp w).1
   refine ⟨⟨x.keep a _ e (fun z => z), by omega⟩, fun y H3 ⟨z1, pr, z2, z3⟩ => ?_⟩
   subst z1; subst z3
   have : (ws.map (·.1))[i]? = (kvs.map (·.1))[i]? := by rw [hk]
   rw [ZAZ, ZAZ, z2, w] at this
   have e2 : pr.1 = kv.1 := by simpa using this
   rw [e2]
   exact ⟨Ext.refl, rp, Yj9 _⟩
 stop := fun i as2 st2 H2 x rp q => by
  have q' : (kvs[i]?).map (fun p => kP p.1) = none := Option.some.inj q
  have hl : ws.length = kvs.length := by simpa using congrArg List.length hk
  have : kvs.length <= i := by simpa using q'
  exact ⟨x.keep a _ e (fun z => z), by omega⟩
def Ynq (me : ME) : MI := fun ρ st => (me ρ st).bind fun p st1 => match p with
 | .ref k => (match st1[k]? with
  | some (.fdc kvs) => .ok (YmN kvs) st1
  | _ => .bad)
 | _ => .bad
theorem Yhz {e : Expr} {me : ME} (he : JE X e me) : JI X tg e (Ynq me) := by
 show 255
 refine thn (he pins s σ H (fun x H1 => ∃ a o ws, x = .ref a /\ H1 a = some (.frz o (.dK ws)) /\ R (Itk a o ws) H1) I
  ⟨as, ρ, st, en, rp, YlZ.bindE h fun p st1 as1 H1 v x rp1 d h1 => ?_⟩) fun v s1 ⟨x, H1, I1, r1, a, o, ws, ex, e1, q1⟩ => by subst ex; cases r1; exact YhO I1 e1 q1
 cases d with
 | @ref k a hk =>
  dsimp only at h1
  cases z : st1[k]? with
  | none => simp only [z] at h1; exact h1.elim
  | some ob => cases ob with
   | fdc kvs =>
    simp only [z] at h1
    obtain ⟨o, ws, g1, g2, g3⟩ := rp1.ob k a _ hk z
    exact ⟨a, o, ws, rfl, g1, h1 as1 H1 _ Ext.refl rp1 (Yea g1 g2)⟩
   | _ => simp only [z] at h1; exact h1.elim
 | _ => show 152
def YoU : G2 := fun p q st => match p with
 | .ref k => (match st[k]? with
  | some (.fdc kvs) => (match Ymt q with
   | some key => (YlL kvs key).map fun p => (p, st)
   | none => none)
  | _ => none)
 | _ => none
end
section
variable {X : Cx} {a b : Expr} {ma mb : ME} {pos : Pos}
theorem Yi8 (hu : X.A.units + 1 < cLine) : IxR X (rM X YoU) := IxR.imp (YbI hu) fun x y H Q ⟨as, st, p, q, rp, d1, d2, h⟩ => by
 cases d1 with
 | @ref k a e =>
  have h' : YlG X as H (match st[k]? with
   | some (.fdc kvs) => (match Ymt q with
    | some key => (YlL kvs key).map fun p => (p, st)
    | none => none)
   | _ => none) Q := h
  cases z : st[k]? with
  | none => show 222
  | some ob => cases ob with
   | fdc kvs =>
    simp only [z] at h'
    obtain ⟨o, ws, h1, h2, h3⟩ := rp.ob k a _ e z
    cases w : Ymt q with
    | none => show 229
    | some key =>
     simp only [w] at h'
     have ev := Vb d2 w
     subst ev
     cases zz : YlL kvs key with
     | none => rw [zz] at h'; exact h'.elim
     | some p =>
      rw [zz] at h'
      have od := Zk (k := key) h2 h3
      rw [zz] at od
      cases hv : YmK ws key with
      | none => rw [hv] at od; cases od
      | some v =>
       rw [hv] at od
       cases od with
       | some dd => exact ⟨a, v, rfl, .inl ⟨ws, key, .inr ⟨o, h1⟩, rfl, hv.symm⟩, h' as H _ Ext.refl rp dd⟩
   | _ => show 222
 | _ => show 144
end
section
variable {X : Cx} {e : Expr} {me : ME} {p1 c1 : Pos}
end
end Mi
namespace Mi
open PySem PySem.Spec L2
open PyProof.Rows hiding St
section
variable {prog : Program} {w : World} {A : Around} {E : VSP} {s : Shared}
theorem YaE {d : Addr} {o : Obj} {es : Array DictEntry} {ep : Nat} {xs : List (List Key × Addr × Value)} {x : Str} {t : Tok} {hs : Int} {Q : Option Nat -> Shared -> Prop} (hu : A.units < cLine)
 (ho : s.heap.get? d = some o) (hd : o.data = .dict es ep) (he : es.toList = xs.map (entryOfKey (tupleKind (Ylv prog w)))) (his : ∀ x ∈ xs, (tupleKind (Ylv prog w)).is s.heap x.1 x.2.1)
 (h : Q none s) : wpAny (model prog w) A (dictFind d (.str x t) hs) Q E s := by
 have hmem : ∀ e ∈ es, ∃ b ks, e.key = .ref b /\ IsTupleKey (Ylv prog w) s.heap ks b := by
  intro e hin
  have : e ∈ xs.map (entryOfKey (tupleKind (Ylv prog w))) := he ▸ ZCY.mpr hin
  obtain ⟨y, hy, rfl⟩ := ZAY.mp this
  exact ⟨y.2.1, y.1, rfl, his y hy⟩
 unfold dictFind
 refine ZAi ?_
 refine ZAA (wpAny_dictEntries ho hd ?_)
 show 145
 by_cases hall : (es.all fun e => isExactStrKey e.key) = true
 ·rw [ZAF hall]
  have hz : es = #[] := by
   rcases Nat.eq_zero_or_pos es.size with z | z
   ·exact Array.eq_empty_of_size_eq_zero z
   ·exfalso
    have hin : es[0] ∈ es := Array.getElem_mem z
    obtain ⟨b, ks, e, _⟩ := hmem _ hin
    have := Array.all_eq_true_iff_forall_mem.mp hall _ hin
    rw [e] at this
    cases this
  subst hz
  unfold foundByValue
  have e0 : Array.findIdx? (fun e : DictEntry => e.key.isStr x) #[] = none := by simp
  rw [e0]
  exact ZAC h
 ·rw [ZAE hall]
  have hst : ∀ v ∈ (placesWithHash es.size (fun i => es[i]?.map (·.hash)) hs).filterMap (fun i => es[i]?.map (·.key)), ∃ b ks, v = .ref b /\ IsTupleKey (Ylv prog w) s.heap ks b := by
   intro v hv
   obtain ⟨i, _, hi⟩ := ZCA.mp hv
   cases hei : es[i]? with
   | none => rw [hei] at hi; cases hi
   | some e =>
    rw [hei] at hi
    obtain rfl : e.key = v := by simpa using hi
    exact hmem e (ZCW hei)
  generalize hS : (placesWithHash es.size (fun i => es[i]?.map (·.hash)) hs).filterMap (fun i => es[i]?.map (·.key)) = stored at hst ⊢
  by_cases hz : stored = []
  ·subst hz
   rw [if_pos (by simp [carriedByValue])]
   have hno : ∀ i ∈ placesWithHash es.size (fun i => es[i]?.map (·.hash)) hs, es[i]? = none := fun i hi => by
    have := List.filterMap_eq_nil_iff.mp hS i hi
    show 195
   unfold dictWalkPlain
   refine ZAA (ZCM _ (fun rest r s' => s' = s /\ r = (none, ()) /\ ∀ i ∈ rest, es[i]? = none) _ ?_ ?_ _ _ ⟨rfl, rfl, hno⟩)
   ·rintro i rest r s' ⟨rfl, rfl, hr⟩
    rw [hr i ZAM]
    exact ZAC ⟨rfl, rfl, fun j hj => hr j (ZAQ _ hj)⟩
   ·rintro r s' ⟨rfl, rfl, _⟩
    exact ZAC h
  ·have hnall : ¬ ((Value.str x t :: stored).all carriedByValue) = true := by
    intro z
    cases stored with
    | nil => exact hz rfl
    | cons v r =>
     obtain ⟨b, _, rfl, _⟩ := hst v (ZAM ..)
     simp [carriedByValue] at z
   rw [ZAE hnall]
   have hne1 : ¬ (stored == [Value.str x t]) = true := by
    intro z
    cases stored with
    | nil => exact hz rfl
    | cons v r =>
     obtain ⟨b, _, rfl, _⟩ := hst v (ZAM ..)
     have := eq_of_beq z
     cases this
   rw [ZAE hne1]
   show 156
   have quiet : wpAny (model prog w) A (tableMayTell (.str x t) stored) (fun b s' => b = false /\ s' = s) E s := by
    unfold tableMayTell
    split
    ·show 257
    ·show 218
     simp only [Bool.not_true, Bool.false_eq_true, if_false]
     show 156
     refine ZCM _ (fun rest r s' => s' = s /\ r = (none, ()) /\ ∀ v ∈ rest, ∃ b ks, v = .ref b /\ IsTupleKey (Ylv prog w) s.heap ks b) _ ?_ ?_ _ _ ⟨rfl, rfl, hst⟩
     ·rintro y rest r s' ⟨rfl, rfl, hr⟩
      obtain ⟨b, ks, rfl, hb⟩ := hr y ZAM
      refine ZAA (wpAny_eqIsQuiet_tuple hb ?_)
      simp only [Bool.not_true, Bool.false_eq_true, if_false]
      exact ZAC ⟨rfl, rfl, fun v hv => hr v (ZAQ _ hv)⟩
     ·rintro r s' ⟨rfl, rfl, _⟩
      show 257
   refine ZA8 quiet (fun b s' hb => ?_) (fun _ _ z => z)
   obtain ⟨rfl, rfl⟩ := hb
   rw [if_neg (by simp)]
   show 156
   refine ZCM _ (fun rest r s2 => s2 = s' /\ r = (none, none)) _ ?_ ?_ _ _ ⟨rfl, rfl⟩
   ·rintro i rest r s2 ⟨rfl, rfl⟩
    cases hei : es[i]? with
    | none => show 257
    | some e =>
     obtain ⟨b, ks, hk, hb⟩ := hmem e (ZCW hei)
     show 145
     by_cases hh : (e.hash == hs) = true
     ·rw [ZAF hh, hk]
      obtain ⟨ob, items, n, g1, g2, g3, _⟩ := hb
      refine ZAA (wpAny_dictEpoch ho hd (ZAA (SeqAt.EqAt.tuple_str x t ⟨ob, g1, g2, n, g3⟩ hu _ _ _ _ (ZAA (wpAny_dictEpoch ho hd ?_)))))
      show wpAny _ _ (if (ep != ep) = true then _ else _) _ E _
      rw [if_neg (by simp)]
      show 256
      refine ZAA (ZBn ?_)
      first | rw [if_neg (by simp)] | skip
      first
       | exact ZAC ⟨rfl, rfl⟩
       | exact ZAA (ZAC (ZAC ⟨rfl, rfl⟩))
     ·rw [ZAE hh]
      show 257
   ·rintro r s2 ⟨rfl, rfl⟩
    exact ZAC h
theorem YiD {d : Addr} {xs : List (List Key × Addr × Value)} {x : Str} {t : Tok} {Q : VSP} (hu : A.units + 1 < cLine) (hd : (d == sysModules) = false) (hm : s.heap.DictOfH (tupleKind (Ylv prog w)) d xs)
 (h : Q (.bool false) { s with toks := s.toks + 1 }) : wpAny (model prog w) A (compareOp .In (.str x t) (.ref d)) Q E s := by
 show wpAny _ _ (do return .bool (<- contains (.ref d) (.str x t))) Q E s
 show 156
 unfold contains
 show 244
 refine ZAA (ZCP hm.typeIs slot_dict_contains.lookup ?_)
 show wpAny _ _ (if (some (Value.builtin "dict.__contains__") == some Value.none) = true then _ else _) _ E s
 rw [ZAE (by rw [beq_builtin_none]; exact ZAO)]
 refine ZAA (wpAny_callSpecialUnlessNone?_slot (name := Str.ofString "__contains__") hm.typeIs slot_dict_contains
  (ZAj slot_dict_contains hm.typeIs entry_dict_contains ?_ (args_dict_contains _ _)))
 show wpAny _ _ (dictGet d (.str x t) >>= _) _ _ s
 obtain ⟨o, es, ep, ho, _, hdt, he, his, hn⟩ := hm
 show 156
 unfold dictGet
 show 244
 refine ZAA (wpAny_pyHash_str (ZAA (YaE (s := { s with toks := s.toks + 1 }) (by have : A.in1.units = A.units + 1 := rfl; omega) ho hdt he his ?_)))
 show 170
 show wpAny _ _ (Builtin.Dict.pendingKey? d (.str x t) >>= _) _ _ _
 exact ZAA (wpAny_pendingKey_other hd (ZAC ⟨_, rfl, ZBg (ZAC h)⟩))
end
def Yox : P -> Bool
 | .str _ => true
 | _ => false
def YnO : G2 := fun p q st => if ((YlT q st).isSome && Yox p) = true then okP (.bl false) st else YoA p q st
section
variable {X : Cx}
theorem Yku (hu : X.A.units + 1 < cLine) : OpR X (compareOp .In) (rM X YnO) := opM fun pins s σ H x y v u Q as st p q I rx ry rp d1 d2 h => by
 have h' : YlG X as H (if ((YlT q st).isSome && Yox p) = true then okP (.bl false) st else YoA p q st) Q := h
 by_cases c : ((YlT q st).isSome && Yox p) = true
 ·rw [ZAF c] at h'
  obtain ⟨c1, c2⟩ := (ZAk _ _).mp c
  cases z : YlT q st with
  | none => rw [z] at c1; cases c1
  | some kvs =>
   obtain ⟨k, a, ws, rfl, _, rfl, e, g4, g5, g6⟩ := V5 rp d2 z
   cases d1 with
   | @str zz =>
    cases ry
    obtain ⟨t, rfl⟩ : ∃ t, v = .str zz t := rx
    obtain ⟨z1, hd, xs, rel, dd⟩ := Yg9 I.hok g4
    exact YiD hu hd dd ⟨.bl false, H, I.tok _, rfl, h' as H _ Ext.refl rp .bl⟩
   | _ => cases c2
 ·rw [ZAE c] at h'
  exact Ykj hu pins s σ H x y v u Q I rx ry ⟨as, st, p, q, rp, d1, d2, h'⟩
end
end Mi
namespace Mi
open PySem PySem.Spec L2
open PyProof.Rows hiding St
def Yne (p : P) (st : Ylo) : Bool := match p with
 | .ref k => (match st[k]? with
  | some (.fdc _) => true
  | _ => false)
 | _ => false
def Yoo : G2 := fun p q st => if Yne p st = true then YoU p q st else ixP p q st
def YnF : GM := fun p ps st => match p, ps with
 | .ref k, [q] => (match YlM st k with
  | some xs => if YlO q = true /\ xs.all YlO = true /\ xs.findIdx (fun y => eqF y q) < xs.length /\ xs.length <= 1000000 then okP (.int ((xs.findIdx fun y => eqF y q : Nat) : Int)) st else none
  | none => none)
 | _, _ => none
theorem Ybc {x : V} : ∀ {xs : List V} {us : List Value}, Vals xs us -> xs.all YmL = true -> us.findIdx (eqU x) = xs.findIdx fun y => eqV y x
 | _, _, .nil, _ => rfl
 | _, _, .cons r t, h => by
  rw [ZBL, ZAk] at h
  rw [ZBj, ZBj, Ybc t h.2, YcZ r h.1]
theorem Ybi {K : Frag} {as : List Addr} {H : Hp} {w : V} {q : P} (e : Den K as H w q) (h' : YlO q = true) : ∀ {vs : List V} {ps : List P}, Dens K as H vs ps -> ps.all YlO = true -> (vs.findIdx fun y => eqV y w) = ps.findIdx fun y => eqF y q
 | _, _, .nil, _ => rfl
 | _, _, .cons d r, h => by
  rw [ZBL, ZAk] at h
  rw [ZBj, ZBj, Ybi e h' r h.2, Yd2 d e h.1 h']
section
variable {X : Cx} {a b : Expr} {ma mb : ME} {pos : Pos}
theorem Yja (hu : X.A.units + 1 < cLine) : IxR X (rM X Yoo) := fun value slice pins s σ H x y v u Q I rx ry ⟨as, st, p, q, rp, d1, d2, h⟩ => by
 have h' : YlG X as H (if Yne p st = true then YoU p q st else ixP p q st) Q := h
 by_cases c : Yne p st = true
 ·rw [ZAF c] at h'
  exact Yi8 hu value slice pins s σ H x y v u Q I rx ry ⟨as, st, p, q, rp, d1, d2, h'⟩
 ·rw [ZAE c] at h'
  exact Yhi hu value slice pins s σ H x y v u Q I rx ry ⟨as, st, p, q, rp, d1, d2, h'⟩
theorem YjF (hu : X.A.units + 1 < cLine) (ha : JE X a ma) (hb : JE X b mb) (hs : Ynb b) : JE X (.Subscript a b pos) (Ylq Yoo ma mb) := PE.imp (YfS (Yja hu) ha hb hs) fun _ _ _ h => VQ h
theorem Yev : MtR X "list.index" (rMM X YnF) := mM fun pins s σ H x xs v us Q as st p ps I rx rv rp d1 d2 h => by
 match p, ps, d1, d2, h with
 | .ref k, [q], d1, d2, h =>
  have h' : YlG X as H (match YlM st k with | some xs => if YlO q = true /\ xs.all YlO = true /\ xs.findIdx (fun y => eqF y q) < xs.length /\ xs.length <= 1000000 then okP (.int ((xs.findIdx fun y => eqF y q : Nat) : Int)) st else none | none => none) Q := h
  cases z : YlM st k with
  | none => rw [z] at h'; exact h'.elim
  | some ys =>
   show 168
   obtain ⟨a, vs, rfl, e, hk, h1, h2⟩ := Vj rp d1 z
   obtain ⟨y, rfl, dy⟩ := d2.one
   obtain ⟨u, rfl, ru⟩ := vals1 rv
   cases rx
   by_cases c : YlO q = true /\ ys.all YlO = true /\ ys.findIdx (fun y => eqF y q) < ys.length /\ ys.length <= 1000000
   ·simp only [if_pos c] at h'
    obtain ⟨c1, c2, c3, c4⟩ := c
    obtain ⟨hz, its, n, rv', hl⟩ := (show YlV X.prog X.w H s.heap a (.lst vs) from I.hok a _ h1)
    have e1 : its.findIdx (eqU y) = ys.findIdx fun w => eqF w q := by
     rw [Ybc rv' (Wg h2 c2), Ybi dy c1 h2 c2]
    have el : its.length = ys.length := by rw [<- rv'.length, h2.length]
    have hj : its.findIdx (eqU y) < its.toArray.size := by rw [e1, ZAl, el]; exact c3
    refine call_meets F.slot_list_index ⟨_, hl, rfl⟩ F.entry_list_index (F.args_list_index_2 _ _) (SeqAt.list_indexAt a its.toArray n none #[] u (eqU y) (its.findIdx (eqU y)) hj (by rw [e1]; omega) (by
     have := List.findIdx_getElem (p := eqU y) (xs := its) (w := by simpa using hj)
     simpa using this) (fun m hm hlt => by
     have := List.not_of_lt_findIdx hlt
     simpa using this)) ⟨hl, fun z hz' => Wh ru (VI dy c1) rv' (Wg h2 c2) z (by simpa using hz'), ?_⟩
    rw [e1]
    exact ⟨.int _, H, I.tok _, ⟨_, rfl⟩, h' as H _ Ext.refl rp .int⟩
   ·simp only [if_neg c] at h'; exact h'.elim
 | .ref k, [], _, _, h => show 144
 | .ref k, _ :: _ :: _, _, _, h => show 144
 | .non, _, _, _, h => show 144
 | .bl _, _, _, _, h => show 144
 | .int _, _, _, _, h => show 144
 | .str _, _, _, _, h => show 144
 | .tup _, _, _, _, h => show 144
end
end Mi
namespace Mi
open PySem PySem.Spec L2
open PyProof.Rows hiding St
section
variable {prog : Program} {w : World} {A : Around} {E : VSP} {s : Shared}
theorem Yda {d : Addr} (hd : (d == sysModules) = false) :
 MeetsIn prog w (Builtin.«dict.__len__» ⟨[.ref d], []⟩) (fun _ R s => ∃ o es ep, s.heap.get? d = some o /\ o.data = .dict es ep /\ R (.ok (.ret (.int (es.size : Nat) s.toks))) { s with toks := s.toks + 1 }) :=
 .of_wp fun A R s ⟨o, es, ep, ho, hdat, h⟩ => by
  show wpAny _ _ (dictSize d >>= _) _ _ s
  unfold dictSize
  refine ZAA (ZAA (wpAny_dictEntries ho hdat (ZAC ?_)))
  show wpAny _ _ (Builtin.Dict.pendingCount d >>= _) _ _ s
  refine ZAA (wpAny_pendingCount_other hd ?_)
  refine wpAny_ret_mkInt ?_
  rw [Nat.add_zero]; exact h
theorem Yd4 {d : Addr} {o : Obj} {es : Array DictEntry} {ep n : Nat} {Q : VSP} (hd : (d == sysModules) = false) (ho : s.heap.get? d = some o) (hx : o.ExactDict) (hdt : o.data = .dict es ep) (hn : es.size = n) (hfit : (n : Int) < 2 ^ 63)
 (h : Q (.int n (s.toks + 1)) { s with toks := s.toks + 1 + 1 }) : wpAny (model prog w) A (call (.builtin "len") [.ref d]) Q E s := by
 have hT : s.TypeIs (.ref d) "dict" := ⟨o, ho, hx.1⟩
 refine Calls.call_function_entry kind_len plain_len entry_len (args_len1 _) ?_
 unfold Builtin.«len»
 refine ZAA (m := oneArg "len" _) (ZAC ?_)
 refine ZAA (m := callSpecial? (.ref d) (Str.ofString "__len__")) (wpAny_callSpecial?_slot (name := Str.ofString "__len__") hT F.slot_dict_len
  (call_meetsIn F.slot_dict_len hT F.entry_dict_len (F.args_dict_len_1 _) (Yda hd) ⟨o, es, ep, ho, hdt, ?_⟩))
 rw [hn]
 show wpAny _ _ _ _ _ { s with toks := s.toks + 1 }
 refine ZAA (ZAi (ZAC ?_))
 refine ZAA (ZCU ?_)
 show wpAny _ _ (if ((n : Nat) : Int) < 0 then _ else _) _ _ _
 rw [ZAE (by omega)]
 show wpAny _ _ (if ((n : Nat) : Int) >= 2 ^ 63 then _ else _) _ _ _
 rw [ZAE (by omega)]
 exact ZAA (wpAny_mkInt (ZAC ⟨_, rfl, h⟩))
end
def Ync : GC := fun ps st => match ps with
 | [p] => (match YlT p st with
  | some kvs => okP (.int kvs.length) st
  | none => Ymw ps st)
 | _ => Ymw ps st
section
variable {X : Cx}
theorem YhU : Yl2 X (.builtin "len") (rMC X Ync) := cM fun pins s σ H xs us Q as st ps I rv rp d h => by
 match ps, d, h with
 | [], d, h => exact ZC pins s σ H xs us Q I rv ⟨as, st, [], rp, d, h⟩
 | a :: b :: r, d, h => exact ZC pins s σ H xs us Q I rv ⟨as, st, a :: b :: r, rp, d, h⟩
 | [p], d, h =>
  have h' : YlG X as H (match YlT p st with | some kvs => okP (.int kvs.length) st | none => Ymw [p] st) Q := h
  cases z : YlT p st with
  | none => rw [z] at h'; exact ZC pins s σ H xs us Q I rv ⟨as, st, [p], rp, d, h'⟩
  | some kvs =>
   show 168
   show 245
   obtain ⟨k, a, ws, rfl, _, rfl, e, g4, g5, g6⟩ := V5 rp d1 z
   obtain ⟨u, rfl, ru⟩ := vals1 rv
   cases ru
   have hl : ws.length = kvs.length := by simpa using congrArg List.length g5
   obtain ⟨z1, hd, xs, rel, o, es, ep, ho, hx, hdt, he, _, _⟩ := Yg9 I.hok g4
   have hsz : es.size = ws.length := by rw [size_of_entries he, Paired.length rel]
   refine Yd4 hd ho hx hdt hsz (by rw [sizeLine_eq] at z1; omega) ⟨.int _, H, I.tok _, ⟨_, rfl⟩, ?_⟩
   rw [hl]
   show 252
end
end Mi
set_option maxHeartbeats 4000000
namespace G
open PySem PySem.Spec L2 Mi
open PyProof.Rows hiding St
def top (i : Nat) : Stmt := PySem.Challenge.pw_gapwords_k51_places_tied.main.body.getD i (.Pass ⟨0, 0, 0, 0⟩)
def V0 : MS :=
 (sRet (Ynd leP leP (eC (.str "a")) (Yll 0) (eC (.str "z"))))
def ZI : MF := fnM 1 V0
def Wq : MS :=
 (sRet (Ynd leP leP (eC (.str "A")) (Yll 0) (eC (.str "Z"))))
def Y2 : MF := fnM 1 Wq
def Wo : MS :=
 (sRet (Ym2 (eC (.str "")) (Ymr (YmF (Yll 0)) 2 [] (Yma 2 (YlD (Ylp 0) (YlD (Ylp 1) Ymg))) Ymv (Ylq Yl1 (Yll 0) (Yll 1)))))
def Y1 : MF := fnM 1 Wo
def Yas : MS :=
 (sRet (Ym2 (eC (.str "")) (YmC (Yll 0))))
def WN : MF := fnM 1 Yas
def Ve : MS :=
 (sRet (YlK 1 WN (Ylm (Ymo (Ymr (YmF (YlK 1 Y1 (Ylm (Yll 0) Yls))) 1 [] (Ylp 0) (YlQ (YlK 1 Y2 (Ylm (Yll 0) Yls))) (Yll 0))) Yls)))
def YU : MF := fnM 1 Ve
def YbQ : MS :=
 (sIf (YlQ (YlK 1 ZI (Ylm (Yll 3) Yls)))
 (sDrop (eM Ymq Yl5 (Yll 2) (Ylm (Yll 3) Yls)))
 (sDrop (eM Ymq YmG (Yll 2) (Ylm (Ymo (Ymr (Ymi (Ylm (Ylq Yoo (Yll 1) (Yll 3)) Yls)) 1 [3] (Ylp 0) Ymv (Yob (Ylm (Yll 1) (Ylm (Yll 0) Yls))))) Yls))))
def Ydd : MS :=
 (Ylt (YlB 2 (Ymo (lMk Yls)))
 (Ylt (sFor (YmF (Yll 0)) (Ylp 3)
 YbQ)
 (sRet (Yll 2))))
def WQ : MF := fnM 4 Ydd
def ZL : MS :=
 (YlB 2 (Ylq YnE (Yll 0) (Yll 2)))
def VM : MS :=
 (Ylt (YlB 2 (Yll 1))
 (Ylt (YmZ (Yl0 (Ylq YnO (Yll 2) (Yll 0)))
 ZL)
 (sRet (Yll 2))))
def Y4 : MF := fnM 3 VM
def Yge : MS :=
 (Ylt (YlB 3 (YlK 2 Y4 (Ylm (Yll 0) (Ylm (Yll 1) Yls))))
 (Ylt (YlB 4 (YlK 2 Y4 (Ylm (Yll 0) (Ylm (Yll 2) Yls))))
 (Ylt (sIf (Yl0 (Ylq eqP (Yll 3) (Yll 4)))
 (sRet (eC (.bl true)))
 Yl8)
 (Ylt (sIf (Yme (YlQ (YlY "str" (Yll 3))))
 (YmD (Yll 0) (Yll 3) (Yll 4))
 (sIf (Yme (YlQ (YlY "str" (Yll 4))))
 (YmD (Yll 0) (Yll 4) (Yll 3))
 (sRet (eC (.bl false)))))
 (sRet (eC (.bl true)))))))
def Jg : MF := fnM 5 Yge
def ZF : MS :=
 (sIf (Yme (YlQ (YlK 3 Jg (Ylm (Yll 0) (Ylm (Yll 3) (Ylm (Yll 4) Yls))))))
 (sRet (eC (.bl false)))
 Yl8)
def WG : MS :=
 (Ylt (sIf (Yl0 (Ylq neP (eB Ymw (Ylm (Yll 1) Yls)) (eB Ymw (Ylm (Yll 2) Yls))))
 (sRet (eC (.bl false)))
 Yl8)
 (Ylt (sFor (Yn5 (Ylm (Yll 1) (Ylm (Yll 2) Yls))) (Yma 2 (YlD (Ylp 3) (YlD (Ylp 4) Ymg)))
 ZF)
 (sRet (eC (.bl true)))))
def YF : MF := fnM 5 WG
def YbA : MS :=
 (Ylt (YlB 3 (YlK 2 Y4 (Ylm (Yll 0) (Ylm (Yll 2) Yls))))
 (Ylt (sIf (YlQ (YlY "str" (Yll 3)))
 (sRet (Yll 3))
 Yl8)
 (Ylt (sIf (Yl0 (Ylq YmO (Yll 3) (Yll 1)))
 (YmD (Yll 1) (Yll 3) (eB Ync (Ylm (Yll 1) Yls)))
 Yl8)
 (sRet (Ylq YnE (Yll 1) (Yll 3))))))
def ZY : MF := fnM 4 YbA
def Jx : MS :=
 (sIf (Yme (YlQ (YlK 3 YF (Ylm (Yll 3) (Ylm (YlK 2 WQ (Ylm (Yll 4) (Ylm (Yll 2) Yls))) (Ylm (YlK 2 WQ (Ylm (Yll 5) (Ylm (Yll 2) Yls))) Yls))))))
 (sRet (eC .non))
 Yl8)
def VJ : MS :=
 (sDrop (eM Ymq Yl5 (Yll 7) (Ylm (Yn1 (Ymr (YmF (YlK 2 WQ (Ylm (Yll 8) (Ylm (Yll 2) Yls)))) 1 [3, 6] (Ylp 0) Ymv (YlK 3 ZY (Ylm (Yll 1) (Ylm (Yll 2) (Ylm (Yll 0) Yls)))))) Yls)))
def Yc0 : MS :=
 (Ylt (YlB 2 (YnV (Ylm (YlK 1 YU (Ylm (Yll 0) Yls)) (Ylm (Yll 1) Yls))))
 (Ylt (YlB 3 YmU)
 (Ylt (sFor (YmF (Yll 0)) (Yma 2 (YlD (Ylp 4) (YlD (Ylp 5) Ymg)))
 Jx)
 (Ylt (YlB 6 YmU)
 (Ylt (YlB 7 (Ymo (lMk Yls)))
 (Ylt (Yoc 2 (sFor (Ynq (Yll 2)) (Ylp 8)
 VJ))
 (sRet (eB Ymd (Ylm (Yll 7) Yls)))))))))
def WJ : MF := fnM 9 Yc0
def ZN : MS :=
 (Ylt (sIf (Yl0 (Ylq ltP (Yll 1) (eB Ymw (Ylm (Yll 0) Yls))))
 (sRet (Ylq ixP (Yll 0) (Yll 1)))
 Yl8)
 (sRet (eC (.int 0))))
def Ym : MF := fnM 2 ZN
def Z7 : MS :=
 (Ylt (YlB 2 (Ylq Yms (Ylq YmX (Yll 2) (eC (.int 16807))) (eC (.int 2147483647))))
 (sDrop (eM Ymq Yl5 (Yll 3) (Ylm (Yll 2) Yls))))
def Wm : MS :=
 (Ylt (YlB 2 (Ylq Yl1 (eC (.int 1)) (Ylq Yms (Yll 0) (eC (.int 2147483646)))))
 (Ylt (YlB 3 (Ymo (lMk Yls)))
 (Ylt (sFor (Ymi (Ylm (Yll 1) Yls)) (Ylp 4)
 Z7)
 (sRet (Yll 3)))))
def Y3 : MF := fnM 5 Wm
def Wj : MS :=
 (Ylt (YlB 2 (eC (.str "ABCDEFGHIJKLMNOPQRSTUVWXYZ")))
 (Ylt (YlB 3 (Ylq ixP (Ymo (lMk (Ylm (eC (.int 1)) (Ylm (eC (.int 3)) (Ylm (eC (.int 5)) (Ylm (eC (.int 7)) (Ylm (eC (.int 9)) (Ylm (eC (.int 11)) (Ylm (eC (.int 15)) (Ylm (eC (.int 17)) (Ylm (eC (.int 19)) (Ylm (eC (.int 21)) (Ylm (eC (.int 23)) (Ylm (eC (.int 25)) Yls)))))))))))))) (Ylq Yms (Ylq YmS (Yll 0) (eC (.int 26))) (eC (.int 12)))))
 (sRet (Ym2 (eC (.str "")) (Ymr (Ymi (Ylm (Yll 1) Yls)) 1 [0, 2, 3] (Ylp 0) Ymv (Ylq ixP (Yll 2) (Ylq Yms (Ylq Yl1 (Yll 1) (Ylq YmX (Yll 3) (Yll 0))) (eC (.int 26)))))))))
def YW : MF := fnM 4 Wj
def Vc : MS :=
 (Ylt (YlB 1 (eC (.str "abcdefghijklmnopqrstuvwxyz")))
 (sRet (Ylq Yl1 (Ylq ixP (Yll 1) (Ylq Yms (Yll 0) (eC (.int 26)))) (Ylq ixP (Yll 1) (Ylq Yms (Ylq Yl1 (Ylq Yl1 (Yll 0) (eC (.int 1))) (Ylq Yms (Ylq YmS (Yll 0) (eC (.int 26))) (eC (.int 25)))) (eC (.int 26)))))))
def Zt : MF := fnM 2 Vc
def Zi : MS :=
 (Yon (Yll 4) (Yll 5) (Ylq Yms (Ylq ixP (Yll 0) (Ylq Yl1 (eC (.int 10)) (Yll 5))) (eC (.int 2147483647))))
def Zo : MS :=
 (Ylt (YlB 12 (Ylq ixP (Yll 4) (Ylq Yl1 (Ylq YmX (eC (.int 9)) (Yll 8)) (Yll 11))))
 (Ylt (YlB 13 (Ylq ixP (Yll 3) (Ylq Yms (Ylq YmS (Yll 12) (eC (.int 8))) (eC (.int 2)))))
 (Ylt (YlB 14 (Ylq ixP (Yll 2) (Ylq Yms (Ylq Yms (Ylq YmX (Yll 12) (eC (.int 48271))) (eC (.int 65521))) (eC (.int 6)))))
 (Ylt (sIf (YmM (Yl0 (Ylq ltP (Ylq Yms (Yll 12) (eC (.int 8))) (eC (.int 5)))) (Yl0 (Ylq Ymz (Yll 14) (Yll 6))))
 (Ylt (sDrop (eM Ymq Yl5 (Yll 6) (Ylm (Yll 14) Yls)))
 (YlB 13 (Yll 14)))
 Yl8)
 (Ylt (YlB 15 (Ylq Yms (Ylq YmS (Ylq ixP (Yll 4) (Ylq Yl1 (Ylq Yl1 (eC (.int 20)) (Ylq YmX (eC (.int 9)) (Yll 8))) (Yll 11))) (eC (.int 5))) (Ylq Yl1 (eB Ymw (Ylm (Yll 10) Yls)) (eC (.int 1)))))
 (Ylt (YlB 9 (Ylq Yl1 (Yll 9) (Yll 13)))
 (YlB 10 (Ylq Yl1 (Ylq Yl1 (eSl (Yll 10) Ym7 (Ym8 (Yll 15))) (Yll 13)) (eSl (Yll 10) (Ym8 (Yll 15)) Ym7)))))))))
def Zn : MS :=
 (Ylt (YlB 9 (eC (.str "")))
 (Ylt (YlB 10 (eC (.str "")))
 (Ylt (sFor (Ymi (Ylm (Ylq Yl1 (eC (.int 1)) (Ylq Yms (Ylq YmS (Yll 1) (Ylq ixP (Ymo (lMk (Ylm (eC (.int 2)) (Ylm (eC (.int 18)) Yls)))) (Yll 8))) (eC (.int 9)))) Yls)) (Ylp 11)
 Zo)
 (Ylt (sIf (Yl0 (Ylq eqP (Ylq Yms (Ylq ixP (Yll 4) (eC (.int 39))) (eC (.int 8))) (eC (.int 1))))
 (YlB 10 (Ylq Yl1 (Yll 10) (Ylq ixP (Yll 3) (eC (.int 0)))))
 Yl8)
 (Ylt (sIf (Yl0 (Ylq eqP (Ylq Yms (Ylq ixP (Yll 4) (eC (.int 39))) (eC (.int 8))) (eC (.int 2))))
 (YlB 10 (Ylq Yl1 (Ylq ixP (Yll 3) (eC (.int 1))) (eSl (Yll 10) (Ym8 (eC (.int 1))) Ym7)))
 Yl8)
 (sDrop (eM Ymq Yl5 (Yll 7) (Ylm (Yob (Ylm (Yll 9) (Ylm (Yll 10) Yls))) Yls))))))))
def Z6 : MS :=
 (Ylt (YlB 1 (YlK 2 Ym (Ylm (Yll 0) (Ylm (eC (.int 0)) Yls))))
 (Ylt (YlB 2 (YlK 2 YW (Ylm (YlK 2 Ym (Ylm (Yll 0) (Ylm (eC (.int 1)) Yls))) (Ylm (eC (.int 6)) Yls))))
 (Ylt (YlB 3 (YlK 1 Zt (Ylm (Ylq YmS (YlK 2 Ym (Ylm (Yll 0) (Ylm (eC (.int 1)) Yls))) (eC (.int 312))) Yls)))
 (Ylt (YlB 4 (YlK 2 Y3 (Ylm (YlK 2 Ym (Ylm (Yll 0) (Ylm (eC (.int 2)) Yls))) (Ylm (eC (.int 40)) Yls))))
 (Ylt (sFor (Ymi (Ylm (eB Yos (Ylm (Ylq You (eB Ymw (Ylm (Yll 0) Yls)) (eC (.int 10))) (Ylm (eC (.int 18)) Yls))) Yls)) (Ylp 5)
 Zi)
 (Ylt (YlB 6 (Ymo (lMk Yls)))
 (Ylt (YlB 7 (Ymo (lMk Yls)))
 (Ylt (sFor (Ymi (Ylm (Ylq Yl1 (eC (.int 1)) (Ylq Yms (Yll 1) (eC (.int 2)))) Yls)) (Ylp 8)
 Zn)
 (sRet (eB Ymd (Ylm (Yll 7) Yls)))))))))))
def YL : MF := fnM 16 Z6
def ZE : MS :=
 (Ylt (YlB 1 (Ym2 (eC (.str "")) (Ymr (YmF (Yll 0)) 2 [] (Yma 2 (YlD (Ylp 0) (YlD (Ylp 1) Ymg))) Ymv (Ylq Yl1 (Yll 0) (Yll 1)))))
 (sRet (Ymo (Ymr (YmF (eC (.str "ABCDEFGHIJKLMNOPQRSTUVWXYZ"))) 1 [1] (Ylp 0) (Yl0 (Ylq Yof (Yll 0) (Yll 1))) (Yll 0)))))
def YB : MF := fnM 2 ZE
def Z0 : MS :=
 (sDrop (eM Ymq YmG (Yll 2) (Ylm (Yoy (Yll 1) (Yll 3) (Ymo (lMk (Ylm (Yll 3) Yls)))) Yls)))
def Wp : MS :=
 (Ylt (YlB 2 (Ymo (lMk Yls)))
 (Ylt (sFor (YmF (Yll 0)) (Ylp 3)
 Z0)
 (sRet (Yll 2))))
def YI : MF := fnM 4 Wp
def Wv : MS :=
 (Ylt (sIf (YlQ (YlY "str" (Yll 0)))
 (sRet (Yll 0))
 Yl8)
 (Ylt (sIf (YlQ (YlY "str" (Yll 1)))
 (sRet (Yll 1))
 Yl8)
 (sRet (eB Yos (Ylm (Yll 0) (Ylm (Yll 1) Yls))))))
def YX : MF := fnM 2 Wv
def YC : MS :=
 (sIf (Yme (YlQ (YlY "str" (Yll 8))))
 (Yon (Yll 2) (Yll 8) (YlK 2 YX (Ylm (Yll 6) (Ylm (Yll 7) Yls))))
 Yl8)
def Yu : MS :=
 (Ylt (YlB 6 (eIf (YlQ (YlY "str" (Yll 4))) (Yll 4) (Ylq ixP (Yll 2) (Yll 4))))
 (Ylt (YlB 7 (eIf (YlQ (YlY "str" (Yll 5))) (Yll 5) (Ylq ixP (Yll 2) (Yll 5))))
 (Ylt (sIf (YmM (YlQ (YlY "str" (Yll 6))) (YmM (YlQ (YlY "str" (Yll 7))) (Yl0 (Ylq neP (Yll 6) (Yll 7)))))
 (sRet (eC .non))
 Yl8)
 (sIf (Yl0 (Ylq neP (Yll 6) (Yll 7)))
 (Ylt (YlB 3 (eC (.bl true)))
 (sFor (YmF (Ymo (lMk (Ylm (Yll 4) (Ylm (Yll 5) Yls))))) (Ylp 8)
 YC))
 Yl8))))
def Yl : MS :=
 (Ylt (YlB 3 (eC (.bl false)))
 (sFor (YmF (Yll 0)) (Yma 2 (YlD (Ylp 4) (YlD (Ylp 5) Ymg)))
 Yu))
def Zu : MS :=
 (Ylt (YlB 2 (Ynu (Ylm (Yll 1) Yls)))
 (Ylt (YlB 3 (eC (.bl true)))
 (Ylt (YmZ (YlQ (Yll 3))
 Yl)
 (sRet (Yll 2)))))
def Ys : MF := fnM 9 Zu
def ZW : MS :=
 (Ylt (Yon (Yll 3) (Yll 5) (Ymo (Ymr (Ymi (Ylm (Yll 6) Yls)) 1 [4] (Ylp 0) Ymv (Ylq Yl1 (Yll 1) (Yll 0)))))
 (YlB 4 (Ylq Yl1 (Yll 4) (Yll 6))))
def ZU : MS :=
 (sDrop (eM Ymq Yl5 (Yll 7) (Ylm (Yob (Ylm (Ylq ixP (Yll 10) (Yll 12)) (Ylm (Ylq ixP (Yll 11) (Yll 12)) Yls))) Yls)))
def ZZ : MS :=
 (Ylt (YlB 10 (YlK 2 YI (Ylm (Yll 8) (Ylm (Yll 3) Yls))))
 (Ylt (YlB 11 (YlK 2 YI (Ylm (Yll 9) (Ylm (Yll 3) Yls))))
 (Ylt (sIf (Yl0 (Ylq neP (eB Ymw (Ylm (Yll 10) Yls)) (eB Ymw (Ylm (Yll 11) Yls))))
 (sRet (eC .non))
 Yl8)
 (sFor (Ymi (Ylm (eB Ymw (Ylm (Yll 10) Yls)) Yls)) (Ylp 12)
 ZU))))
def ZX : MS :=
 (sIf (YmM (Yme (YlQ (YlY "str" (Yll 15)))) (Yl0 (Ylq Ymz (Yll 15) (Yll 14))))
 (sDrop (eM Ymq Yl5 (Yll 14) (Ylm (Yll 15) Yls)))
 Yl8)
def ZQ : MS :=
 (Ylt (Yn3 17 (Ymr (YmF (Ylq ixP (Yll 3) (Yll 5))) 1 [13] (Ylp 0) Ymv (Ylq ixP (Yll 1) (Yll 0))))
 (sDrop (eM Ymq Yl5 (Yll 16) (Ylm (Yn1 (Ymr (YmF (Yll 17)) 1 [14] (Ylp 0) Ymv (eIf (YlQ (YlY "str" (Yll 0))) (Yll 0) (eM Ymq YnF (Yll 1) (Ylm (Yll 0) Yls))))) Yls))))
def Vh : MS :=
 (Ylt (YlB 3 YnR)
 (Ylt (YlB 4 (eC (.int 0)))
 (Ylt (sFor (Yn5 (Ylm (Yll 1) (Ylm (Yll 2) Yls))) (Yma 2 (YlD (Ylp 5) (YlD (Ylp 6) Ymg)))
 ZW)
 (Ylt (YlB 7 (Ymo (lMk Yls)))
 (Ylt (sFor (YmF (Yll 0)) (Yma 2 (YlD (Ylp 8) (YlD (Ylp 9) Ymg)))
 ZZ)
 (Ylt (YlB 13 (YlK 2 Ys (Ylm (Yll 7) (Ylm (Yll 4) Yls))))
 (Ylt (sIf (Yl0 (Ylq isP (Yll 13) (eC .non)))
 (sRet (eC .non))
 Yl8)
 (Ylt (YlB 14 (Ymo (lMk Yls)))
 (Ylt (sFor (YmF (Yll 13)) (Ylp 15)
 ZX)
 (Ylt (YlB 16 (Ymo (lMk Yls)))
 (Ylt (sFor (YmF (Yll 1)) (Ylp 5)
 ZQ)
 (sRet (eB Ymd (Ylm (Yll 16) Yls))))))))))))))
def Ze : MF := fnM 18 Vh
def YQ : MS :=
 (sIf (YmM (Yme (YlQ (YlY "str" (Yll 2)))) (YoZ (Yme (YlQ (YlY "int" (Yll 2)))) (YlQ (YlY "bool" (Yll 2)))))
 (sRet (eC (.bl false)))
 Yl8)
def l2__law_is_places : MS :=
 (Ylt (sIf (Yme (YlQ (YlY "tuple" (Yll 1))))
 (sRet (eC (.bl false)))
 Yl8)
 (sFor (YmF (Yll 1)) (Ylp 2)
 YQ))
def Zs : MS :=
 (Ylt (sIf (Yme (YlQ (YlY "tuple" (Yll 0))))
 (sRet (eC (.bl false)))
 Yl8)
 (Ylt (sFor (YmF (Yll 0)) (Ylp 1)
 l2__law_is_places)
 (sRet (eC (.bl true)))))
def Yr : MF := fnM 3 Zs
def YbB : MS :=
 (sDrop (eM Ymq Yl5 (Yll 3) (Ylm (eB Yos (Ylm (Ylq Yms (YlK 2 Ym (Ylm (Yll 0) (Ylm (Ylq Yl1 (eC (.int 3)) (Yll 4)) Yls))) (eC (.int 20))) (Ylm (Ylq You (eC (.int 60)) (eB Yow (Ylm (Yll 3) Yls))) Yls))) Yls)))
def Yf1 : MS :=
 (Ylt (YlB 1 (YlK 1 YL (Ylm (Yll 0) Yls)))
 (Ylt (YlB 2 (YlK 1 YB (Ylm (Yll 1) Yls)))
 (Ylt (YlB 3 (Ymo (lMk Yls)))
 (Ylt (sFor (Ymi (Ylm (eB Ymw (Ylm (Yll 2) Yls)) Yls)) (Ylp 4)
 YbB)
 (Ylt (YlB 5 (YlK 3 Ze (Ylm (Yll 1) (Ylm (Yll 2) (Ylm (Yll 3) Yls)))))
 (Ylt (YlB 6 (YlK 2 WJ (Ylm (Yll 1) (Ylm (eB Ymd (Ylm (Yll 3) Yls)) Yls))))
 (Ylt (sIf (Yl0 (Ylq isP (Yll 5) (eC .non)))
 (sRet (Ylq isP (Yll 6) (eC .non)))
 Yl8)
 (sRet (YoB (YlK 1 Yr (Ylm (Yll 6) Yls)) (Ylq eqP (Yll 6) (Yll 5)))))))))))
def Ycm : MF := fnM 7 Yf1
section
variable {P' : Program} {w : World} {K : Frag} {mg : SOV} {base : Heap}
structure Own (K : Frag) (mg : SOV) : Prop where
 z_bool : mg "bool" = none
 z_dict : mg "dict" = none
 z_int : mg "int" = none
 z_isinstance : mg "isinstance" = none
 z_len : mg "len" = none
 z_list : mg "list" = none
 z_min : mg "min" = none
 z_range : mg "range" = none
 z_set : mg "set" = none
 z_sorted : mg "sorted" = none
 z_str : mg "str" = none
 z_sum : mg "sum" = none
 z_tuple : mg "tuple" = none
 z_zip : mg "zip" = none
theorem JJ : YlC ["letter"] ["letter"] (Yln (top 1)) := by show 154
abbrev HB (n : Str) (t : Stmt) (ps : List Str) := ∀ (kV doc pm : Value) (an : Option Addr) (cdv ct : Value) (us : List Value), us.length = ps.length -> bindArgs (fnOf n n (Ylz t) (Ylw t) (Yln t) .none kV doc pm an cdv ct) ⟨us, []⟩ = pure (ps.zip us)
theorem Yc6 : HB "is_sign" (top 1) ["letter"]
 | _, _, _, _, _, _, [_], _ => rfl
theorem YcQ (T : Top K mg) (O : Own K mg) (D : Ylu K "is_sign" (top 1))  : Fn P' w K mg base "is_sign" 1 ["letter"] ZI := by
 refine @Y5 P' w K mg base "is_sign" (top 1) ["letter"] ["letter"] 0 V0 T D JJ Yc6 ?_
 show 1
 have sc := JJ
 show 2
 refine Ycc ?_ ?_ ?_ ?_ ?_
 exact YdP
 exact YdP
 exact Zr
 show 153
 exact Zr
theorem W7 : YlC ["letter"] ["letter"] (Yln (top 2)) := by show 154
theorem YaF : HB "is_unknown" (top 2) ["letter"]
 | _, _, _, _, _, _, [_], _ => rfl
theorem YaC (T : Top K mg) (O : Own K mg) (D : Ylu K "is_unknown" (top 2))  : Fn P' w K mg base "is_unknown" 1 ["letter"] Y2 := by
 refine @Y5 P' w K mg base "is_unknown" (top 2) ["letter"] ["letter"] 0 Wq T D W7 YaF ?_
 show 1
 have sc := W7
 show 2
 refine Ycc ?_ ?_ ?_ ?_ ?_
 exact YdP
 exact YdP
 exact Zr
 show 153
 exact Zr
theorem W4 : YlC ["system"] ["system"] (Yln (top 3)) := by show 154
theorem Yav : HB "letters_of" (top 3) ["system"]
 | _, _, _, _, _, _, [_], _ => rfl
theorem YaJ (T : Top K mg) (O : Own K mg) (D : Ylu K "letters_of" (top 3))  : Fn P' w K mg base "letters_of" 1 ["system"] Y1 := by
 refine @Y5 P' w K mg base "letters_of" (top 3) ["system"] ["system"] 0 Wo T D W4 Yav ?_
 show 1
 have sc := W4
 show 2
 refine VL ?_ ?_
 exact Zr
 refine ZG (TN := ["left", "right"]) (FN := []) (fr := []) ?_ ?_ ?_ ?_ ?_
 show 151
 exact (Zy ["left", "right"] [] [] (by rfl))
 show 26
 exact (Ygn (Vx (Zc (by decide)) (Vx (Zc (by decide)) YdU)))
 show 84
 show 88
 show 56
 show (["left", "right"] : List Str).Nodup; decide +kernel
 show 10
 show 56
 show (["left", "right"] : List Str).Nodup; decide +kernel
 show 10
 exact Wt
 exact ZT
 show 4
 show 62
theorem Ybl : YlC ["letters"] ["letters"] (Yln (top 4)) := by show 154
theorem Yei : HB "rising" (top 4) ["letters"]
 | _, _, _, _, _, _, [_], _ => rfl
theorem YeG (T : Top K mg) (O : Own K mg) (D : Ylu K "rising" (top 4))  : Fn P' w K mg base "rising" 1 ["letters"] WN := by
 have z_set := O.z_set
 have z_sorted := O.z_sorted
 refine @Y5 P' w K mg base "rising" (top 4) ["letters"] ["letters"] 0 Yas T D Ybl Yei ?_
 show 1
 have sc := Ybl
 show 2
 refine VL ?_ ?_
 exact Zr
 refine Ycl ?_ ?_ ?_ ?_ ?_ ?_ ?_ ?_
 show 98
 exact z_sorted
 exact YeT
 show 151
 exact z_set
 exact Ykt
 show 153
theorem Jd : YlC ["system"] ["system"] (Yln (top 5)) := by show 154
theorem YbX : HB "names_of" (top 5) ["system"]
 | _, _, _, _, _, _, [_], _ => rfl
theorem YcC (T : Top K mg) (O : Own K mg) (D : Ylu K "names_of" (top 5)) (F_is_unknown : Fn P' w K mg base "is_unknown" 1 ["letter"] Y2) (F_letters_of : Fn P' w K mg base "letters_of" 1 ["system"] Y1) (F_rising : Fn P' w K mg base "rising" 1 ["letters"] WN) : Fn P' w K mg base "names_of" 2 ["system"] YU := by
 refine @Y5 P' w K mg base "names_of" (top 5) ["system"] ["system"] 1 Ve T D Jd YbX ?_
 show 1
 have sc := Jd
 show 2
 refine Yy (ps := ["letters"]) (k := 1) ?_ ?_ ?_ ?_
 exact F_rising
 show 3
 show 215
 refine ZG (TN := ["letter"]) (FN := []) (fr := []) ?_ ?_ ?_ ?_ ?_
 show 151
 exact (Zy ["letter"] [] [] (by rfl))
 show 175
 refine Yy (ps := ["system"]) (k := 1) ?_ ?_ ?_ ?_
 exact F_letters_of
 show 121
 show 27
 show (["letter"] : List Str).Nodup; decide +kernel
 show 10
 refine YdK ?_
 show 200
 refine Yy (ps := ["letter"]) (k := 1) ?_ ?_ ?_ ?_
 exact F_is_unknown
 show 121
 show 165
 show 153
 exact Yc
theorem YdM : YlC ["side", "length_of", "spots", "letter"] ["side", "length_of"] (Yln (top 7)) := by show 154
theorem Yh3 : HB "laid" (top 7) ["side", "length_of"]
 | _, _, _, _, _, _, [_, _], _ => rfl
theorem Yic (T : Top K mg) (O : Own K mg) (D : Ylu K "laid" (top 7)) (F_is_sign : Fn P' w K mg base "is_sign" 1 ["letter"] ZI) : Fn P' w K mg base "laid" 2 ["side", "length_of"] WQ := by
 show 192
 refine @Y5 P' w K mg base "laid" (top 7) ["side", "length_of", "spots", "letter"] ["side", "length_of"] 1 Ydd T D YdM Yh3 ?_
 show 1
 have sc := YdM
 show 107
 show 70
 show 200
 refine Yy (ps := ["letter"]) (k := 1) ?_ ?_ ?_ ?_
 exact F_is_sign
 show 3
 show 157
 exact Yc
 show 165
 show 28
 show 161
 show 114
 show 83
 refine je_M (T := "list") (id := "list.extend") ?_ ?_ ?_ ?_ ?_ ?_ ?_
 show 44
 exact PySem.F.slot_list_extend
 exact PySem.F.type_list_extend
 exact Ya8
 show 161
 show 148
 show 215
 refine ZG (TN := ["place"]) (FN := ["letter"]) (fr := [3]) ?_ ?_ ?_ ?_ ?_
 show 151
 exact (Zy ["place"] ["letter"] [3] (by rfl))
 show 37
 refine YjF ?_ ?_ ?_ ?_
 show 78
 show 167
 show 109
 show (["place", "letter"] : List Str).Nodup; decide +kernel
 show 31
 refine Ydc ?_
 show 18
 show 111
 show 161
theorem Yat : YlC ["heads", "spot", "here"] ["heads", "spot"] (Yln (top 8)) := by show 154
theorem Ydv : HB "head_of" (top 8) ["heads", "spot"]
 | _, _, _, _, _, _, [_, _], _ => rfl
theorem Ydt (T : Top K mg) (O : Own K mg) (D : Ylu K "head_of" (top 8))  : Fn P' w K mg base "head_of" 1 ["heads", "spot"] Y4 := by
 refine @Y5 P' w K mg base "head_of" (top 8) ["heads", "spot", "here"] ["heads", "spot"] 0 VM T D Yat Ydv ?_
 show 1
 have sc := Yat
 show 0
 show 162
 show 178
 refine Yb1 ?_ ?_ ?_
 show 262
 show 185
 exact (Yku hu)
 show 161
 show 153
 with_unfolding_all rfl
 show 91
 refine Ygu ?_ ?_ ?_ ?_
 show 99
 show 161
 show 167
 show 2
 show 161
theorem Yfz : YlC ["heads", "one", "other", "first", "second"] ["heads", "one", "other"] (Yln (top 9)) := by show 154
theorem Yjo : HB "tie" (top 9) ["heads", "one", "other"]
 | _, _, _, _, _, _, [_, _, _], _ => rfl
theorem YjD (T : Top K mg) (O : Own K mg) (D : Ylu K "tie" (top 9)) (F_head_of : Fn P' w K mg base "head_of" 1 ["heads", "spot"] Y4) : Fn P' w K mg base "tie" 2 ["heads", "one", "other"] Jg := by
 show 203
 show 202
 refine @Y5 P' w K mg base "tie" (top 9) ["heads", "one", "other", "first", "second"] ["heads", "one", "other"] 1 Yge T D Yfz Yjo ?_
 show 1
 have sc := Yfz
 show 0
 refine Yy (ps := ["heads", "spot"]) (k := 1) ?_ ?_ ?_ ?_
 exact F_head_of
 show 16
 show 120
 refine Yy (ps := ["heads", "spot"]) (k := 1) ?_ ?_ ?_ ?_
 exact F_head_of
 show 16
 show 13
 show 9
 exact (YdF hu8)
 show 157
 show 158
 show 194
 show 93
 show 14
 show 38
 show 157
 show 102
 refine YbJ ?_ ?_ ?_ ?_
 show 99
 show 157
 show 158
 show 36
 show 38
 show 158
 show 102
 refine YbJ ?_ ?_ ?_ ?_
 show 99
 show 158
 show 157
 show 35
 show 35
theorem Vw : YlC ["heads", "one", "other", "here", "there"] ["heads", "one", "other"] (Yln (top 10)) := by show 154
theorem YbO : HB "tie_sides" (top 10) ["heads", "one", "other"]
 | _, _, _, _, _, _, [_, _, _], _ => rfl
theorem YbG (T : Top K mg) (O : Own K mg) (D : Ylu K "tie_sides" (top 10)) (F_tie : Fn P' w K mg base "tie" 2 ["heads", "one", "other"] Jg) : Fn P' w K mg base "tie_sides" 3 ["heads", "one", "other"] YF := by
 show 204
 have z_zip := O.z_zip
 refine @Y5 P' w K mg base "tie_sides" (top 10) ["heads", "one", "other", "here", "there"] ["heads", "one", "other"] 2 WG T D Vw YbO ?_
 show 1
 have sc := Vw
 show 9
 exact (YdN hu8)
 show 19
 show 119
 show 19
 show 13
 show 194
 show 93
 show 22
 refine YdX ?_ ?_ ?_ ?_
 show 151
 exact z_zip
 exact Yc2
 show 18
 show 13
 show 43
 show 36
 show 233
 show 200
 refine Yy (ps := ["heads", "one", "other"]) (k := 2) ?_ ?_ ?_ ?_
 exact F_tie
 show 16
 show 25
 show 148
 show 158
 exact Yc
 show 63
 show 35
theorem Yb9 : YlC ["heads", "numbers", "spot", "head"] ["heads", "numbers", "spot"] (Yln (top 11)) := by show 154
theorem YgK : HB "shown" (top 11) ["heads", "numbers", "spot"]
 | _, _, _, _, _, _, [_, _, _], _ => rfl
theorem Ygs (T : Top K mg) (O : Own K mg) (D : Ylu K "shown" (top 11)) (F_head_of : Fn P' w K mg base "head_of" 1 ["heads", "spot"] Y4) : Fn P' w K mg base "shown" 2 ["heads", "numbers", "spot"] ZY := by
 show 203
 show 204
 show 202
 refine @Y5 P' w K mg base "shown" (top 11) ["heads", "numbers", "spot", "head"] ["heads", "numbers", "spot"] 1 YbA T D Yb9 YgK ?_
 show 1
 have sc := Yb9
 show 0
 refine Yy (ps := ["heads", "spot"]) (k := 1) ?_ ?_ ?_ ?_
 exact F_head_of
 show 16
 show 13
 show 122
 show 157
 show 64
 show 157
 exact Yv
 show 9
 exact (YeP hu)
 show 157
 show 162
 with_unfolding_all rfl
 show 186
 refine YbJ ?_ ?_ ?_ ?_
 show 78
 show 269
 exact YhU
 show 132
 show 119
 show 41
 refine Ygu ?_ ?_ ?_ ?_
 show 78
 show 167
theorem YdZ : YlC ["system", "lengths", "length_of", "heads", "left", "right", "numbers", "told", "name"] ["system", "lengths"] (Yln (top 12)) := by show 154
theorem YhL : HB "tied" (top 12) ["system", "lengths"]
 | _, _, _, _, _, _, [_, _], _ => rfl
theorem Yh6 (T : Top K mg) (O : Own K mg) (D : Ylu K "tied" (top 12)) (F_laid : Fn P' w K mg base "laid" 2 ["side", "length_of"] WQ) (F_names_of : Fn P' w K mg base "names_of" 2 ["system"] YU) (F_shown : Fn P' w K mg base "shown" 2 ["heads", "numbers", "spot"] ZY) (F_tie_sides : Fn P' w K mg base "tie_sides" 3 ["heads", "one", "other"] YF) : Fn P' w K mg base "tied" 4 ["system", "lengths"] WJ := by
 have z_dict := O.z_dict
 show 214
 have z_zip := O.z_zip
 refine @Y5 P' w K mg base "tied" (top 12) ["system", "lengths", "length_of", "heads", "left", "right", "numbers", "told", "name"] ["system", "lengths"] 3 Yc0 T D YdZ YhL ?_
 show 1
 have sc := YdZ
 show 0
 refine Yg6 ?_ ?_ ?_ ?_ ?_ ?_ ?_ ?_
 show 98
 exact z_dict
 exact Yiq
 show 151
 exact z_zip
 exact Yc2
 show 148
 refine Yy (ps := ["system"]) (k := 2) ?_ ?_ ?_ ?_
 exact F_names_of
 show 121
 show 120
 exact Ybb
 show 22
 show 26
 show 43
 show 36
 show 233
 show 200
 refine Yy (ps := ["heads", "one", "other"]) (k := 3) ?_ ?_ ?_ ?_
 exact F_tie_sides
 show 3
 show 157
 show 148
 refine Yy (ps := ["side", "length_of"]) (k := 2) ?_ ?_ ?_ ?_
 exact F_laid
 show 3
 show 158
 show 13
 show 148
 refine Yy (ps := ["side", "length_of"]) (k := 2) ?_ ?_ ?_ ?_
 exact F_laid
 show 3
 show 179
 show 33
 show 34
 show 64
 show 138
 show 0
 exact Ybb
 show 87
 exact Yc
 show 178
 refine YjV ?_
 show 81
 refine Yhz ?_
 show 161
 show 11
 show 113
 refine Ya6 ?_ ?_ ?_ ?_
 show 29
 refine ZG (TN := ["spot"]) (FN := ["heads", "numbers"]) (fr := [3, 6]) ?_ ?_ ?_ ?_ ?_
 show 151
 exact (Zy ["spot"] ["heads", "numbers"] [3, 6] (by rfl))
 show 175
 refine Yy (ps := ["side", "length_of"]) (k := 2) ?_ ?_ ?_ ?_
 exact F_laid
 show 3
 exact (jv 8)
 show 13
 show 27
 show (["spot", "heads", "numbers"] : List Str).Nodup; decide +kernel
 show 31
 refine Yy (ps := ["heads", "numbers", "spot"]) (k := 2) ?_ ?_ ?_ ?_
 exact F_shown
 show 72
 show 33
 show 111
 show 240
 exact (WY rfl)
 show 29
 show 124
theorem Wy : YlC ["_law_script", "_law_k"] ["_law_script", "_law_k"] (Yln (top 14)) := by show 154
theorem Jo : HB "_law_cell_at" (top 14) ["_law_script", "_law_k"]
 | _, _, _, _, _, _, [_, _], _ => rfl
theorem Js (T : Top K mg) (O : Own K mg) (D : Ylu K "_law_cell_at" (top 14))  : Fn P' w K mg base "_law_cell_at" 1 ["_law_script", "_law_k"] Ym := by
 show 204
 refine @Y5 P' w K mg base "_law_cell_at" (top 14) ["_law_script", "_law_k"] ["_law_script", "_law_k"] 0 ZN T D Wy Jo ?_
 show 1
 have sc := Wy
 show 9
 exact YiS
 show 162
 show 19
 show 46
 exact Yc
 show 94
 show 6
 show 62
 show 167
 show 41
 exact Yh
theorem W6 : YlC ["_law_cell", "_law_many", "_law_number", "_law_found", "_law_k"] ["_law_cell", "_law_many"] (Yln (top 15)) := by show 154
theorem YaH : HB "_law_mixed" (top 15) ["_law_cell", "_law_many"]
 | _, _, _, _, _, _, [_, _], _ => rfl
theorem Yaw (T : Top K mg) (O : Own K mg) (D : Ylu K "_law_mixed" (top 15))  : Fn P' w K mg base "_law_mixed" 1 ["_law_cell", "_law_many"] Y3 := by
 show 192
 refine @Y5 P' w K mg base "_law_mixed" (top 15) ["_law_cell", "_law_many", "_law_number", "_law_found", "_law_k"] ["_law_cell", "_law_many"] 0 Wm T D W6 YaH ?_
 show 1
 have sc := W6
 show 0
 show 30
 show 7
 show 101
 show 48
 show 85
 show 18
 show 108
 show 0
 show 89
 exact VG
 show 161
 show 47
 show 28
 show 157
 show 13
 show 2
 show 157
theorem W2 : YlC ["_law_cell", "_law_many", "_law_letters", "_law_step"] ["_law_cell", "_law_many"] (Yln (top 16)) := by show 154
theorem YaM : HB "_law_names" (top 16) ["_law_cell", "_law_many"]
 | _, _, _, _, _, _, [_, _], _ => rfl
theorem Yaz (T : Top K mg) (O : Own K mg) (D : Ylu K "_law_names" (top 16))  : Fn P' w K mg base "_law_names" 1 ["_law_cell", "_law_many"] YW := by
 show 192
 refine @Y5 P' w K mg base "_law_names" (top 16) ["_law_cell", "_law_many", "_law_letters", "_law_step"] ["_law_cell", "_law_many"] 0 Wj T D W2 YaM ?_
 show 1
 have sc := W2
 show 73
 show 74
 show 15
 show 112
 show 112
 show 112
 exact Yc
 show 42
 show 101
 show 8
 show 2
 refine VL ?_ ?_
 exact Zr
 refine ZG (TN := ["_law_k"]) (FN := ["_law_cell", "_law_letters", "_law_step"]) (fr := [0, 2, 3]) ?_ ?_ ?_ ?_ ?_
 show 151
 exact (Zy ["_law_k"] ["_law_cell", "_law_letters", "_law_step"] [0, 2, 3] (by rfl))
 show 85
 show 18
 show 109
 show (["_law_k", "_law_cell", "_law_letters", "_law_step"] : List Str).Nodup; decide +kernel
 show 31
 show 126
 show 7
 show 4
 show 162
 show 181
 exact VG
 show 157
 show 153
 show 8
theorem Jh : YlC ["_law_cell", "_law_letters"] ["_law_cell"] (Yln (top 17)) := by show 154
theorem Ycd : HB "_law_two" (top 17) ["_law_cell"]
 | _, _, _, _, _, _, [_], _ => rfl
theorem YcB (T : Top K mg) (O : Own K mg) (D : Ylu K "_law_two" (top 17))  : Fn P' w K mg base "_law_two" 1 ["_law_cell"] Zt := by
 refine @Y5 P' w K mg base "_law_two" (top 17) ["_law_cell", "_law_letters"] ["_law_cell"] 0 Vc T D Jh Ycd ?_
 show 1
 have sc := Jh
 show 73
 show 2
 show 4
 show 127
 show 7
 show 153
 show 8
 show 127
 show 7
 show 4
 show 4
 show 101
 show 42
 show 153
 show 47
 show 8
theorem WC : YlC ["_law_script", "_law_first", "_law_names_here", "_law_two_here", "_law_numbers", "_law_k", "_law_used", "_law_system_here", "_law_e", "_law_left", "_law_right", "_law_j", "_law_number", "_law_letter", "_law_name", "_law_place"] ["_law_script"] (Yln (top 18)) := by show 154
theorem JR : HB "_law_system" (top 18) ["_law_script"]
 | _, _, _, _, _, _, [_], _ => rfl
theorem JN (T : Top K mg) (O : Own K mg) (D : Ylu K "_law_system" (top 18)) (F__law_cell_at : Fn P' w K mg base "_law_cell_at" 1 ["_law_script", "_law_k"] Ym) (F__law_mixed : Fn P' w K mg base "_law_mixed" 1 ["_law_cell", "_law_many"] Y3) (F__law_names : Fn P' w K mg base "_law_names" 1 ["_law_cell", "_law_many"] YW) (F__law_two : Fn P' w K mg base "_law_two" 1 ["_law_cell"] Zt) : Fn P' w K mg base "_law_system" 2 ["_law_script"] YL := by
 show 204
 have z_min := O.z_min
 show 192
 show 214
 refine @Y5 P' w K mg base "_law_system" (top 18) ["_law_script", "_law_first", "_law_names_here", "_law_two_here", "_law_numbers", "_law_k", "_law_used", "_law_system_here", "_law_e", "_law_left", "_law_right", "_law_j", "_law_number", "_law_letter", "_law_name", "_law_place"] ["_law_script"] 1 Z6 T D WC JR ?_
 show 1
 have sc := WC
 show 0
 show 68
 show 5
 refine Yy (ps := ["_law_cell", "_law_many"]) (k := 1) ?_ ?_ ?_ ?_
 exact F__law_names
 show 3
 show 68
 exact Yc
 show 21
 show 5
 refine Yy (ps := ["_law_cell"]) (k := 1) ?_ ?_ ?_ ?_
 exact F__law_two
 show 3
 show 181
 exact WX
 show 68
 show 61
 show 5
 refine Yy (ps := ["_law_cell", "_law_many"]) (k := 1) ?_ ?_ ?_ ?_
 exact F__law_mixed
 show 3
 show 68
 exact Yc
 show 21
 show 117
 refine je_B (id := "min") ?_ ?_ ?_ ?_ ?_
 exact (Ydk rfl)
 show 151
 exact z_min
 exact YdC
 show 148
 show 181
 exact Ygy
 show 19
 show 46
 show 61
 show 21
 show 118
 show 186
 refine Ydl ?_ ?_ ?_ ?_
 exact hu
 show 158
 show 179
 show 123
 show 153
 show 30
 show 100
 exact Yh
 show 87
 show 5
 show 15
 show 117
 show 30
 show 7
 show 162
 exact Yh
 show 108
 show 73
 show 73
 show 22
 show 37
 show 30
 show 42
 show 162
 show 6
 show 15
 show 90
 exact Yc
 exact (jv 8)
 show 167
 exact Yh
 show 108
 show 74
 show 158
 show 4
 show 181
 exact VG
 exact Yh
 exact (jv 8)
 exact (jv 11)
 show 167
 show 74
 show 157
 show 42
 exact (jv 12)
 exact Yh
 show 8
 show 74
 show 161
 show 7
 show 89
 exact VG
 exact (jv 12)
 show 47
 show 8
 show 14
 refine L2.PW.pt ?_
 refine Yac ?_ ?_
 show 185
 exact YiS
 show 7
 exact (jv 12)
 show 110
 refine Jy ?_
 show 185
 exact (V8 hu)
 exact (jv 14)
 exact (jv 6)
 with_unfolding_all rfl
 show 178
 show 271
 show 134
 exact (jv 6)
 show 148
 exact (jv 14)
 exact Yc
 show 91
 exact (jv 14)
 exact Yv
 show 0
 show 42
 show 6
 show 158
 show 4
 show 30
 show 181
 exact VG
 exact Yh
 exact (jv 8)
 exact (jv 11)
 show 167
 exact Yh
 show 4
 show 116
 show 61
 show 0
 show 4
 exact (jv 9)
 exact (jv 13)
 show 71
 show 4
 refine Yaq ?_ ?_ ?_
 show 197
 exact YbE
 refine YbC ?_
 exact (jv 15)
 exact (jv 13)
 refine Yaq ?_ ?_ ?_
 show 197
 refine YbC ?_
 exact (jv 15)
 exact YbE
 show 9
 exact (YdF hu8)
 show 123
 show 158
 show 8
 show 110
 show 71
 show 197
 show 125
 show 8
 exact Yv
 show 9
 exact (YdF hu8)
 show 123
 show 158
 show 8
 show 110
 show 71
 show 125
 show 8
 refine Yaq ?_ ?_ ?_
 show 197
 refine YbC ?_
 exact Yh
 exact YbE
 exact Yv
 show 113
 refine Ydc ?_
 show 148
 exact (jv 9)
 show 137
 show 140
 show 240
 exact (WY rfl)
 show 29
 show 124
theorem We : YlC ["_law_system_here", "_law_letters"] ["_law_system_here"] (Yln (top 19)) := by show 154
theorem VO : HB "_law_standing" (top 19) ["_law_system_here"]
 | _, _, _, _, _, _, [_], _ => rfl
theorem VW (T : Top K mg) (O : Own K mg) (D : Ylu K "_law_standing" (top 19))  : Fn P' w K mg base "_law_standing" 1 ["_law_system_here"] YB := by
 refine @Y5 P' w K mg base "_law_standing" (top 19) ["_law_system_here", "_law_letters"] ["_law_system_here"] 0 ZE T D We VO ?_
 show 1
 have sc := We
 show 0
 refine VL ?_ ?_
 exact Zr
 refine ZG (TN := ["_law_left", "_law_right"]) (FN := []) (fr := []) ?_ ?_ ?_ ?_ ?_
 show 151
 exact (Zy ["_law_left", "_law_right"] [] [] (by rfl))
 show 26
 exact (Ygn (Vx (Zc (by decide)) (Vx (Zc (by decide)) YdU)))
 show 84
 show 88
 show 56
 show (["_law_left", "_law_right"] : List Str).Nodup; decide +kernel
 show 10
 show 56
 show (["_law_left", "_law_right"] : List Str).Nodup; decide +kernel
 show 10
 exact Wt
 exact ZT
 show 4
 show 62
 show 2
 show 215
 refine ZG (TN := ["_law_name"]) (FN := ["_law_letters"]) (fr := [1]) ?_ ?_ ?_ ?_ ?_
 show 151
 exact (Zy ["_law_name"] ["_law_letters"] [1] (by rfl))
 show 175
 exact Zr
 show 27
 show (["_law_name", "_law_letters"] : List Str).Nodup; decide +kernel
 show 10
 refine YdK ?_
 show 185
 exact (Ygr hu)
 show 62
 with_unfolding_all rfl
 show 153
theorem W5 : YlC ["_law_side", "_law_places", "_law_marks_here", "_law_letter"] ["_law_side", "_law_places"] (Yln (top 20)) := by show 154
theorem YaI : HB "_law_marks" (top 20) ["_law_side", "_law_places"]
 | _, _, _, _, _, _, [_, _], _ => rfl
theorem YaK (T : Top K mg) (O : Own K mg) (D : Ylu K "_law_marks" (top 20))  : Fn P' w K mg base "_law_marks" 1 ["_law_side", "_law_places"] YI := by
 refine @Y5 P' w K mg base "_law_marks" (top 20) ["_law_side", "_law_places", "_law_marks_here", "_law_letter"] ["_law_side", "_law_places"] 0 Wp T D W5 YaI ?_
 show 1
 have sc := W5
 show 107
 show 11
 show 83
 refine je_M (T := "list") (id := "list.extend") ?_ ?_ ?_ ?_ ?_ ?_ ?_
 show 44
 exact PySem.F.slot_list_extend
 exact PySem.F.type_list_extend
 exact Ya8
 show 161
 show 148
 refine Yj6 ?_ ?_ ?_ ?_ ?_
 show 78
 show 15
 show 114
 exact ⟨rfl, rfl, rfl, rfl⟩
 exact Yc
 show 2
 show 161
theorem W1 : YlC ["_law_one", "_law_other"] ["_law_one", "_law_other"] (Yln (top 21)) := by show 154
theorem YaL : HB "_law_least" (top 21) ["_law_one", "_law_other"]
 | _, _, _, _, _, _, [_, _], _ => rfl
theorem Yay (T : Top K mg) (O : Own K mg) (D : Ylu K "_law_least" (top 21))  : Fn P' w K mg base "_law_least" 1 ["_law_one", "_law_other"] YX := by
 show 203
 have z_min := O.z_min
 show 202
 refine @Y5 P' w K mg base "_law_least" (top 21) ["_law_one", "_law_other"] ["_law_one", "_law_other"] 0 Wv T D W1 YaL ?_
 show 1
 have sc := W1
 show 122
 show 153
 show 64
 show 153
 exact Yv
 show 122
 show 162
 show 64
 show 162
 show 41
 refine je_B (id := "min") ?_ ?_ ?_ ?_ ?_
 exact (Ydk rfl)
 show 151
 exact z_min
 exact YdC
 show 46
 show 119
theorem ZV : YlC ["_law_pairs", "_law_many", "_law_holds_now", "_law_changed", "_law_one", "_law_other", "_law_here", "_law_there", "_law_mark"] ["_law_pairs", "_law_many"] (Yln (top 22)) := by show 154
theorem Vn : HB "_law_handed_on" (top 22) ["_law_pairs", "_law_many"]
 | _, _, _, _, _, _, [_, _], _ => rfl
theorem VA (T : Top K mg) (O : Own K mg) (D : Ylu K "_law_handed_on" (top 22)) (F__law_least : Fn P' w K mg base "_law_least" 1 ["_law_one", "_law_other"] YX) : Fn P' w K mg base "_law_handed_on" 2 ["_law_pairs", "_law_many"] Ys := by
 show 203
 have z_list := O.z_list
 show 192
 show 202
 refine @Y5 P' w K mg base "_law_handed_on" (top 22) ["_law_pairs", "_law_many", "_law_holds_now", "_law_changed", "_law_one", "_law_other", "_law_here", "_law_there", "_law_mark"] ["_law_pairs", "_law_many"] 1 Zu T D ZV Vn ?_
 show 1
 have sc := ZV
 show 0
 refine Yf6 ?_ ?_ ?_ ?_ ?_ ?_ ?_
 show 98
 exact z_list
 exact Yii
 show 131
 show 120
 exact Wd
 show 178
 refine Yb1 ?_ ?_ ?_
 show 262
 show 200
 show 157
 show 165
 show 0
 exact Wd
 show 55
 show 26
 show 43
 show 0
 refine J4 ?_ ?_ ?_
 show 17
 show 158
 show 165
 show 158
 show 126
 show 158
 show 167
 show 0
 refine J4 ?_ ?_ ?_
 show 17
 show 179
 show 165
 show 179
 show 126
 show 100
 show 14
 refine L2.PW.pt ?_
 refine Yac ?_ ?_
 show 17
 exact (jv 6)
 show 165
 refine Yac ?_ ?_
 show 17
 show 224
 show 165
 refine Jy ?_
 show 185
 exact (YdN hu8)
 exact (jv 6)
 show 224
 show 106
 show 36
 show 185
 exact (YdN hu8)
 exact (jv 6)
 show 224
 show 194
 show 0
 exact Wd
 show 55
 show 175
 show 15
 show 148
 show 158
 show 148
 show 179
 exact Yc
 show 70
 show 38
 exact (jv 8)
 show 102
 refine Ydl ?_ ?_ ?_ ?_
 exact hu
 show 161
 exact (jv 8)
 refine Yy (ps := ["_law_one", "_law_other"]) (k := 1) ?_ ?_ ?_ ?_
 exact F__law_least
 show 3
 exact (jv 6)
 show 124
 exact Yv
 show 41
 show 161
theorem Jl : YlC ["_law_system_here", "_law_names_here", "_law_lengths", "_law_places", "_law_many", "_law_name", "_law_length", "_law_pairs", "_law_left", "_law_right", "_law_ones", "_law_others", "_law_k", "_law_held", "_law_seen", "_law_head", "_law_due_here", "_law_row"] ["_law_system_here", "_law_names_here", "_law_lengths"] (Yln (top 23)) := by show 154
theorem Ycu : HB "_law_due" (top 23) ["_law_system_here", "_law_names_here", "_law_lengths"]
 | _, _, _, _, _, _, [_, _, _], _ => rfl
theorem YbY (T : Top K mg) (O : Own K mg) (D : Ylu K "_law_due" (top 23)) (F__law_handed_on : Fn P' w K mg base "_law_handed_on" 2 ["_law_pairs", "_law_many"] Ys) (F__law_marks : Fn P' w K mg base "_law_marks" 1 ["_law_side", "_law_places"] YI) : Fn P' w K mg base "_law_due" 3 ["_law_system_here", "_law_names_here", "_law_lengths"] Ze := by
 show 203
 show 204
 show 192
 show 202
 show 214
 have z_zip := O.z_zip
 refine @Y5 P' w K mg base "_law_due" (top 23) ["_law_system_here", "_law_names_here", "_law_lengths", "_law_places", "_law_many", "_law_name", "_law_length", "_law_pairs", "_law_left", "_law_right", "_law_ones", "_law_others", "_law_k", "_law_held", "_law_seen", "_law_head", "_law_due_here", "_law_row"] ["_law_system_here", "_law_names_here", "_law_lengths"] 2 Vh T D Jl Ycu ?_
 show 1
 have sc := Jl
 show 0
 exact Ygz
 show 0
 exact Yh
 show 22
 refine YdX ?_ ?_ ?_ ?_
 show 151
 exact z_zip
 exact Yc2
 show 18
 show 13
 show 43
 show 178
 refine Ydl ?_ ?_ ?_ ?_
 exact hu
 show 157
 show 179
 show 215
 refine ZG (TN := ["_law_k"]) (FN := ["_law_many"]) (fr := [4]) ?_ ?_ ?_ ?_ ?_
 show 151
 exact (Zy ["_law_k"] ["_law_many"] [4] (by rfl))
 show 37
 exact (jv 6)
 show 109
 show (["_law_k", "_law_many"] : List Str).Nodup; decide +kernel
 show 31
 show 4
 show 162
 show 153
 show 71
 show 158
 exact (jv 6)
 show 107
 show 43
 show 0
 refine Yy (ps := ["_law_side", "_law_places"]) (k := 1) ?_ ?_ ?_ ?_
 exact F__law_marks
 show 3
 exact (jv 8)
 show 25
 show 5
 refine Yy (ps := ["_law_side", "_law_places"]) (k := 1) ?_ ?_ ?_ ?_
 exact F__law_marks
 show 3
 exact (jv 9)
 show 114
 show 9
 exact (YdN hu8)
 show 116
 exact Yc
 show 19
 show 148
 exact (jv 11)
 exact Yc
 show 106
 show 55
 show 37
 show 116
 show 118
 show 113
 refine Ydc ?_
 show 148
 show 6
 show 197
 exact (jv 12)
 show 167
 show 148
 show 6
 exact (jv 11)
 exact (jv 12)
 show 167
 exact Yc
 show 5
 refine Yy (ps := ["_law_pairs", "_law_many"]) (k := 2) ?_ ?_ ?_ ?_
 exact F__law_handed_on
 show 3
 show 139
 show 158
 exact Yc
 show 9
 exact Yfs
 exact (jv 13)
 exact W9
 show 106
 show 48
 show 175
 exact (jv 13)
 show 70
 refine L2.PW.pt ?_
 refine Yac ?_ ?_
 show 38
 exact (jv 15)
 show 165
 refine Jy ?_
 show 185
 exact (V8 hu)
 exact (jv 15)
 exact (jv 14)
 with_unfolding_all rfl
 show 28
 exact (jv 14)
 show 148
 exact (jv 15)
 exact Yc
 exact Yv
 show 48
 show 175
 show 162
 show 11
 show 178
 refine Yc4 (TN := ["_law_mark"]) (FN := ["_law_held"]) (fr := [13]) ?_ ?_ ?_ ?_ ?_ ?_ ?_ ?_
 show 80
 show 151
 exact (Zy ["_law_mark"] ["_law_held"] [13] (by rfl))
 show 175
 show 125
 show 100
 show 27
 show (["_law_mark", "_law_held"] : List Str).Nodup; decide +kernel
 show 31
 show 127
 show 153
 show 167
 show 28
 exact (jv 16)
 show 148
 refine Ya6 ?_ ?_ ?_ ?_
 show 29
 refine ZG (TN := ["_law_head"]) (FN := ["_law_seen"]) (fr := [14]) ?_ ?_ ?_ ?_ ?_
 show 151
 exact (Zy ["_law_head"] ["_law_seen"] [14] (by rfl))
 show 175
 exact (jv 17)
 show 27
 show (["_law_head", "_law_seen"] : List Str).Nodup; decide +kernel
 show 31
 refine J4 ?_ ?_ ?_
 show 17
 show 153
 show 165
 show 153
 refine je_M (T := "list") (id := "list.index") ?_ ?_ ?_ ?_ ?_ ?_ ?_
 show 44
 exact PySem.F.slot_list_index
 exact PySem.F.type_list_index
 exact Yev
 show 162
 show 111
 show 240
 exact (WY rfl)
 show 29
 show 148
 exact (jv 16)
 exact Yc
theorem ZR : YlC ["_law_found", "_law_row", "_law_one"] ["_law_found"] (Yln (top 24)) := by show 154
theorem VD : HB "_law_is_places" (top 24) ["_law_found"]
 | _, _, _, _, _, _, [_], _ => rfl
theorem Vl (T : Top K mg) (O : Own K mg) (D : Ylu K "_law_is_places" (top 24))  : Fn P' w K mg base "_law_is_places" 1 ["_law_found"] Yr := by
 have z_bool := O.z_bool
 have z_int := O.z_int
 show 203
 show 202
 show 214
 refine @Y5 P' w K mg base "_law_is_places" (top 24) ["_law_found", "_law_row", "_law_one"] ["_law_found"] 0 Zs T D ZR VD ?_
 show 1
 have sc := ZR
 show 14
 show 96
 exact YaQ
 show 32
 show 86
 show 153
 show 63
 show 22
 show 26
 show 11
 show 14
 show 96
 exact YaQ
 show 32
 show 86
 show 162
 show 63
 show 55
 show 175
 show 162
 show 70
 refine L2.PW.pt ?_
 refine Yac ?_ ?_
 show 38
 show 161
 show 165
 refine Jy ?_
 refine L2.PW.pt ?_
 refine YkO ?_ ?_
 show 96
 exact YiB
 show 32
 exact z_int
 exact YjP
 show 161
 show 165
 refine Yjt ?_
 show 82
 exact YfL
 show 32
 exact z_bool
 exact Yit
 show 161
 show 63
 show 35
theorem Ygg : YlC ["_law_script", "_law_system_here", "_law_names_here", "_law_lengths", "_law_k", "_law_due_here", "_law_found"] ["_law_script"] (Yln (top 25)) := by show 154
theorem Ylf : HB "law" (top 25) ["_law_script"]
 | _, _, _, _, _, _, [_], _ => rfl
theorem YjY (T : Top K mg) (O : Own K mg) (F__law_cell_at : Fn P' w K mg base "_law_cell_at" 1 ["_law_script", "_law_k"] Ym) (F__law_due : Fn P' w K mg base "_law_due" 3 ["_law_system_here", "_law_names_here", "_law_lengths"] Ze) (F__law_is_places : Fn P' w K mg base "_law_is_places" 1 ["_law_found"] Yr) (F__law_standing : Fn P' w K mg base "_law_standing" 1 ["_law_system_here"] YB) (F__law_system : Fn P' w K mg base "_law_system" 2 ["_law_script"] YL) (F_tied : Fn P' w K mg base "tied" 4 ["system", "lengths"] WJ) (f : Addr) (fd : FuncData) (F : Fun K "law" "law" (top 25) f fd) : FM P' w K mg base 5 f fd ["_law_script"] Ycm := by
 show 204
 have z_min := O.z_min
 show 192
 have z_sum := O.z_sum
 show 214
 refine @Mi.Fun.mirror P' w K mg base "law" "law" (top 25) f fd ["_law_script", "_law_system_here", "_law_names_here", "_law_lengths", "_law_k", "_law_due_here", "_law_found"] ["_law_script"] 4 Yf1 F Ygg ?_
 intro cdv A outer s H E hr
 show 129
 have sc := Ygg
 show 0
 refine Yy (ps := ["_law_script"]) (k := 2) ?_ ?_ ?_ ?_
 exact F__law_system
 show 16
 show 5
 refine Yy (ps := ["_law_system_here"]) (k := 1) ?_ ?_ ?_ ?_
 exact F__law_standing
 show 72
 show 5
 show 15
 show 117
 show 19
 show 33
 show 118
 show 28
 show 157
 show 148
 refine je_B (id := "min") ?_ ?_ ?_ ?_ ?_
 exact (Ydk rfl)
 show 151
 exact z_min
 exact YdC
 show 148
 show 7
 show 136
 show 148
 show 30
 show 158
 show 61
 show 148
 show 181
 exact Ygy
 exact Yh
 refine je_B (id := "sum") ?_ ?_ ?_ ?_ ?_
 exact (Yi2 rfl)
 show 151
 exact z_sum
 exact Ykk
 show 25
 show 34
 show 5
 refine Yy (ps := ["_law_system_here", "_law_names_here", "_law_lengths"]) (k := 3) ?_ ?_ ?_ ?_
 exact F__law_due
 show 72
 show 33
 show 25
 show 5
 refine Yy (ps := ["system", "lengths"]) (k := 4) ?_ ?_ ?_ ?_
 exact F_tied
 show 72
 show 148
 show 240
 exact (WY rfl)
 show 29
 show 25
 show 34
 show 9
 exact Yfs
 show 179
 exact W9
 show 94
 refine YgW ?_ ?_ ?_ ?_
 exact Yfs
 exact (jv 6)
 exact W9
 show 194
 show 41
 refine YjI ?_ ?_
 refine Yy (ps := ["_law_found"]) (k := 1) ?_ ?_ ?_ ?_
 exact F__law_is_places
 show 3
 exact (jv 6)
 exact Yc
 refine Yi9 ?_
 refine YgW ?_ ?_ ?_ ?_
 exact (YdF hu8)
 exact (jv 6)
 show 179
 show 194
end
structure Seen (K : Frag) : Prop where
 d_is_sign : Ylu K "is_sign" (top 1)
 d_is_unknown : Ylu K "is_unknown" (top 2)
 d_letters_of : Ylu K "letters_of" (top 3)
 d_rising : Ylu K "rising" (top 4)
 d_names_of : Ylu K "names_of" (top 5)
 d_laid : Ylu K "laid" (top 7)
 d_head_of : Ylu K "head_of" (top 8)
 d_tie : Ylu K "tie" (top 9)
 d_tie_sides : Ylu K "tie_sides" (top 10)
 d_shown : Ylu K "shown" (top 11)
 d_tied : Ylu K "tied" (top 12)
 d__law_cell_at : Ylu K "_law_cell_at" (top 14)
 d__law_mixed : Ylu K "_law_mixed" (top 15)
 d__law_names : Ylu K "_law_names" (top 16)
 d__law_two : Ylu K "_law_two" (top 17)
 d__law_system : Ylu K "_law_system" (top 18)
 d__law_standing : Ylu K "_law_standing" (top 19)
 d__law_marks : Ylu K "_law_marks" (top 20)
 d__law_least : Ylu K "_law_least" (top 21)
 d__law_handed_on : Ylu K "_law_handed_on" (top 22)
 d__law_due : Ylu K "_law_due" (top 23)
 d__law_is_places : Ylu K "_law_is_places" (top 24)
 d_law : Ylu K "law" (top 25)
 z_bool : nsIn K mainGlobals "bool" = some none
 z_dict : nsIn K mainGlobals "dict" = some none
 z_int : nsIn K mainGlobals "int" = some none
 z_isinstance : nsIn K mainGlobals "isinstance" = some none
 z_len : nsIn K mainGlobals "len" = some none
 z_list : nsIn K mainGlobals "list" = some none
 z_min : nsIn K mainGlobals "min" = some none
 z_range : nsIn K mainGlobals "range" = some none
 z_set : nsIn K mainGlobals "set" = some none
 z_sorted : nsIn K mainGlobals "sorted" = some none
 z_str : nsIn K mainGlobals "str" = some none
 z_sum : nsIn K mainGlobals "sum" = some none
 z_tuple : nsIn K mainGlobals "tuple" = some none
 z_zip : nsIn K mainGlobals "zip" = some none
theorem YgO {K : Frag} {mg : SOV} (T : Top K mg) (S : Seen K) : Own K mg where
 z_bool := T.none S.z_bool
 z_dict := T.none S.z_dict
 z_int := T.none S.z_int
 z_isinstance := T.none S.z_isinstance
 z_len := T.none S.z_len
 z_list := T.none S.z_list
 z_min := T.none S.z_min
 z_range := T.none S.z_range
 z_set := T.none S.z_set
 z_sorted := T.none S.z_sorted
 z_str := T.none S.z_str
 z_sum := T.none S.z_sum
 z_tuple := T.none S.z_tuple
 z_zip := T.none S.z_zip
theorem Yjj {P' : Program} {w : World} {K : Frag} {mg : SOV} (T : Top K mg) (S : Seen K) (f : Addr) (fd : FuncData) (F : Fun K "law" "law" (top 25) f fd) (base : Heap) : FM P' w K mg base 5 f fd ["_law_script"] Ycm := by
 have O := YgO T S
 have F_is_sign : Fn P' w K mg base "is_sign" 1 ["letter"] ZI := YcQ T O S.d_is_sign
 have F_is_unknown : Fn P' w K mg base "is_unknown" 1 ["letter"] Y2 := YaC T O S.d_is_unknown
 have F_letters_of : Fn P' w K mg base "letters_of" 1 ["system"] Y1 := YaJ T O S.d_letters_of
 have F_rising : Fn P' w K mg base "rising" 1 ["letters"] WN := YeG T O S.d_rising
 have F_head_of : Fn P' w K mg base "head_of" 1 ["heads", "spot"] Y4 := Ydt T O S.d_head_of
 have F__law_cell_at : Fn P' w K mg base "_law_cell_at" 1 ["_law_script", "_law_k"] Ym := Js T O S.d__law_cell_at
 have F__law_mixed : Fn P' w K mg base "_law_mixed" 1 ["_law_cell", "_law_many"] Y3 := Yaw T O S.d__law_mixed
 have F__law_names : Fn P' w K mg base "_law_names" 1 ["_law_cell", "_law_many"] YW := Yaz T O S.d__law_names
 have F__law_two : Fn P' w K mg base "_law_two" 1 ["_law_cell"] Zt := YcB T O S.d__law_two
 have F__law_standing : Fn P' w K mg base "_law_standing" 1 ["_law_system_here"] YB := VW T O S.d__law_standing
 have F__law_marks : Fn P' w K mg base "_law_marks" 1 ["_law_side", "_law_places"] YI := YaK T O S.d__law_marks
 have F__law_least : Fn P' w K mg base "_law_least" 1 ["_law_one", "_law_other"] YX := Yay T O S.d__law_least
 have F__law_is_places : Fn P' w K mg base "_law_is_places" 1 ["_law_found"] Yr := Vl T O S.d__law_is_places
 have F_names_of : Fn P' w K mg base "names_of" 2 ["system"] YU := YcC T O S.d_names_of F_is_unknown F_letters_of F_rising
 have F_laid : Fn P' w K mg base "laid" 2 ["side", "length_of"] WQ := Yic T O S.d_laid F_is_sign
 have F_tie : Fn P' w K mg base "tie" 2 ["heads", "one", "other"] Jg := YjD T O S.d_tie F_head_of
 have F_shown : Fn P' w K mg base "shown" 2 ["heads", "numbers", "spot"] ZY := Ygs T O S.d_shown F_head_of
 have F__law_system : Fn P' w K mg base "_law_system" 2 ["_law_script"] YL := JN T O S.d__law_system F__law_cell_at F__law_mixed F__law_names F__law_two
 have F__law_handed_on : Fn P' w K mg base "_law_handed_on" 2 ["_law_pairs", "_law_many"] Ys := VA T O S.d__law_handed_on F__law_least
 have F_tie_sides : Fn P' w K mg base "tie_sides" 3 ["heads", "one", "other"] YF := YbG T O S.d_tie_sides F_tie
 have F__law_due : Fn P' w K mg base "_law_due" 3 ["_law_system_here", "_law_names_here", "_law_lengths"] Ze := YbY T O S.d__law_due F__law_handed_on F__law_marks
 have F_tied : Fn P' w K mg base "tied" 4 ["system", "lengths"] WJ := Yh6 T O S.d_tied F_laid F_names_of F_shown F_tie_sides
 exact YjY T O F__law_cell_at F__law_due F__law_is_places F__law_standing F__law_system F_tied f fd F
theorem walk {q : Program} {loose : List Str} {XP : (Str -> Option Value) -> Heap -> Prop} {YP : World -> Heap -> Prop} {d : DefRec} {K : Params -> Frag} (hdf : d.params.defaults = []) (hy : d.name = "law") (hY : ∀ (w : World) (h : Heap), YP w h -> (K w.params).In h) (S : ∀ w : World, Seen (K w.params)) (L : Law 63 Ycm) :
 PySem.W.WalkO q loose XP YP PySem.Challenge.rw_gapwords_k51_places_tied.row.toRowW d [] (fun f vs => PySem.call f vs) :=
 Yhj (l := PySem.Challenge.rw_gapwords_k51_places_tied) (k := 5) (x := "_law_script") (y := "law") (st := top 25) rfl (by decide) hdf hy ⟨rfl, by decide, by decide⟩ hY (fun _ _ _ _ _ _ s u => .of_eq rfl) (fun w => (S w).d_law) (fun w mg T f fd F base => Yjj T (S w) f fd F base) L
end G
namespace Mi
open PySem PySem.Spec L2
open PyProof.Rows hiding St
variable {N : Nat} {a : List Nat} {b : Ylo} {c : Nat} {g : MG} {i : Int} {j : Int} {k : Nat} {kvs : List (Key × P)} {l : List Nat} {m : MS} {n : Nat} {o : O} {p : P} {src : Src} {st : Ylo} {v : P} {xs : List P} {α : Type} {ρ : Rho}
def joinR (x : Str) (ps : List P) (st : Ylo) : R P := match YmB ps with
 | some ys => if YmH x ys <= cap then .ok (.str (Txt.join x ys)) st else .bad
 | none => .bad
def Yn8 (r : RS) : R P := match r with
 | .nx _ st' => .ok .non st'
 | .rt p st' => .ok p st'
 | _ => .bad
def Yog (r : R P) : R P := match r with
 | .ok p st2 => .ok p st2
 | _ => .bad
section
@[simp] theorem Yis : Yn8 (.nx ρ st) = .ok .non st := rfl
@[simp] theorem YdR {p : P} : Yn8 (.rt p st) = .ok p st := rfl
@[simp] theorem Ygb {p : P} : Yog (.ok p st) = .ok p st := rfl
@[simp] theorem x_eC {p : P} : eC p ρ st = .ok p st := rfl
@[simp] theorem VZ {i : Nat} : Yll i ρ st = match ρ[i]? with | some (some p) => .ok p st | _ => .bad := rfl
@[simp] theorem YdD {g : G2} {a b : ME} : Ylq g a b ρ st = (a ρ st).bind fun p st1 => (b ρ st1).bind fun q st2 => ofO (g p q st2) := rfl
@[simp] theorem YgQ {m : ME} : Yl0 m ρ st = (m ρ st).bind fun p st1 => match p with | .bl c => .ok c st1 | _ => .bad := rfl
@[simp] theorem Yg4 {g g' : G2} {a b c : ME} : Ynd g g' a b c ρ st = (a ρ st).bind fun p st1 => (b ρ st1).bind fun q st2 => (ofO (g p q st2)).bind fun z st3 => match z with
 | .bl k => if k = true then (c ρ st3).bind fun r st4 => ofO (g' q r st4) else .ok (.bl false) st3
 | _ => .bad := rfl
@[simp] theorem JB {a b : MT} : YmM a b ρ st = (a ρ st).bind fun c st1 => if c = true then b ρ st1 else .ok false st1 := rfl
@[simp] theorem Yjg {a b : MT} : YoZ a b ρ st = (a ρ st).bind fun c st1 => if c = true then .ok true st1 else b ρ st1 := rfl
@[simp] theorem Vp {a : MT} : Yme a ρ st = (a ρ st).bind fun c st1 => .ok (!c) st1 := rfl
@[simp] theorem YiX {a b : ME} : YoB a b ρ st = (a ρ st).bind fun p st1 => match p with | .bl c => if c = true then b ρ st1 else .ok (.bl false) st1 | _ => .bad := rfl
@[simp] theorem Ylk {a b : ME} : eOr a b ρ st = (a ρ st).bind fun p st1 => match p with | .bl c => if c = true then .ok (.bl true) st1 else b ρ st1 | _ => .bad := rfl
@[simp] theorem Ylh {a : ME} : YpN a ρ st = (a ρ st).bind fun p st1 => match p with | .bl c => .ok (.bl (!c)) st1 | _ => .bad := rfl
@[simp] theorem YgF {c : MT} {a b : ME} : eIf c a b ρ st = (c ρ st).bind fun k st1 => if k = true then a ρ st1 else b ρ st1 := rfl
@[simp] theorem Z4 {m : ME} : YlQ m ρ st = (m ρ st).bind fun p st1 => match YnD p st1 with | some c => .ok c st1 | none => .bad := rfl
@[simp] theorem Wb {b : Bool} : YnD (.bl b) st = some b := rfl
@[simp] theorem YiY {i : Int} : YnD (.int i) st = some (i != 0) := rfl
@[simp] theorem Yi3 : YnD .non st = some false := rfl
@[simp] theorem Ybw : Yls ρ st = .ok [] st := rfl
@[simp] theorem Jw {a : ME} {r : MA} : Ylm a r ρ st = (a ρ st).bind fun p st1 => (r ρ st1).bind fun ps st2 => .ok (p :: ps) st2 := rfl
@[simp] theorem Yji {r : MA} : Yob r ρ st = (r ρ st).bind fun ps st1 => if ps.length <= cap then .ok (.tup ps) st1 else .bad := rfl
@[simp] theorem YiR {r : MA} : lMk r ρ st = (r ρ st).bind fun ps st1 => if ps.length <= cap then .ok ps st1 else .bad := rfl
@[simp] theorem Yfo {r : MA} : Ymo r ρ st = (r ρ st).bind fun ps st1 => .ok (.ref st1.length) (st1 ++ [.lst ps]) := rfl
@[simp] theorem Yh7 {r : MA} : Yn1 r ρ st = (r ρ st).bind fun ps st1 => .ok (.tup ps) st1 := rfl
@[simp] theorem Yg5 : YnR ρ st = .ok (.ref st.length) (st ++ [.dct []]) := rfl
@[simp] theorem x_eB {g : GC} {r : MA} : eB g r ρ st = (r ρ st).bind fun ps st1 => ofO (g ps st1) := rfl
@[simp] theorem Ylj {a : ME} : YpT a ρ st = (a ρ st).bind fun p st1 => match p with | .int i => .ok (.int (-i)) st1 | _ => .bad := rfl
@[simp] theorem YhI {n : Nat} {mf : MF} {r : MA} : YlK n mf r ρ st = (r ρ st).bind fun ps st1 => if ps.length = n then Yog (mf ps st1) else .bad := by unfold YlK Yog; rfl
@[simp] theorem Ydj {T : String} {a : ME} : YlY T a ρ st = (a ρ st).bind fun p st1 => match tyP p st1 with | some t => .ok (.bl (Yng t T)) st1 | none => .bad := rfl
@[simp] theorem x_eM {ty : P -> Ylo -> Bool} {g : GM} {a : ME} {r : MA} : eM ty g a r ρ st = (a ρ st).bind fun p st1 => if ty p st1 = true then (r ρ st1).bind fun ps st2 => ofO (g p ps st2) else .bad := rfl
@[simp] theorem Yky {a : ME} {l h : MO} : eSl a l h ρ st = (a ρ st).bind fun p st1 => (l ρ st1).bind fun l st2 => (h ρ st2).bind fun u st3 => ofO (slP p l u st3) := rfl
@[simp] theorem YhQ : Ym7 ρ st = .ok none st := rfl
@[simp] theorem Yip {a : ME} : Ym8 a ρ st = (a ρ st).bind fun p st1 => match p with | .int i => .ok (some i) st1 | _ => .bad := rfl
@[simp] theorem Ylb {a : ME} : Ypi a ρ st = (a ρ st).bind fun p st1 => match p with | .tup xs => .ok (.tup xs.reverse) st1 | _ => .bad := rfl
@[simp] theorem WO : Yl8 ρ st = .nx ρ st := rfl
@[simp] theorem Z2 {a b : MS} : Ylt a b ρ st = (a ρ st).seq b := rfl
@[simp] theorem Yht {a : ME} : sRet a ρ st = RS.ofE ρ (a ρ st) fun p st1 => .rt p st1 := rfl
@[simp] theorem Yk8 : Ypg ρ st = .rt .non st := rfl
@[simp] theorem Yir {a : ME} : sDrop a ρ st = RS.ofE ρ (a ρ st) fun _ st1 => .nx ρ st1 := rfl
@[simp] theorem YbR {i : Nat} {a : ME} : YlB i a ρ st = RS.ofE ρ (a ρ st) fun p st1 => .nx (ρ.set i (some p)) st1 := rfl
@[simp] theorem YhM {i : Nat} {a : MA} : Yn3 i a ρ st = RS.ofE ρ (a ρ st) fun ps st1 => .nx (ρ.set i (some (.ref st1.length))) (st1 ++ [.lst ps]) := rfl
@[simp] theorem Wz {c : MT} {a b : MS} : sIf c a b ρ st = RS.ofE ρ (c ρ st) fun k st1 => if k = true then a ρ st1 else b ρ st1 := rfl
@[simp] theorem YkP : Yo1 ρ st = .bk ρ st := rfl
@[simp] theorem Yk7 : Yo6 ρ st = .ct ρ st := rfl
@[simp] theorem YdE {i : MI} {g : MG} {m : MS} : sFor i g m ρ st = RS.ofE ρ (i ρ st) fun src st1 => Ymb src g m src.n 0 ρ st1 := rfl
@[simp] theorem Ylg {a : ME} {g : MG} : YpK a g ρ st = RS.ofE ρ (a ρ st) fun p st1 => match g p ρ st1 with | some ρ' => .nx ρ' st1 | none => .bad := rfl
@[simp] theorem Ykd {o i e : ME} : Yon o i e ρ st = RS.ofE ρ (e ρ st) fun v st1 => RS.ofE ρ (o ρ st1) fun o st2 => RS.ofE ρ (i ρ st2) fun i st3 => match Ynn o i v st3 with | some st4 => .nx ρ st4 | none => .bad := rfl
@[simp] theorem Yk4 {i : Nat} {p : P} : Ylp i p ρ st = some (ρ.set i (some p)) := rfl
@[simp] theorem Yle : Ymg [] ρ st = some ρ := rfl
@[simp] theorem YkD {g : MG} {r : MGs} {p : P} {ps : List P} : YlD g r (p :: ps) ρ st = (g p ρ st).bind fun ρ1 => r ps ρ1 st := rfl
@[simp] theorem Yld {n : Nat} {r : MGs} {p : P} : Yma n r p ρ st = match Yl4 p st with | some xs => if xs.length = n then r xs ρ st else none | none => none := rfl
@[simp] theorem YiU {xs : List P} : Yl4 (.tup xs) st = some xs := rfl
@[simp] theorem Yho {a : ME} : YmF a ρ st = (a ρ st).bind fun p st1 => match srcOf p st1 with | some s => .ok s st1 | none => .bad := rfl
@[simp] theorem Ycf {xs : List P} : srcOf (.tup xs) st = some (Ym3 xs) := rfl
@[simp] theorem YiM {z : Str} : srcOf (.str z) st = some (Yno z) := rfl
def Yny (ps : List P) (st : Ylo) : R Src := match ps with
 | [.int j] => if small62 j = true then .ok (Ymy 0 j.toNat) st else .bad
 | [.int i, .int j] => if small62 i = true /\ small62 j = true then .ok (Ymy i (j - i).toNat) st else .bad
 | _ => .bad
theorem YeW {r : MA} : Ymi r ρ st = (r ρ st).bind fun ps st1 => Yny ps st1 := rfl
@[simp] theorem YfJ {r : MA} : Ymi r ρ st = (r ρ st).bind fun ps st1 => Yny ps st1 := by rw [YeW]
theorem Ycg (h0 : -1000000000 <= i) (h1 : i <= 1000000000) : small62 i = true := by
 unfold small62
 rw [ZAa (by omega), ZAa (by omega)]
 rfl
theorem WA (h0 : -1000000000 <= j) (h1 : j <= 1000000000) : Yny [.int j] st = .ok (Ymy 0 j.toNat) st := by
 unfold Yny
 show 145
 rw [ZAF (Ycg h0 h1)]
@[simp] theorem YiK {i : MI} {n : Nat} {fr : List Nat} {g : MG} {nt : MT} {me : ME} : Ymr i n fr g nt me ρ st = (i ρ st).bind fun src st1 => YlX src g nt me (rho0 n fr ρ) src.n 0 st1 [] := rfl
@[simp] theorem Yla : Ymv ρ st = .ok true st := rfl
@[simp] theorem YfP {o : ME} {r : MA} : Ym2 o r ρ st = (o ρ st).bind fun p st1 => match p with
 | .str x => (r ρ st1).bind fun ps st2 => joinR x ps st2
 | _ => .bad := rfl
@[simp] theorem YiT {n : Nat} {m : MS} {ps : List P} : fnM n m ps st = Yn8 (m (ps.map some ++ List.replicate (n - ps.length) none) st) := by unfold fnM Yn8; rfl
@[simp] theorem Yjd {n : Nat} {fr : List Nat} : rho0 n fr ρ = List.replicate n none ++ fr.map fun k => (ρ[k]?).join := rfl
@[simp] theorem Yff {i j : Int} : Yl1 (.int i) (.int j) st = some (.int (i + j), st) := rfl
@[simp] theorem Yew {i j : Int} : You (.int i) (.int j) st = some (.int (i - j), st) := rfl
@[simp] theorem YgG {i j : Int} : ltP (.int i) (.int j) st = some (.bl (decide (i < j)), st) := rfl
@[simp] theorem YkE {i j : Int} : leP (.int i) (.int j) st = some (.bl (decide (i <= j)), st) := rfl
@[simp] theorem Yk3 {i j : Int} : gtP (.int i) (.int j) st = some (.bl (decide (j < i)), st) := rfl
@[simp] theorem YkG {i j : Int} : geP (.int i) (.int j) st = some (.bl (decide (j <= i)), st) := rfl
@[simp] theorem YkM {x y : Str} : ltP (.str x) (.str y) st = some (.bl (Ym9 x y), st) := rfl
@[simp] theorem Ygh {x y : Str} : leP (.str x) (.str y) st = some (.bl (!Ym9 y x), st) := rfl
theorem YkN (h : 0 < j) : Yms (.int i) (.int j) st = some (.int (i % j), st) := by simp [Yms, h, okP]
theorem Ykb (h : 0 < j) (h2 : j < 1073741824) : YmS (.int i) (.int j) st = some (.int (i / j), st) := by simp [YmS, h, h2, okP]
theorem YkL (h : -(2 ^ 64) < j) (h2 : j < 2 ^ 64) : YoV (.int i) (.int j) st = some (.int (i * j), st) := by
 have : small64 j = true := by unfold small64; rw [decide_eq_true h, decide_eq_true h2]; rfl
 simp [YoV, this, okP]
theorem Yfk {x y : Str} (h : x.length + y.length <= 1000000) : Yl1 (.str x) (.str y) st = some (.str (x ++ y), st) := by
 have : x.length + y.length <= cap := h
 simp [Yl1, this, okP]
theorem Yd8 {x : Str} (h : x.length <= 1000000) : Ymw [.str x] st = some (.int x.length, st) := by
 have : x.length <= cap := h
 simp [Ymw, this, okP]
@[simp] theorem Ykw {xs : List P} : Ymw [.tup xs] st = some (.int xs.length, st) := rfl
theorem ZH (h : st[k]? = some (.lst xs)) : Ymw [.ref k] st = some (.int xs.length, st) := by simp [Ymw, h, okP]
theorem YbW (h : st[k]? = some (.ro xs)) : Ymw [.ref k] st = some (.int xs.length, st) := by simp [Ymw, h, okP]
end
theorem VE (N : Nat) (I : Nat -> Rho -> Ylo -> Prop) (O : RS -> Prop)
 (step : ∀ i ρ st, i < N -> I i ρ st -> ∃ p ρ1, src.nx i st = some (some p) /\ g p ρ st = some ρ1 /\ match m ρ1 st with
  | .nx ρ' st' => I (i + 1) ρ' st'
  | .ct ρ' st' => I (i + 1) ρ' st'
  | .bk ρ' st' => O (.nx ρ' st')
  | r => O r)
 (stop : ∀ ρ st, I N ρ st -> src.nx N st = some none /\ O (.nx ρ st)) :
 ∀ (n i : Nat) ρ st, n + i = N -> I i ρ st -> O (Ymb src g m n i ρ st) := by
 intro n
 induction n with
 | zero =>
  intro i ρ st e h
  have e' : i = N := by omega
  subst e'
  obtain ⟨h1, h2⟩ := stop ρ st h
  simp only [Ymb, h1]
  exact h2
 | succ n ih =>
  intro i ρ st e h
  obtain ⟨p, ρ1, h1, h2, h3⟩ := step i ρ st (by omega) h
  simp only [Ymb, h1, h2]
  revert h3
  cases q : m ρ1 st with
  | nx ρ' st' => intro h3; exact ih (i + 1) ρ' st' (by omega) h3
  | ct ρ' st' => intro h3; exact ih (i + 1) ρ' st' (by omega) h3
  | bk ρ' st' => intro h3; exact h3
  | rt p st' => intro h3; exact h3
  | exc k ρ' st' => intro h3; exact h3
  | bad => intro h3; exact h3
theorem Yfm (I : Nat -> Rho -> Ylo -> Prop) (h0 : I 0 ρ st)
 (step : ∀ i ρ st, i < N -> I i ρ st -> ∃ p ρ1, src.nx i st = some (some p) /\ g p ρ st = some ρ1 /\ ∃ ρ' st', m ρ1 st = .nx ρ' st' /\ I (i + 1) ρ' st')
 (stop : ∀ ρ st, I N ρ st -> src.nx N st = some none) : ∃ ρ' st', Ymb src g m N 0 ρ st = .nx ρ' st' /\ I N ρ' st' := by
 have := VE (src := src) (g := g) (m := m) N I (fun r => ∃ ρ' st', r = .nx ρ' st' /\ I N ρ' st') (fun i ρ st hi h => by
  obtain ⟨p, ρ1, h1, h2, ρ', st', h3, h4⟩ := step i ρ st hi h
  refine ⟨p, ρ1, h1, h2, ?_⟩
  rw [h3]
  exact h4) (fun ρ st h => ⟨stop ρ st h, ρ, st, rfl, h⟩) N 0 ρ st (by omega) h0
 exact this
theorem VR {nt : MT} {me : ME} {ρ0 : Rho} (I : Nat -> Ylo -> List P -> Prop) (h0 : I 0 st [])
 (step : ∀ i st acc, i < N -> I i st acc -> ∃ p ρ1, src.nx i st = some (some p) /\ g p ρ0 st = some ρ1 /\
  ((∃ st1, nt ρ1 st = .ok false st1 /\ I (i + 1) st1 acc) \/ ∃ st1 q st2, nt ρ1 st = .ok true st1 /\ me ρ1 st1 = .ok q st2 /\ acc.length < cap /\ I (i + 1) st2 (acc ++ [q])))
 (stop : ∀ st acc, I N st acc -> src.nx N st = some none) : ∃ acc st', YlX src g nt me ρ0 N 0 st [] = .ok acc st' /\ I N st' acc := by
 have key : ∀ (n i : Nat) st acc, n + i = N -> I i st acc -> ∃ acc' st', YlX src g nt me ρ0 n i st acc = .ok acc' st' /\ I N st' acc' := by
  intro n
  induction n with
  | zero =>
   intro i st acc e h
   have e' : i = N := by omega
   subst e'
   exact ⟨acc, st, by simp only [YlX, stop st acc h], h⟩
  | succ n ih =>
   intro i st acc e h
   obtain ⟨p, ρ1, h1, h2, h3⟩ := step i st acc (by omega) h
   rcases h3 with ⟨st1, h3, h4⟩ | ⟨st1, q, st2, h3, h4, h5, h6⟩
   ·obtain ⟨acc', st', e1, e2⟩ := ih (i + 1) st1 acc (by omega) h4
    exact ⟨acc', st', by simp only [YlX, h1, h2, h3, e1], e2⟩
   ·obtain ⟨acc', st', e1, e2⟩ := ih (i + 1) st2 (acc ++ [q]) (by omega) h6
    exact ⟨acc', st', by simp only [YlX, h1, h2, h3, h4, if_pos h5, e1], e2⟩
 exact key N 0 st [] (by omega) h0
@[simp] theorem Ybn {xs : List P} {i : Nat} {st : Ylo} : (Ym3 xs).nx i st = some xs[i]? := rfl
@[simp] theorem Yj4 {xs : List P} : (Ym3 xs).n = xs.length := rfl
@[simp] theorem Yi7 {z : Str} : (Yno z).n = z.cps.size := rfl
theorem Yh1 {z : Str} {i : Nat} (h : i <= z.cps.size) : (Yno z).nx i st = some ((z.cps[i]?).map YnJ) := by
 unfold Yno
 show 145
 by_cases hi : i < z.cps.size
 ·rw [ZAF hi]
 ·have : i = z.cps.size := by omega
  subst this
  simp
@[simp] theorem Ykn {lo : Int} {n : Nat} : (Ymy lo n).n = n := rfl
@[simp] theorem JD {lo : Int} {n i : Nat} {st : Ylo} : (Ymy lo n).nx i st = some (if i < n then some (.int (lo + i)) else none) := rfl
@[simp] theorem Yka {k n : Nat} : (YmI k n).n = n := rfl
theorem Yhx {i : Nat} {ys : List P} (h : listAt st k = some ys) : (YmI k n).nx i st = some ys[i]? := by
 unfold YmI
 unfold listAt at h
 show 145
 split at h <;> first | (cases h; rename_i e; simp only [e]) | cases h
def sT (l : List Nat) : Str := ⟨l.toArray⟩
def tx (l : List Nat) : P := .str (sT l)
@[simp] theorem WF {l : List Nat} : (sT l).length = l.length := by simp [sT, Str.length]
@[simp] theorem Yai {l : List Nat} : (sT l).cps.toList = l := rfl
@[simp] theorem Yh5 {l : List Nat} : (sT l).cps.size = l.length := by simp [sT]
@[simp] theorem Yjc {l : List Nat} {i : Nat} : (sT l).cps[i]? = l[i]? := by simp [sT]
theorem YcV {b : List Nat} : sT a ++ sT b = sT (a ++ b) := by
 show (⟨a.toArray ++ b.toArray⟩ : Str) = _
 simp [sT]
theorem sT_inj {b : List Nat} : sT a = sT b ↔ a = b := by
 constructor
 ·intro h
  have := ZBI (fun s : Str => s.cps.toList) h
  exact this
 ·rintro rfl; rfl
@[simp] theorem YfF {a b : List Nat} {st : Ylo} (h : a.length + b.length <= 1000000) : Yl1 (tx a) (tx b) st = some (tx (a ++ b), st) := by
 unfold tx
 rw [Yfk (by simpa using h), YcV]
theorem Yhf (h : a.length <= 1000000) : Ymw [tx a] st = some (.int a.length, st) := by
 unfold tx
 rw [Yd8 (by simpa using h)]
 simp
theorem Yf0 (h0 : 0 <= i) (h1 : i < n) : ixN n i = some i.toNat := by unfold ixN; rw [if_pos h0, if_pos h1]
theorem YbF {xs : List α} (h0 : 0 <= i) (h1 : i < xs.length) : atI xs i = xs[i.toNat]? := by unfold atI; rw [Yf0 h0 h1]; rfl
theorem WS (h0 : 0 <= i) (h1 : i < l.length) (hc : l.length <= 1000000) : ∃ c, l[i.toNat]? = some c /\ ixP (tx l) (.int i) st = some (tx [c], st) := by
 have hi : i.toNat < l.length := by omega
 refine ⟨l[i.toNat], by simp [hi], ?_⟩
 have e : (sT l).length <= cap := by rw [WF]; exact hc
 show (if (sT l).length <= cap then (atI (sT l).cps.toList i).map fun c => (P.str ⟨#[c]⟩, st) else none) = _
 rw [ZAF e, Yai, YbF h0 h1, ZAT hi]
 rfl
theorem YkZ (h0 : 0 <= i) (h : xs[i.toNat]? = some p) : ixP (.tup xs) (.int i) st = some (p, st) := by
 have hi : i.toNat < xs.length := (ZAB.mp h).1
 show (atI xs i).map (fun p => (p, st)) = _
 rw [YbF h0 (by omega), h]
 rfl
theorem ZB (hk : st[k]? = some (.lst xs)) (h0 : 0 <= i) (h : xs[i.toNat]? = some p) : ixP (.ref k) (.int i) st = some (p, st) := by
 have hi : i.toNat < xs.length := (ZAB.mp h).1
 unfold ixP
 simp only [hk]
 show (atI xs i).map (fun p => (p, st)) = _
 rw [YbF h0 (by omega), h]
 rfl
theorem Yd0 (hk : st[k]? = some (.ro xs)) (h0 : 0 <= i) (h : xs[i.toNat]? = some p) : ixP (.ref k) (.int i) st = some (p, st) := by
 have hi : i.toNat < xs.length := (ZAB.mp h).1
 unfold ixP
 simp only [hk]
 show (atI xs i).map (fun p => (p, st)) = _
 rw [YbF h0 (by omega), h]
 rfl
@[simp] theorem YfH {i j : Int} {st : Ylo} : eqP (.int i) (.int j) st = some (.bl (i == j), st) := rfl
@[simp] theorem YkX {x y : Str} {st : Ylo} : eqP (.str x) (.str y) st = some (.bl (x == y), st) := rfl
@[simp] theorem YkY {st : Ylo} : eqP .non .non st = some (.bl true, st) := rfl
@[simp] theorem YfB {i j : Int} {st : Ylo} : neP (.int i) (.int j) st = some (.bl (!(i == j)), st) := rfl
@[simp] theorem YkH {x y : Str} {st : Ylo} : neP (.str x) (.str y) st = some (.bl (!(x == y)), st) := rfl
theorem Yjh {b : List Nat} : (sT a == sT b) = decide (a = b) := by
 rw [Bool.eq_iff_iff]
 simp [sT_inj]
def YlE (c : Nat) : Bool := decide (97 <= c) && decide (c <= 122)
def isUp (c : Nat) : Bool := decide (65 <= c) && decide (c <= 90)
def Yn0 (c : Nat) : Bool := YlE c || isUp c
theorem YaT : YlE c = true ↔ 97 <= c /\ c <= 122 := by unfold YlE; simp
theorem J7 : isUp c = true ↔ 65 <= c /\ c <= 90 := by unfold isUp; simp
@[simp] theorem Ylc {l : List Nat} {st : Ylo} : isStr (tx l) st = true := rfl
theorem Yal (h : YlE c = true) : isUp c = false := by
 rw [YaT] at h
 rw [Bool.eq_false_iff, Ne, J7]
 omega
theorem VT {a b : Nat} : Ym9 (sT [a]) (sT [b]) = decide (a < b) := by
 unfold Ym9
 show decide ([a] < [b]) = decide (a < b)
 rw [Bool.eq_iff_iff, ZCB, ZCB, List.cons_lt_cons_iff]
 constructor
 ·rintro (h | ⟨_, h⟩)
  ·exact h
  ·exact absurd h (List.not_lt_nil _)
 ·exact .inl
theorem Jf (ls : List (List Nat)) : Txt.join (sT []) (ls.map sT) = sT ls.flatten := by
 unfold Txt.join
 rw [StrLaws.glued_eq_join]
 induction ls with
 | nil => rfl
 | cons a r ih =>
  cases r with
  | nil => simp [Str.join]
  | cons b r =>
   show sT a ++ sT [] ++ Str.join (sT []) ((b :: r).map sT) = _
   rw [ih, YcV, YcV]
   simp
theorem Ja : ∀ (ls : List (List Nat)), YmB (ls.map tx) = some (ls.map sT)
 | [] => rfl
 | a :: r => by
  show (YmB (r.map tx)).map (sT a :: ·) = _
  rw [Ja r]
  rfl
theorem Jn (ls : List (List Nat)) : YmH (sT []) (ls.map sT) = ls.flatten.length := by
 unfold YmH
 simp only [WF, List.length_nil, Nat.mul_zero, Nat.add_zero, List.map_map, List.length_flatten]
 rfl
def Ylx (st st' : Ylo) : Prop := ∃ e, st' = st ++ e
theorem Ylx.refl : Ylx st st := ⟨[], by simp⟩
theorem Ylx.trans {a c : Ylo} (h : Ylx a b) (h2 : Ylx b c) : Ylx a c := by
 obtain ⟨e, rfl⟩ := h
 obtain ⟨f, rfl⟩ := h2
 exact ⟨e ++ f, by simp⟩
theorem Ylx.one : Ylx st (st ++ [o]) := ⟨_, rfl⟩
theorem Ylx.get {a : Ylo} (h : Ylx a b) (e : a[k]? = some o) : b[k]? = some o := by
 obtain ⟨f, rfl⟩ := h
 rw [ZAy (ZAB.mp e).1]
 exact e
theorem Ylx.len {a : Ylo} (h : Ylx a b) : a.length <= b.length := by
 obtain ⟨f, rfl⟩ := h
 simp
theorem Ylx.set {a : Ylo} (h : Ylx a b) (hk : a.length <= k) : Ylx a (b.set k o) := by
 obtain ⟨f, rfl⟩ := h
 exact ⟨f.set (k - a.length) o, by rw [ZCX _ _ hk]⟩
theorem Ylx.listAt {a : Ylo} (h : Ylx a b) (e : listAt a k = some xs) : listAt b k = some xs := by
 unfold Mi.listAt at *
 cases q : a[k]? with
 | none => show 196
 | some o => rw [q] at e; rw [h.get q]; exact e
theorem Yq : (st ++ [o])[st.length]? = some o := by simp
def tkey (l : List Nat) : Key := .inr (sT l)
theorem Yif : Ymt (tx l) = some (tkey l) := rfl
theorem Yak {α β : Type} {f : α -> β} {R : α -> Prop} : ∀ {l : List β}, (∀ q ∈ l, ∃ c, q = f c /\ R c) -> ∃ ls : List α, l = ls.map f /\ ∀ c ∈ ls, R c
 | [], _ => ⟨[], rfl, by intro c hc; cases hc⟩
 | q :: r, h => by
  obtain ⟨c, e, hc⟩ := h q (ZAM ..)
  obtain ⟨ls, e2, h2⟩ := Yak (l := r) fun x hx => h x (ZAQ _ hx)
  refine ⟨c :: ls, by rw [e, e2]; rfl, fun d hd => ?_⟩
  rcases ZAc.mp hd with rfl | hd
  ·exact hc
  ·exact h2 d hd
theorem Vu (ls : List Nat) : (ls.map fun c => [c]).flatten = ls := by induction ls <;> simp_all
theorem Yag (ls : List Nat) : YmB (ls.map fun c => tx [c]) = some ((ls.map fun c => [c]).map sT) := by
 have := Ja (ls.map fun c => [c])
 rw [ZA3] at this
 exact this
theorem WD : ("" : Str) = sT [] := by decide +kernel
theorem Jc {ls : List (List Nat)} (h : ls.flatten.length <= 1000000) : joinR (sT []) (ls.map tx) st = .ok (tx ls.flatten) st := by
 unfold joinR
 rw [Ja]
 show 145
 rw [Jn, ZAF (show _ <= cap from h), Jf]
 rfl
theorem JP {ls : List Nat} (h : ls.length <= 1000000) : joinR (sT []) (ls.map fun c => tx [c]) st = .ok (tx ls) st := by
 unfold joinR
 rw [Yag]
 show 145
 rw [Jn, Vu, ZAF (show _ <= cap from h), Jf, Vu]
 rfl
theorem Yi0 : (n <= cap) = (n <= 1000000) := rfl
theorem YbS {k k' : Key} : ((kvs.map fun kv => if kv.1 = k then (kv.1, v) else kv).find? fun kv => decide (kv.1 = k')).map (·.2) = if k = k' then (if (kvs.any fun kv => decide (kv.1 = k)) = true then some v else none) else (kvs.find? fun kv => decide (kv.1 = k')).map (·.2) := by
 induction kvs with
 | nil => simp
 | cons a r ih =>
  rw [ZAX, ZBb, ZBb, ZBM]
  by_cases h1 : a.1 = k
  ·by_cases h2 : k = k'
   ·subst h2; simp [h1]
   ·have h3 : ¬ a.1 = k' := by rw [h1]; exact h2
    simp only [h1, if_true, h2, decide_false, if_false] at ih ⊢
    rw [ih]
  ·by_cases h2 : a.1 = k'
   ·have h3 : ¬ k = k' := fun e => h1 (h2.trans e.symm)
    rw [ZAE h1, ZAa h2, ZAE h3]
   ·simp only [h1, if_false, h2, decide_false, Bool.false_or]
    exact ih
theorem Ycy {k k' : Key} : YlL (Ymp kvs k v) k' = if k = k' then some v else YlL kvs k' := by
 unfold Ymp YlL
 by_cases h : (kvs.any fun kv => decide (kv.1 = k)) = true
 ·rw [ZAF h, YbS, ZAF h]
 ·rw [ZAE h, List.find?_append]
  by_cases h2 : k = k'
  ·subst h2
   have : kvs.find? (fun kv => decide (kv.1 = k)) = none := by
    rw [ZBc]
    intro x hx hd
    exact h (List.any_eq_true.mpr ⟨x, hx, hd⟩)
   rw [this, ZAF rfl]
   simp
  ·rw [ZAE h2]
   simp [h2]
theorem valP_none {k : Key} : YlL kvs k = none ↔ (kvs.any fun kv => decide (kv.1 = k)) = false := by
 unfold YlL
 rw [ZBf, ZBc, ZBh]
theorem YiE {k : Key} : (Ymp kvs k v).length = if YlL kvs k = none then kvs.length + 1 else kvs.length := by
 unfold Ymp
 by_cases h : (kvs.any fun kv => decide (kv.1 = k)) = true
 ·rw [ZAF h, ZAE (fun e => by rw [valP_none.mp e] at h; cases h), ZAK]
 ·rw [ZAE h, ZAF (valP_none.mpr (Bool.eq_false_iff.mpr h)), ZAJ]; rfl
theorem YeN (h : st[n]? = some (.dct kvs)) (hl : kvs.length < 1000000) : Ynn (.ref n) (tx l) v st = some (st.set n (.dct (Ymp kvs (tkey l) v))) := by
 unfold Ynn
 have : kvs.length < cap := hl
 simp only [h, Yif, if_pos this]
theorem Ya1 (h : st[n]? = some (.lst xs)) (h0 : 0 <= i) (h1 : i < xs.length) : Ynn (.ref n) (.int i) v st = some (st.set n (.lst (xs.set i.toNat v))) := by
 unfold Ynn
 simp only [h, Yf0 h0 h1]
 rfl
theorem Zm (h : st[n]? = some (.lst xs)) (hl : xs.length < 1000000) : Yl5 (.ref n) [v] st = some (.non, st.set n (.lst (xs ++ [v]))) := by
 unfold Yl5 YlM
 have : xs.length < cap := hl
 simp only [h, if_pos this]
theorem Zb (h : st[n]? = some (.lst xs)) : Ymq (.ref n) st = true := by
 unfold Ymq
 simp only [h]
theorem Zd (h : listAt st n = some xs) : srcOf (.ref n) st = some (YmI n xs.length) := by
 unfold listAt at h
 unfold srcOf
 show 145
 split at h <;> first | (cases h; rename_i e; simp only [e]) | cases h
theorem Ybm {l i : Nat} {ys : List P} (h1 : listAt st k = some xs) (h2 : listAt st l = some ys) : (Ynk k l n).nx i st = some (Yml xs ys i) := by
 unfold Ynk
 simp only [h1, h2]
theorem Yju {l : Nat} : (Ynk k l n).n = n := rfl
theorem Yg (h : st[k]? = some (.lst xs)) : listAt st k = some xs := by unfold listAt; rw [h]
theorem Yfa (h : listAt st k = some xs) : Yl4 (.ref k) st = some xs := by
 unfold listAt at h
 unfold Yl4
 show 145
 split at h <;> first | (cases h; rename_i e; simp only [e]) | cases h
section
theorem YjB (h : -(2 ^ 64) < j) (h2 : j < 2 ^ 64) : YmX (.int i) (.int j) st = some (.int (i * j), st) := YkL h h2
theorem YkU : Yos [.int i, .int j] st = some (.int (if j < i then j else i), st) := rfl
end
open Builtin.Str (occurrences partsBetween strSub strKind subAt)
section
theorem ZS (h : listAt st k = some xs) : Ym0 [.ref k] st = some (.tup xs, st) := by
 unfold Ym0
 show 145
 rw [Yfa h]
 rfl
end
section
end
section
theorem Ykx : tyP (tx l) st = some "str" := rfl
theorem Yjl : tyP (.int i) st = some "int" := rfl
theorem Yj5 : tyP (.tup xs) st = some "tuple" := rfl
theorem Yjv : Yng "str" "str" = true := rfl
theorem YjC : Yng "int" "int" = true := rfl
theorem YjW : Yng "int" "bool" = false := rfl
theorem Yki : Yng "tuple" "tuple" = true := rfl
theorem YjS : Yng "int" "str" = false := rfl
theorem Yj7 : Yng "str" "int" = false := rfl
def YlW : Nat -> P -> Bool
 | _, .non => true
 | _, .int _ => true
 | _, .str _ => true
 | n + 1, .tup xs => xs.all (YlW n)
 | _, _ => false
def dat : Nat -> P -> PyData
 | _, .non => .none
 | _, .bl b => .bool b
 | _, .int i => .int i
 | _, .str x => .str x
 | n + 1, .tup xs => .tuple (xs.map (dat n))
 | _, _ => .none
theorem J2 {n : Nat} (ih : ∀ p, YlW n p = true -> snap n st p = some (dat n p)) : ∀ xs : List P, xs.all (YlW n) = true -> xs.mapM (snap n st) = some (xs.map (dat n))
 | [], _ => rfl
 | x :: xs, h => by
  rw [ZBL, ZAk] at h
  rw [List.mapM_cons, ih x h.1, J2 ih xs h.2]
  rfl
theorem Wa : ∀ {n : Nat} {p : P}, YlW n p = true -> snap n st p = some (dat n p)
 | 0, .non, _ => rfl
 | 0, .int _, _ => rfl
 | 0, .str _, _ => rfl
 | _ + 1, .non, _ => rfl
 | _ + 1, .int _, _ => rfl
 | _ + 1, .str _, _ => rfl
 | n + 1, .tup xs, h => by
  have h' : xs.all (YlW n) = true := h
  show (xs.mapM (snap n st)).map PyData.tuple = some (.tuple (xs.map (dat n)))
  rw [J2 (fun p hp => Wa (n := n) hp) xs h']
  rfl
theorem Va {n : Nat} (ih : ∀ p q, YlW n p = true -> YlW n q = true -> (PyData.eqv (dat n p) (dat n q) = true ↔ p = q)) :
 ∀ xs ys : List P, xs.all (YlW n) = true -> ys.all (YlW n) = true -> (PyData.eqvAll (xs.map (dat n)) (ys.map (dat n)) = true ↔ xs = ys)
 | [], [], _, _ => by simp [PyData.eqvAll]
 | [], _ :: _, _, _ => by simp [PyData.eqvAll]
 | _ :: _, [], _, _ => by simp [PyData.eqvAll]
 | x :: xs, y :: ys, h1, h2 => by
  rw [ZBL, ZAk] at h1 h2
  rw [ZAX, ZAX, PyData.eqvAll, ZAk, ih x y h1.1 h2.1, Va ih xs ys h1.2 h2.2, List.cons.injEq]
theorem YbL : ∀ {n : Nat} {p q : P}, YlW n p = true -> YlW n q = true -> (PyData.eqv (dat n p) (dat n q) = true ↔ p = q) := by
 intro n
 induction n with
 | zero =>
  intro p q h1 h2
  cases p <;> first | (cases h1; done) | skip
  all_goals (cases q <;> first | (cases h2; done) | simp [dat, PyData.eqv])
 | succ n ih =>
  intro p q h1 h2
  cases p <;> first | (cases h1; done) | skip
  all_goals (cases q <;> first | (cases h2; done) | skip)
  all_goals first
   | (rename_i xs ys
      have h1' : xs.all (YlW n) = true := h1
      have h2' : ys.all (YlW n) = true := h2
      show PyData.eqv (.tuple (xs.map (dat n))) (.tuple (ys.map (dat n))) = true ↔ _
      rw [PyData.eqv, Va (fun p q => ih) xs ys h1' h2', P.tup.injEq])
   | simp [dat, PyData.eqv]
theorem YaS {q : P} (hp : YlW 8 p = true) (hq : YlW 8 q = true) : ∃ b, eqP p q st = some (.bl b, st) /\ (b = true ↔ p = q) := by
 refine ⟨PyData.eqv (dat 8 p) (dat 8 q), ?_, YbL hp hq⟩
 unfold eqP eqB deep
 rw [Wa hp, Wa hq]
 rfl
theorem Yey {q : P} (hp : YlW 8 p = true) (hq : YlW 8 q = true) : ∃ b, neP p q st = some (.bl (!b), st) /\ (b = true ↔ p = q) := by
 refine ⟨PyData.eqv (dat 8 p) (dat 8 q), ?_, YbL hp hq⟩
 unfold neP eqB deep
 rw [Wa hp, Wa hq]
 rfl
theorem Yfd (hp : YlW 8 p = true) : eqP p p st = some (.bl true, st) := by
 obtain ⟨b, e, h⟩ := YaS (st := st) hp hp
 rw [e, h.mpr rfl]
end
section
end
section
variable {nt : MT} {me : ME} {ρ0 : Rho}
theorem JH (xs : List α) (enc : α -> P) (t : α -> Bool) (f : α -> P) (hn : N = xs.length) (hx : ∀ i, i <= xs.length -> src.nx i st = some (xs[i]?.map enc)) (hc : xs.length <= 1000000)
 (h : ∀ a ∈ xs, ∃ ρ1, g (enc a) ρ0 st = some ρ1 /\ nt ρ1 st = .ok (t a) st /\ (t a = true -> me ρ1 st = .ok (f a) st)) : YlX src g nt me ρ0 N 0 st [] = .ok ((xs.filter t).map f) st := by
 obtain ⟨acc, st', e, h1, h2, _⟩ := VR (src := src) (g := g) (nt := nt) (me := me) (ρ0 := ρ0) (N := xs.length) (fun i s acc => s = st /\ acc = ((xs.take i).filter t).map f /\ acc.length <= i) (st := st) ⟨rfl, by simp, by simp⟩ (fun i s acc hi ⟨e1, e2, e3⟩ => by
  subst e1
  obtain ⟨ρ1, g1, g2, g3⟩ := h xs[i] (ZAb hi)
  refine ⟨enc xs[i], ρ1, by rw [hx i (by omega), ZAT hi]; rfl, g1, ?_⟩
  have et : xs.take (i + 1) = xs.take i ++ [xs[i]] := by rw [ZCE, ZAT hi]; rfl
  cases q : t xs[i] with
  | false => exact .inl ⟨s, by rw [g2, q], rfl, by rw [et, List.filter_append, e2, List.filter_cons_of_neg (by rw [q]; exact ZAO), List.filter_nil, ZBu], by omega⟩
  | true => exact .inr ⟨s, f xs[i], s, by rw [g2, q], g3 q, by show _ < 1000000; omega, rfl, by rw [et, List.filter_append, e2, List.filter_cons_of_pos q, List.filter_nil, ZAU, ZAX, ZCc], by rw [ZAJ, ZAg]; omega⟩)
  (fun s acc ⟨e1, _⟩ => by subst e1; rw [hx _ (ZAI _), ZA1 (ZAI _)]; rfl)
 rw [hn, e, h1, h2, ZAo]
theorem Wi (xs : List α) (enc : α -> P) (f : α -> P) (hn : N = xs.length) (hx : ∀ i, i <= xs.length -> src.nx i st = some (xs[i]?.map enc)) (hc : xs.length <= 1000000)
 (h : ∀ a ∈ xs, ∃ ρ1, g (enc a) ρ0 st = some ρ1 /\ me ρ1 st = .ok (f a) st) : YlX src g Ymv me ρ0 N 0 st [] = .ok (xs.map f) st := by
 rw [JH (nt := Ymv) xs enc (fun _ => true) f hn hx hc fun a ha => let ⟨ρ1, h1, h2⟩ := h a ha; ⟨ρ1, h1, rfl, fun _ => h2⟩]
 rw [List.filter_eq_self.mpr fun _ _ => rfl]
theorem YH (xs : List α) (enc : α -> P) (I : Nat -> Rho -> Ylo -> Prop) (hn : N = xs.length) (hx : ∀ i ρ s, i <= xs.length -> I i ρ s -> src.nx i s = some (xs[i]?.map enc)) (h0 : I 0 ρ st)
 (step : ∀ i (hi : i < xs.length) ρ s, I i ρ s -> ∃ ρ1, g (enc xs[i]) ρ s = some ρ1 /\ ∃ ρ' s', m ρ1 s = .nx ρ' s' /\ I (i + 1) ρ' s') : ∃ ρ' s', Ymb src g m N 0 ρ st = .nx ρ' s' /\ I xs.length ρ' s' := by
 rw [hn]
 refine Yfm I h0 (fun i ρ s hi h => ?_) (fun ρ s h => by rw [hx _ ρ s (ZAI _) h, ZA1 (ZAI _)]; rfl)
 obtain ⟨ρ1, g1, r⟩ := step i hi ρ s h
 exact ⟨enc xs[i], ρ1, by rw [hx i ρ s (by omega) h, ZAT hi]; rfl, g1, r⟩
end
section
variable {i : Nat}
theorem nxS (hi : i <= l.length) : (Yno (sT l)).nx i st = some (l[i]?.map fun c => tx [c]) := by
 rw [Yh1 (by simpa using hi), Yjc]
 rfl
theorem nxL {xs : List α} {enc : α -> P} : (Ym3 (xs.map enc)).nx i st = some (xs[i]?.map enc) := by
 rw [Ybn, ZAZ]
theorem nxR {lo : Int} : (Ymy lo n).nx i st = some ((List.range n)[i]?.map fun (k : Nat) => P.int (lo + k)) := by
 rw [JD]
 by_cases h : i < n
 ·rw [ZAF h, List.getElem?_range h]; rfl
 ·rw [if_neg h, List.getElem?_eq_none (by simpa using h)]; rfl
theorem nxK {xs : List α} {enc : α -> P} (h : listAt st k = some (xs.map enc)) : (YmI k n).nx i st = some (xs[i]?.map enc) := by
 rw [Yhx h, ZAZ]
theorem Ydb : srcOf (tx l) st = some (Yno (sT l)) := rfl
end
section
end
section
theorem YfA : isP .non .non st = some (.bl true, st) := rfl
end
theorem Yi4 (a : Nat) (u : Option Int) (n : Nat) : Builtin.Str.strSliceIndices (some (a : Int)) u 1 n = Builtin.Str.strSliceIndices (some ((min a n : Nat) : Int)) u 1 n := by
 have e : max (0 : Int) (min (if (a : Int) < 0 then (a : Int) + n else a) n) = max 0 (min (if ((min a n : Nat) : Int) < 0 then ((min a n : Nat) : Int) + n else ((min a n : Nat) : Int)) n) := by
  rw [ZAE (by omega), ZAE (by omega)]; omega
 unfold Builtin.Str.strSliceIndices
 simp only [show (1 : Int) > 0 by decide, if_true]
 rw [e]
theorem Ykc (l : Option Int) (b : Nat) (n : Nat) : Builtin.Str.strSliceIndices l (some (b : Int)) 1 n = Builtin.Str.strSliceIndices l (some ((min b n : Nat) : Int)) 1 n := by
 have e : max (0 : Int) (min (if (b : Int) < 0 then (b : Int) + n else b) n) = max 0 (min (if ((min b n : Nat) : Int) < 0 then ((min b n : Nat) : Int) + n else ((min b n : Nat) : Int)) n) := by
  rw [ZAE (by omega), ZAE (by omega)]; omega
 unfold Builtin.Str.strSliceIndices
 simp only [show (1 : Int) > 0 by decide, if_true]
 rw [e]
theorem Wf (x : Str) (l u : Option Int) : Txt.slice x l u = StrLaws.sliceText x l u := by
 first | rfl | (unfold Txt.slice StrLaws.sliceText; rfl)
theorem YgN (x : Str) (a : Nat) (u : Option Int) : Txt.slice x (some (a : Int)) u = Txt.slice x (some ((min a x.length : Nat) : Int)) u := by
 rw [Wf, Wf]
 unfold StrLaws.sliceText
 rw [Yi4]
theorem Ygv (x : Str) (l : Option Int) (b : Nat) : Txt.slice x l (some (b : Int)) = Txt.slice x l (some ((min b x.length : Nat) : Int)) := by
 rw [Wf, Wf]
 unfold StrLaws.sliceText
 rw [Ykc]
theorem YcY (l : List Nat) (a : Nat) : Txt.slice (sT l) (some (a : Int)) none = sT (l.drop a) := by
 rw [YgN, Wf, StrLaws.sliceText_from (by rw [Yai, WF]; omega), Yai, WF]
 have e : (l.drop ((min a l.length : Nat) : Int).toNat).take ((l.length : Int) - ((min a l.length : Nat) : Int)).toNat = l.drop a := by
  rw [ZA0]
  by_cases h : a <= l.length
  ·rw [Nat.min_eq_left h, ZBC (by rw [ZBm]; omega)]
  ·rw [Nat.min_eq_right (by omega), ZCV (ZAI _), ZCV (by omega), List.take_nil]
 show 95
theorem Yf5 (l : List Nat) (b : Nat) : Txt.slice (sT l) none (some (b : Int)) = sT (l.take b) := by
 rw [Ygv, Wf, StrLaws.sliceText_to (by rw [Yai, WF]; omega), Yai, WF]
 have e : (l.drop 0).take (((min b l.length : Nat) : Int) - 0).toNat = l.take b := by
  rw [List.drop_zero, Int.sub_zero, ZA0]
  by_cases h : b <= l.length
  ·rw [Nat.min_eq_left h]
  ·rw [Nat.min_eq_right (by omega), ZBC (ZAI _), ZBC (by omega)]
 show 95
section
theorem Ya4 {a : Nat} (h : l.length <= 1000000) : slP (tx l) (some (a : Int)) none st = some (tx (l.drop a), st) := by
 show (if (sT l).length <= cap then okP (.str (Txt.slice (sT l) (some (a : Int)) none)) st else none) = _
 rw [ZAF (by rw [WF]; exact h), YcY]
 rfl
theorem Yib {b : Nat} (h : l.length <= 1000000) : slP (tx l) none (some (b : Int)) st = some (tx (l.take b), st) := by
 show (if (sT l).length <= cap then okP (.str (Txt.slice (sT l) none (some (b : Int)))) st else none) = _
 rw [ZAF (by rw [WF]; exact h), Yf5]
 rfl
end
theorem Ykl : inP (tx [c]) (tx l) st = some (.bl (decide (c ∈ l)), st) := by
 have := StrLaws.found_one (sT l) c
 show okP (.bl (!(Builtin.Str.occurrences (sT l) (sT [c]) 0 (sT l).length 1).isEmpty)) st = _
 have e : (!(Builtin.Str.occurrences (sT l) (sT [c]) 0 (sT l).length 1).isEmpty) = decide (c ∈ l) := this
 show 95
end Mi
namespace Mi
open PySem PySem.Spec L2
open PyProof.Rows hiding St
def Yoj : RS -> R P
 | .nx _ st => .ok .non st
 | .rt p st => .ok p st
 | .exc x _ st => .exc x st
 | _ => .bad
def YoC (c : Str) (mh : MS) : RS -> RS
 | .exc x ρ st => if x.1 = c then YnX (mh ρ st) else .bad
 | r => r
def YnC (c : Str) (i : Nat) (mh : MS) : RS -> RS
 | .exc x ρ st => if x.1 = c then YnY i (mh (ρ.set i (some (.ref st.length))) (st ++ [.exc c x.2])) else .bad
 | r => r
section
variable {n i : Nat} {m mb mh : MS} {mf : MF} {mr ma : MA} {me : ME} {ps : List P} {ρ : Rho} {st : Ylo} {c : Str} {p : P} {fs : List (Str × P)} {x : Xc} {b : Bool}
theorem YgR : Yoj (.nx ρ st) = .ok .non st := rfl
theorem YfR : Yoj (.rt p st) = .ok p st := rfl
theorem Yd6 : Yoj (.exc x ρ st) = .exc x st := rfl
theorem YiJ : YoC c mh (.nx ρ st) = .nx ρ st := rfl
theorem Yhu : YoC c mh (.rt p st) = .rt p st := rfl
theorem YfD : YoC c mh (.exc (c, fs) ρ st) = YnX (mh ρ st) := by unfold YoC; simp
theorem Ye2 : YnC c i mh (.nx ρ st) = .nx ρ st := rfl
theorem YeI : YnC c i mh (.rt p st) = .rt p st := rfl
theorem Yds : YnC c i mh (.exc (c, fs) ρ st) = YnY i (mh (ρ.set i (some (.ref st.length))) (st ++ [.exc c fs])) := by unfold YnC; simp
theorem YfZ : YnX (.nx ρ st) = .nx ρ st := rfl
theorem Ygl : YnX (.rt p st) = .rt p st := rfl
theorem Yft : YnY i (.nx ρ st) = .nx (ρ.set i none) st := rfl
theorem YgM : YnY i (.rt p st) = .rt p st := rfl
end
theorem YfX {a l : List Nat} {st : Ylo} : Yof (tx a) (tx l) st = inP (tx a) (tx l) st := rfl
theorem YcG {p q : P} {xs : List P} {st : Ylo} (h : Yl4 q st = some xs) (hp : YlO p = true) (hx : xs.all YlO = true) : Ymz p q st = some (.bl (!(xs.any fun y => eqF y p)), st) := by
 unfold Ymz
 rw [h]
 show 145
 rw [ZAF ⟨hp, hx⟩]
 rfl
end Mi
namespace Mi
open PySem PySem.Spec L2
open PyProof.Rows hiding St
theorem Ycb {st : Ylo} {a : Nat} {xs : List P} (h1 : listAt st a = some xs) (hp : xs.all (YlW 7) = true) : snap 8 st (.ref a) = some (.list (xs.map (dat 7))) := by
 show (match listAt st a with | some xs => (xs.mapM (snap 7 st)).map PyData.list | none => none) = _
 rw [h1]
 show 145
 rw [J2 (fun p hp => Wa hp) xs hp]
 rfl
theorem YiP {st : Ylo} {a c : Nat} {xs ys : List P} (h1 : listAt st a = some xs) (h2 : listAt st c = some ys) (hp : xs.all (YlW 7) = true) (hq : ys.all (YlW 7) = true) : ∃ b, neP (.ref a) (.ref c) st = some (.bl (!b), st) /\ (b = true ↔ xs = ys) := by
 refine ⟨PyData.eqv (.list (xs.map (dat 7))) (.list (ys.map (dat 7))), ?_, ?_⟩
 ·unfold neP eqB deep
  rw [Ycb h1 hp, Ycb h2 hq]
  rfl
 ·rw [PyData.eqv]
  exact Va (fun p q => YbL) xs ys hp hq
theorem Yf8 {ρ : Rho} {st : Ylo} {r : MA} : Ynu r ρ st = (r ρ st).bind fun ps st1 => match ps with
 | [.int j] => if small62 j = true /\ j.toNat <= cap then .ok (.ref st1.length) (st1 ++ [.lst (Ynf j.toNat)]) else .bad
 | _ => .bad := rfl
end Mi
namespace G
open PySem PySem.Spec L2 Mi
open PyProof.Rows hiding St
def Yoh (hm : HM) : RS -> RS
 | .exc x ρ st => hm x ρ st
 | r => r
section
variable {ρ : Rho} {st : Ylo} {mb mh : MS} {hm r : HM} {c d : Str} {i n : Nat} {ms : List Str} {fs : List (Str × P)} {p : P}
theorem Yeu {x : Xc} : Yoh hm (.exc x ρ st) = hm x ρ st := rfl
theorem Yhk : Yoh hm (.nx ρ st) = .nx ρ st := rfl
theorem YgL : Yoh hm (.rt p st) = .rt p st := rfl
end
end G
namespace G
open PySem PySem.Spec L2 Mi
open PyProof.Rows hiding St
open Builtin.Str (occurrences partsBetween strSub strKind subAt)
def cutE : List Nat -> List (List Nat)
 | [] => [[]]
 | c :: r => if c = 61 then [] :: cutE r else match cutE r with
  | p :: ps => (c :: p) :: ps
  | [] => [[c]]
def gs : List (List Nat) -> Option (List (List Nat))
 | [] => some []
 | p :: ps => match cutE p with
  | [e, e2] => if (e.all Yn0 && e2.all Yn0) = true then (gs ps).map (fun L => e :: e2 :: L) else none
  | _ => none
def gl (cur : List Nat) : List (List Nat) -> Option (List (List Nat))
 | [] => none
 | p :: ps => match cutE p with
  | [e, e2] => if (e.all Yn0 && e2.all Yn0) = true then (gs ps).map (fun L => (cur ++ e) :: e2 :: L) else none
  | _ => none
end G
namespace G
open PySem PySem.Spec L2 Mi
open PyProof.Rows hiding St
set_option hygiene false in
local macro_rules | `(tactic| k_in) => `(tactic| simp -implicitDefEqProofs (disch := first | omega | decide | (simp only [List.length_append, List.length_cons, List.length_nil, List.length_map]; omega)) only [Yeu, Yhk, YgL, YgR, YfR, Yd6, YiJ, Yhu, YfD, Ye2, YeI, Yds, YfZ, Ygl, Yft, YgM, Ykl, Ya4, Yib, Int.cast_ofNat_Int, Int.reduceBEq, decide_true, decide_false, beq_self_eq_true, YfA, YhB, Ydb, Ykx, Yjl, Yj5, Yjv, YjC, YjW, Yki, YjS, Yj7, Yju, Yis, YdR, Ygb, WA, YkN, Ykb, YjB, YkU, YfF, Yhf, x_eC, VZ, YdD, YgQ, Yg4, JB, Yjg, Vp, YiX, YgF, Z4, Wb, Ybw, Jw, Yji, YiR, Yfo, Yh7, Yg5, x_eB, YhI, Ydj, x_eM, Yky, YhQ, Yip, WO, Z2, Yht, Yir, YbR, YhM, Wz, YdE, Ykd, Yho, Ycf, YfJ, YiK, YfP, YiT, Yjd, Yff, Yew, YgG, Ygh, Ybn, Yj4, Yi7, Yh5, Ykn, JD, Yka, YfH, YfB, Mi.R.bind_ok, Mi.R.bind_exc, Mi.R.bind_bad, Mi.RS.ofE_ok, Mi.RS.ofE_exc, Mi.RS.ofE_bad, Mi.RS.seq_nx, Mi.RS.seq_rt, Mi.RS.seq_bk, Mi.RS.seq_ct, Mi.RS.seq_exc, Mi.RS.seq_bad, YcD, YfT, List.map_cons, List.map_nil, List.length_cons, List.length_nil, List.cons_append, List.nil_append, List.append_nil, List.replicate_succ, List.replicate_zero, List.getElem?_cons_zero, List.getElem?_cons_succ, List.set_cons_zero, List.set_cons_succ, Nat.reduceSub, Nat.reduceAdd, Nat.reduceLeDiff, Nat.reduceEqDiff, reduceIte, Bool.false_eq_true, Option.join_some, Option.join_none, Option.bind_some, Nat.zero_add, Nat.add_zero, Nat.sub_self, Option.map_some, Option.map_none, List.isEmpty_nil, List.isEmpty_cons, Bool.not_true, Bool.not_false, Nat.zero_le, Yi0, Bool.true_and, Bool.and_true])
variable {N : List Nat} {c : Nat} {cs : List Int} {i : Nat} {k : Nat} {kd : Nat} {kh : Nat} {kn : Nat} {kp : Nat} {kvs : List (Key × P)} {len : Nat -> Nat} {n : Nat} {ns : List Int} {q : Nat} {st : Ylo} {tl : Rho} {v0 : Option P} {v1 : Option P} {v2 : Option P} {v3 : Option P} {v4 : Option P} {v5 : Option P} {v6 : Option P} {v7 : Option P} {v8 : Option P} {ρ : Rho}
inductive Mk where
 | sg (c : Nat) | pl (u k : Nat)
 deriving DecidableEq
def Mk.isS : Mk -> Bool
 | .sg _ => true
 | .pl _ _ => false
abbrev Rp := Mk -> Mk
def YmE (r : Rp) (a b : Mk) : Option Rp :=
 if r a = r b then some r
 else if (r a).isS = false then some fun x => if r x = r a then r b else r x
 else if (r b).isS = false then some fun x => if r x = r b then r a else r x
 else none
def Yl6 (r : Rp) : List (Mk × Mk) -> Option Rp
 | [] => some r
 | p :: ps => match YmE r p.1 p.2 with
  | some r' => Yl6 r' ps
  | none => none
structure Con (f : Rp) (ps : List (Mk × Mk)) : Prop where
 sg : ∀ c, f (.sg c) = .sg c
 eq : ∀ p ∈ ps, f p.1 = f p.2
def Uni (r : Rp) (ps : List (Mk × Mk)) : Prop := ∀ f, Con f ps -> ∀ x, f (r x) = f x
structure Gd (r : Rp) : Prop where
 sg : ∀ c, r (.sg c) = .sg c
 id : ∀ x, r (r x) = r x
theorem isS_iff {m : Mk} : m.isS = true ↔ ∃ c, m = .sg c := by
 cases m with
 | sg c => exact ⟨fun _ => ⟨c, rfl⟩, fun _ => rfl⟩
 | pl u k => exact ⟨fun h => (by cases h), fun ⟨c, e⟩ => (by cases e)⟩
theorem Yco {r r' : Rp} {a b : Mk} (g : Gd r) (h : YmE r a b = some r') :
 Gd r' /\ r' a = r' b /\ (∀ x y, r x = r y -> r' x = r' y) /\ ∀ f : Rp, f a = f b -> (∀ x, f (r x) = f x) -> ∀ x, f (r' x) = f x := by
 unfold YmE at h
 by_cases h1 : r a = r b
 ·rw [ZAF h1] at h; cases h
  exact ⟨g, h1, fun _ _ e => e, fun f _ e => e⟩
 ·rw [ZAE h1] at h
  by_cases h2 : (r a).isS = false
  ·rw [ZAF h2] at h; cases h
   refine ⟨⟨fun c => ?_, fun x => ?_⟩, ?_, fun x y e => ?_, fun f e1 e2 x => ?_⟩
   ·show (if r (.sg c) = r a then r b else r (.sg c)) = .sg c
    rw [g.sg, ZAE]
    intro z
    rw [<- z] at h2; cases h2
   ·show (if r (if r x = r a then r b else r x) = r a then r b else r (if r x = r a then r b else r x)) = if r x = r a then r b else r x
    by_cases hx : r x = r a
    ·rw [ZAF hx, g.id, ZAE (ZAs h1)]
    ·rw [ZAE hx, g.id, ZAE hx]
   ·show (if r a = r a then r b else r a) = if r b = r a then r b else r b
    rw [ZAF rfl, ZAE (ZAs h1)]
   ·show (if r x = r a then r b else r x) = if r y = r a then r b else r y
    rw [e]
   ·show f (if r x = r a then r b else r x) = f x
    by_cases hx : r x = r a
    ·rw [ZAF hx, e2, <- e1, <- e2 a, <- hx, e2]
    ·rw [ZAE hx, e2]
  ·rw [ZAE h2] at h
   by_cases h3 : (r b).isS = false
   ·rw [ZAF h3] at h; cases h
    refine ⟨⟨fun c => ?_, fun x => ?_⟩, ?_, fun x y e => ?_, fun f e1 e2 x => ?_⟩
    ·show (if r (.sg c) = r b then r a else r (.sg c)) = .sg c
     rw [g.sg, ZAE]
     intro z
     rw [<- z] at h3; cases h3
    ·show (if r (if r x = r b then r a else r x) = r b then r a else r (if r x = r b then r a else r x)) = if r x = r b then r a else r x
     by_cases hx : r x = r b
     ·rw [ZAF hx, g.id, ZAE h1]
     ·rw [ZAE hx, g.id, ZAE hx]
    ·show (if r a = r b then r a else r a) = if r b = r b then r a else r b
     rw [ZAF rfl, ZAE h1]
    ·show (if r x = r b then r a else r x) = if r y = r b then r a else r y
     rw [e]
    ·show f (if r x = r b then r a else r x) = f x
     by_cases hx : r x = r b
     ·rw [ZAF hx, e2, e1, <- e2 b, <- hx, e2]
     ·rw [ZAE hx, e2]
   ·rw [ZAE h3] at h; cases h
theorem YfM {r : Rp} {a b : Mk} (h : YmE r a b = none) : ∃ c d, c ≠ d /\ r a = .sg c /\ r b = .sg d := by
 unfold YmE at h
 by_cases h1 : r a = r b
 ·rw [ZAF h1] at h; cases h
 ·rw [ZAE h1] at h
  by_cases h2 : (r a).isS = false
  ·rw [ZAF h2] at h; cases h
  ·rw [ZAE h2] at h
   by_cases h3 : (r b).isS = false
   ·rw [ZAF h3] at h; cases h
   ·obtain ⟨c, hc⟩ := isS_iff.mp (by simpa using h2 : (r a).isS = true)
    obtain ⟨d, hd⟩ := isS_iff.mp (by simpa using h3 : (r b).isS = true)
    exact ⟨c, d, fun z => h1 (by rw [hc, hd, z]), hc, hd⟩
theorem Con.mono {f : Rp} {ps qs : List (Mk × Mk)} (h : Con f qs) (s : ∀ p ∈ ps, p ∈ qs) : Con f ps := ⟨h.sg, fun p hp => h.eq p (s p hp)⟩
theorem JF : ∀ (ps : List (Mk × Mk)) {qs : List (Mk × Mk)} {r r' : Rp}, Gd r -> Con r qs -> Uni r qs -> Yl6 r ps = some r' -> Gd r' /\ Con r' (qs ++ ps) /\ Uni r' (qs ++ ps)
 | [], qs, r, r', g, c, u, h => by
  cases h
  rw [ZBu]
  exact ⟨g, c, u⟩
 | p :: ps, qs, r, r', g, c, u, h => by
  unfold Yl6 at h
  cases e : YmE r p.1 p.2 with
  | none => rw [e] at h; cases h
  | some r1 =>
   rw [e] at h
   obtain ⟨g1, g2, g3, g4⟩ := Yco g e
   have c1 : Con r1 (qs ++ [p]) := ⟨g1.sg, fun q hq => by
    rcases ZAh.mp hq with z | z
    ·exact g3 _ _ (c.eq q z)
    ·rw [ZAd.mp z]; exact g2⟩
   have u1 : Uni r1 (qs ++ [p]) := fun f cf => g4 f (cf.eq p (by simp)) (u f (cf.mono fun q hq => List.mem_append_left _ hq))
   have := JF ps g1 c1 u1 h
   rw [ZBB] at this
   exact this
theorem Ycp : ∀ (ps : List (Mk × Mk)) {qs : List (Mk × Mk)} {r : Rp}, Gd r -> Con r qs -> Uni r qs -> Yl6 r ps = none -> ∀ f, ¬ Con f (qs ++ ps)
 | [], qs, r, g, c, u, h => by cases h
 | p :: ps, qs, r, g, c, u, h => fun f cf => by
  unfold Yl6 at h
  have uf := u f (cf.mono fun q hq => ZBH _ hq)
  cases e : YmE r p.1 p.2 with
  | none =>
   obtain ⟨a, b, hab, ha, hb⟩ := YfM e
   have e1 := uf p.1
   have e2 := uf p.2
   rw [ha, cf.sg] at e1
   rw [hb, cf.sg] at e2
   have e3 := cf.eq p (by simp)
   rw [<- e1, <- e2] at e3
   cases e3
   exact hab rfl
  | some r1 =>
   rw [e] at h
   obtain ⟨g1, g2, g3, g4⟩ := Yco g e
   have c1 : Con r1 (qs ++ [p]) := ⟨g1.sg, fun q hq => by
    rcases ZAh.mp hq with z | z
    ·exact g3 _ _ (c.eq q z)
    ·rw [ZAd.mp z]; exact g2⟩
   have u1 : Uni r1 (qs ++ [p]) := fun f cf => g4 f (cf.eq p (by simp)) (u f (cf.mono fun q hq => List.mem_append_left _ hq))
   exact Ycp ps g1 c1 u1 h f (by rw [ZBB]; exact cf)
theorem YfQ : Gd (fun x => x) := ⟨fun _ => rfl, fun _ => rfl⟩
theorem Ydz : Con (fun x => x) [] := ⟨fun _ => rfl, fun p h => (by cases h)⟩
theorem Yc8 : Uni (fun x => x) [] := fun f _ x => rfl
theorem WU : ∀ (ps qs : List (Mk × Mk)) (r : Rp), Yl6 r (ps ++ qs) = (Yl6 r ps).bind fun r' => Yl6 r' qs
 | [], qs, r => rfl
 | p :: ps, qs, r => by
  show (match YmE r p.1 p.2 with | some r' => Yl6 r' (ps ++ qs) | none => none) = (match YmE r p.1 p.2 with | some r' => Yl6 r' ps | none => none).bind fun r' => Yl6 r' qs
  cases YmE r p.1 p.2 with
  | none => rfl
  | some r1 => exact WU ps qs r1
theorem Yfu {r l : Rp} {ps : List (Mk × Mk)} (ur : Uni r ps) (cl : Con l ps) (x : Mk) : l (r x) = l x := ur l cl x
theorem Yio {r l : Rp} {ps : List (Mk × Mk)} (g : Gd r) (cr : Con r ps) (ul : Uni l ps) {x y : Mk} (h : l (r x) = l (r y)) : r x = r y := by
 have e1 := ul r cr (r x)
 have e2 := ul r cr (r y)
 rw [h, e2, g.id, g.id] at e1
 exact e1.symm
theorem YiF {r l : Rp} {ps : List (Mk × Mk)} (g : Gd r) (cr : Con r ps) (cl : Con l ps) (ul : Uni l ps) (x : Mk) : (l (r x)).isS = (r x).isS := by
 cases e : r x with
 | sg c => rw [cl.sg]
 | pl u k =>
  cases e2 : l (.pl u k) with
  | pl u' k' => rfl
  | sg c =>
   exfalso
   have e1 := ul r cr (r x)
   rw [g.id, e, e2, cr.sg] at e1
   cases e1
def fst1 (ds : List Mk) (x : Mk) : List Mk := if x.isS = true \/ x ∈ ds then ds else ds ++ [x]
def firsts (xs : List Mk) : List Mk := xs.foldl fst1 []
theorem Yct (xs : List Mk) (x : Mk) : firsts (xs ++ [x]) = fst1 (firsts xs) x := by unfold firsts; rw [List.foldl_append]; rfl
theorem Ycz {ds : List Mk} {x : Mk} (h : x.isS = false) : x ∈ fst1 ds x := by
 unfold fst1
 by_cases z : x ∈ ds
 ·rw [ZAF (.inr z)]; exact z
 ·rw [ZAE (fun q => q.elim (fun a => by rw [h] at a; cases a) z)]
  simp
theorem Ycj {ds : List Mk} {x : Mk} : ∃ e, fst1 ds x = ds ++ e := by
 unfold fst1
 split
 ·exact ⟨[], by simp⟩
 ·exact ⟨[x], rfl⟩
theorem Yb5 {ds : List Mk} {x y : Mk} (h : y ∈ fst1 ds x) : y ∈ ds \/ y = x := by
 unfold fst1 at h
 split at h
 ·exact .inl h
 ·rcases ZAh.mp h with z | z
  ·exact .inl z
  ·exact .inr (ZAd.mp z)
theorem YcF {l : Rp} {S : Mk -> Prop} (hi : ∀ a b, S a -> S b -> l a = l b -> a = b) (hs : ∀ a, S a -> (l a).isS = a.isS) : ∀ (xs ds : List Mk), (∀ a ∈ xs, S a) -> (∀ a ∈ ds, S a) -> (xs.map l).foldl fst1 (ds.map l) = (xs.foldl fst1 ds).map l
 | [], ds, _, _ => rfl
 | x :: xs, ds, hx, hd => by
  have hxS := hx x (ZAM ..)
  have e : fst1 (ds.map l) (l x) = (fst1 ds x).map l := by
   have em : l x ∈ ds.map l ↔ x ∈ ds := by
    rw [ZAY]
    constructor
    ·rintro ⟨y, hy, e⟩
     rw [<- hi y x (hd y hy) hxS e]; exact hy
    ·intro h; exact ⟨x, h, rfl⟩
   unfold fst1
   by_cases c : x.isS = true \/ x ∈ ds
   ·rw [ZAF c, ZAF (c.imp (fun z => by rw [hs x hxS]; exact z) em.mpr)]
   ·rw [ZAE c, ZAE (fun z => c (z.imp (fun z => by rw [<- hs x hxS]; exact z) em.mp)), ZAU]
    rfl
  rw [ZAX, ZAr, ZAr, e]
  refine YcF hi hs xs (fst1 ds x) (fun a ha => hx a (ZAQ _ ha)) fun a ha => ?_
  rcases Yb5 ha with z | z
  ·exact hd a z
  ·rw [z]; exact hxS
theorem YdJ {l : Rp} {S : Mk -> Prop} (hi : ∀ a b, S a -> S b -> l a = l b -> a = b) : ∀ {ds : List Mk} {x : Mk}, (∀ a ∈ ds, S a) -> S x -> (ds.map l).idxOf (l x) = ds.idxOf x
 | [], x, _, _ => rfl
 | d :: ds, x, hd, hx => by
  rw [ZAX, ZBx, ZBx]
  have ih := YdJ hi (ds := ds) (x := x) (fun a ha => hd a (ZAQ _ ha)) hx
  by_cases e : d = x
  ·subst e; simp
  ·have e2 : ¬ l d = l x := fun z => e (hi d x (hd d (ZAM ..)) hx z)
   rw [show (l d == l x) = false from beq_eq_false_iff_ne.mpr e2, show (d == x) = false from beq_eq_false_iff_ne.mpr e, ih]
def Yly : Mk -> P
 | .sg c => tx [c]
 | .pl u k => .tup [tx [u], .int k]
def kM : Mk -> List Key
 | .sg _ => []
 | .pl u k => [Sum.inr (sT [u]), Sum.inl (k : Int)]
theorem Ydh {a b : Mk} (ha : a.isS = false) (hb : b.isS = false) (h : kM a = kM b) : a = b := by
 cases a with
 | sg c => cases ha
 | pl u k =>
  cases b with
  | sg c => cases hb
  | pl v j =>
   unfold kM at h
   injection h with h1 h2
   injection h2 with h2 _
   injection h1 with h1
   injection h2 with h2
   have : [u] = [v] := sT_inj.mp h1
   cases this
   have : k = j := by omega
   show 164
theorem YgS {a b : Mk} (h : Yly a = Yly b) : a = b := by
 cases a with
 | sg c =>
  cases b with
  | sg d =>
   have h' : tx [c] = tx [d] := h
   unfold tx at h'
   injection h' with h'
   have : [c] = [d] := sT_inj.mp h'
   cases this; rfl
  | pl v j => unfold Yly tx at h; cases h
 | pl u k =>
  cases b with
  | sg d => unfold Yly tx at h; cases h
  | pl v j =>
   have h' : P.tup [tx [u], .int k] = P.tup [tx [v], .int j] := h
   injection h' with h'
   injection h' with h1 h2
   unfold tx at h1
   injection h1 with h1
   injection h2 with h2 _
   injection h2 with h2
   have : [u] = [v] := sT_inj.mp h1
   cases this
   have : k = j := by omega
   show 164
theorem YaV (a : Mk) : YlW 8 (Yly a) = true := by cases a <;> rfl
theorem YkC {a b : Mk} : eqP (Yly a) (Yly b) st = some (.bl (decide (a = b)), st) := by
 obtain ⟨c, e, h⟩ := YaS (st := st) (YaV a) (YaV b)
 rw [e]
 by_cases z : a = b
 ·subst z; rw [h.mpr rfl, ZAa rfl]
 ·rw [ZAS z]
  cases c with
  | false => rfl
  | true => exact absurd (YgS (h.mp rfl)) z
theorem Yc5 {a : Mk} (h : ρ[i]? = some (some (Yly a))) : YlY "str" (Yll i) ρ st = .ok (.bl a.isS) st := by
 have e : Yll i ρ st = .ok (Yly a) st := by unfold Yll; rw [h]
 rw [Ydj, e]
 cases a <;> rfl
def look (hs : List (Mk × Mk)) (x : Mk) : Option Mk := (hs.find? fun p => decide (p.1 = x)).map (·.2)
def YlS (hs : List (Mk × Mk)) : List (List Key × P) := hs.map fun p => (kM p.1, Yly p.2)
theorem Ya3 {hs : List (Mk × Mk)} (hk : ∀ p ∈ hs, p.1.isS = false) : look hs (.sg c) = none := by
 unfold look
 rw [ZBf, ZBc]
 intro p hp
 simp
 intro e
 have := hk p hp
 rw [e] at this; cases this
theorem Yao : ∀ {hs : List (Mk × Mk)} {x : Mk}, (∀ p ∈ hs, p.1.isS = false) -> x.isS = false -> YlL (YlS hs) (kM x) = (look hs x).map Yly
 | [], x, _, _ => rfl
 | p :: hs, x, hk, hx => by
  have ih := Yao (hs := hs) (x := x) (fun q hq => hk q (ZAQ _ hq)) hx
  unfold YlL YlS look at ih ⊢
  rw [ZAX, ZBb, ZBb]
  by_cases e : p.1 = x
  ·subst e; simp
  ·have e2 : ¬ kM p.1 = kM x := fun z => e (Ydh (hk p (ZAM ..)) hx z)
   simp only [e, e2, decide_false]
   exact ih
theorem Yim {u : Nat} : Ymu (Yly (.pl u k)) = some (kM (.pl u k)) := rfl
section
variable {hs : List (Mk × Mk)}
theorem YiW {x : Mk} (h : st[k]? = some (.dtt (YlS hs))) (hk : ∀ p ∈ hs, p.1.isS = false) : YnO (Yly x) (.ref k) st = some (.bl (look hs x).isSome, st) := by
 have e : YlT (.ref k) st = some (YlS hs) := by unfold YlT; simp only [h]
 unfold YnO
 rw [e]
 cases x with
 | sg c =>
  rw [Ya3 hk]
  rfl
 | pl u j =>
  have : Yox (Yly (.pl u j)) = false := rfl
  rw [this, if_neg (by simp)]
  unfold YoA
  rw [e]
  show okP (.bl (YlL (YlS hs) (kM (.pl u j))).isSome) st = _
  rw [Yao hk rfl, ZB0]
  rfl
theorem YkJ {x y : Mk} (h : st[k]? = some (.dtt (YlS hs))) (hk : ∀ p ∈ hs, p.1.isS = false) (hl : look hs x = some y) : YnE (.ref k) (Yly x) st = some (Yly y, st) := by
 have e : YlT (.ref k) st = some (YlS hs) := by unfold YlT; simp only [h]
 cases x with
 | sg c => rw [Ya3 hk] at hl; cases hl
 | pl u j =>
  unfold YnE
  rw [e]
  show (YlL (YlS hs) (kM (.pl u j))).map (fun p => (p, st)) = _
  rw [Yao hk rfl, hl]
  rfl
end
inductive Chain (hs : List (Mk × Mk)) : Nat -> Mk -> Mk -> Prop where
 | stop {x : Mk} : look hs x = none -> Chain hs 0 x x
 | go {n : Nat} {x y z : Mk} : look hs x = some y -> Chain hs n y z -> Chain hs (n + 1) x z
theorem Chain.last {hs : List (Mk × Mk)} {x z : Mk} (h : Chain hs n x z) : look hs z = none := by
 induction h with
 | stop h => exact h
 | go _ _ ih => exact ih
structure HD (hs : List (Mk × Mk)) (r : Rp) : Prop where
 pl : ∀ p ∈ hs, p.1.isS = false
 ch : ∀ x, ∃ n, n <= hs.length /\ Chain hs n x (r x)
theorem HD.nil : HD [] (fun x => x) := ⟨fun p h => (by cases h), fun x => ⟨0, ZAI _, .stop rfl⟩⟩
theorem HD.root {hs : List (Mk × Mk)} {r : Rp} (h : HD hs r) (x : Mk) : look hs (r x) = none := let ⟨_, _, c⟩ := h.ch x; c.last
theorem WR {hs : List (Mk × Mk)} {a b x : Mk} : look (hs ++ [(a, b)]) x = match look hs x with | some y => some y | none => if a = x then some b else none := by
 unfold look
 rw [List.find?_append]
 cases e : hs.find? fun p => decide (p.1 = x) with
 | some q => rfl
 | none =>
  simp only [Option.none_or, Option.map_none]
  rw [ZBb]
  by_cases h : a = x
  ·simp [h]
  ·simp [h]
theorem Ydq {hs : List (Mk × Mk)} {a b : Mk} (ha : look hs a = none) (hb : look hs b = none) (hab : a ≠ b) {x z : Mk} (h : Chain hs n x z) :
 (z ≠ a -> Chain (hs ++ [(a, b)]) n x z) /\ (z = a -> Chain (hs ++ [(a, b)]) (n + 1) x b) := by
 induction h with
 | @stop x h =>
  refine ⟨fun z => .stop ?_, fun z => ?_⟩
  ·rw [WR, h]; dsimp only; rw [if_neg (Ne.symm z)]
  ·subst z
   refine .go ?_ (.stop ?_)
   ·rw [WR, h]; dsimp only; rw [if_pos rfl]
   ·rw [WR, hb]; dsimp only; rw [if_neg hab]
 | @go n x y z h _ ih =>
  have e : look (hs ++ [(a, b)]) x = some y := by rw [WR, h]
  exact ⟨fun w => .go e (ih.1 w), fun w => .go e (ih.2 w)⟩
theorem HD.snoc {hs : List (Mk × Mk)} {r : Rp} (h : HD hs r) {a b : Mk} (ha : look hs a = none) (hb : look hs b = none) (hab : a ≠ b) (hs' : a.isS = false) : HD (hs ++ [(a, b)]) (fun x => if r x = a then b else r x) where
 pl := fun p hp => by
  rcases ZAh.mp hp with z | z
  ·exact h.pl p z
  ·rw [ZAd.mp z]; exact hs'
 ch := fun x => by
  obtain ⟨n, hn, c⟩ := h.ch x
  obtain ⟨c1, c2⟩ := Ydq ha hb hab c
  by_cases e : r x = a
  ·exact ⟨n + 1, by rw [ZAJ, ZAg]; omega, by rw [ZAF e]; exact c2 e⟩
  ·exact ⟨n, by rw [ZAJ, ZAg]; omega, by rw [ZAE e]; exact c1 e⟩
theorem Yig {hs : List (Mk × Mk)} {a b : Mk} (hk : ∀ p ∈ hs, p.1.isS = false) (ha : look hs a = none) (hs' : a.isS = false) : Ymp (YlS hs) (kM a) (Yly b) = YlS (hs ++ [(a, b)]) := by
 unfold Ymp
 have hn : ((YlS hs).any fun kv => decide (kv.1 = kM a)) = false := by
  rw [ZBh]
  intro q hq
  unfold YlS at hq
  obtain ⟨p, hp, rfl⟩ := ZAY.mp hq
  simp
  intro z
  have e := Ydh (hk p hp) hs' z
  unfold look at ha
  rw [ZBf, ZBc] at ha
  exact ha p hp (by simp [e])
 rw [ZAE (by rw [hn]; decide)]
 unfold YlS
 rw [ZAU]
 rfl
section
variable {hs : List (Mk × Mk)}
theorem Ye7 (h : st[k]? = some (.dtt (YlS hs))) (hk : ∀ p ∈ hs, p.1.isS = false) {x z : Mk} (c : Chain hs n x z) : ∀ f, n < f ->
 Yl7 (Yl0 (Ylq YnO (Yll 2) (Yll 0))) ZL f [some (.ref k), v1, some (Yly x)] st = .nx [some (.ref k), v1, some (Yly z)] st := by
 induction c with
 | @stop x hx =>
  intro f hf
  obtain ⟨g, rfl⟩ : ∃ g, f = g + 1 := ⟨f - 1, by omega⟩
  have e : Yl0 (Ylq YnO (Yll 2) (Yll 0)) [some (.ref k), v1, some (Yly x)] st = .ok false st := by
   k_in
   rw [YiW h hk, hx]
   rfl
  simp only [Yl7, e, RS.ofE_ok, Bool.false_eq_true, if_false]
 | @go n x y z hx _ ih =>
  intro f hf
  obtain ⟨g, rfl⟩ : ∃ g, f = g + 1 := ⟨f - 1, by omega⟩
  have e : Yl0 (Ylq YnO (Yll 2) (Yll 0)) [some (.ref k), v1, some (Yly x)] st = .ok true st := by
   k_in
   rw [YiW h hk, hx]
   rfl
  have e2 : ZL [some (.ref k), v1, some (Yly x)] st = .nx [some (.ref k), v1, some (Yly y)] st := by
   unfold ZL
   k_in
   rw [YkJ h hk hx]
   k_in
  simp only [Yl7, e, RS.ofE_ok, if_true, e2]
  exact ih g (by omega)
theorem Ybr {r : Rp} (h : st[k]? = some (.dtt (YlS hs))) (H : HD hs r) (hl : hs.length <= 1000) (x : Mk) : Y4 [.ref k, Yly x] st = .ok (Yly (r x)) st := by
 obtain ⟨n, hn, c⟩ := H.ch x
 unfold Y4 VM
 k_in
 rw [show YmZ (Yl0 (Ylq YnO (Yll 2) (Yll 0))) ZL [some (.ref k), some (Yly x), some (Yly x)] st = _ from Ye7 h H.pl c turns (by show n < 1000000; omega)]
 k_in
theorem YfY {a b : Mk} {j l : Nat} (h : st[k]? = some (.dtt (YlS hs))) (hk : ∀ p ∈ hs, p.1.isS = false) (ha : look hs a = none) (hs' : a.isS = false) (hl : hs.length <= 1000) (h1 : ρ[i]? = some (some (.ref k))) (h2 : ρ[j]? = some (some (Yly a))) (h3 : ρ[l]? = some (some (Yly b))) :
 YmD (Yll i) (Yll j) (Yll l) ρ st = .nx ρ (st.set k (.dtt (YlS (hs ++ [(a, b)])))) := by
 have e1 : Yll i ρ st = .ok (.ref k) st := by unfold Yll; rw [h1]
 have e2 : Yll j ρ st = .ok (Yly a) st := by unfold Yll; rw [h2]
 have e3 : Yll l ρ st = .ok (Yly b) st := by unfold Yll; rw [h3]
 have e : YlT (.ref k) st = some (YlS hs) := by unfold YlT; simp only [h]
 unfold YmD
 rw [e3, RS.ofE_ok, e1, RS.ofE_ok, e2, RS.ofE_ok]
 rw [e]
 cases a with
 | sg c => cases hs'
 | pl u j =>
  rw [Yim]
  show (if (YlS hs).length < cap then RS.nx ρ (st.set k (.dtt (Ymp (YlS hs) (kM (.pl u j)) (Yly b)))) else .bad) = _
  rw [if_pos (by show _ < 1000000; unfold YlS; rw [List.length_map]; omega), Yig hk ha hs']
theorem tie {r : Rp} {a b : Mk} (h : st[k]? = some (.dtt (YlS hs))) (H : HD hs r) (hl : hs.length <= 1000) :
 (∀ r', YmE r a b = some r' -> ∃ hs', Jg [.ref k, Yly a, Yly b] st = .ok (.bl true) (st.set k (.dtt (YlS hs'))) /\ HD hs' r' /\ hs'.length <= hs.length + 1) /\
 (YmE r a b = none -> Jg [.ref k, Yly a, Yly b] st = .ok (.bl false) st) := by
 have hset : st.set k (.dtt (YlS hs)) = st := by
  obtain ⟨h1, h2⟩ := ZAB.mp h
  rw [<- h2, ZBQ]
 have base : Jg [.ref k, Yly a, Yly b] st = Yn8 (Ylt (sIf (Yl0 (Ylq eqP (Yll 3) (Yll 4))) (sRet (eC (.bl true))) Yl8)
  (Ylt (sIf (Yme (YlQ (YlY "str" (Yll 3)))) (YmD (Yll 0) (Yll 3) (Yll 4)) (sIf (Yme (YlQ (YlY "str" (Yll 4)))) (YmD (Yll 0) (Yll 4) (Yll 3)) (sRet (eC (.bl false))))) (sRet (eC (.bl true))))
  [some (.ref k), some (Yly a), some (Yly b), some (Yly (r a)), some (Yly (r b))] st) := by
  unfold Jg Yge
  generalize (Ylt (sIf (Yl0 (Ylq eqP (Yll 3) (Yll 4))) (sRet (eC (.bl true))) Yl8)
   (Ylt (sIf (Yme (YlQ (YlY "str" (Yll 3)))) (YmD (Yll 0) (Yll 3) (Yll 4)) (sIf (Yme (YlQ (YlY "str" (Yll 4)))) (YmD (Yll 0) (Yll 4) (Yll 3)) (sRet (eC (.bl false))))) (sRet (eC (.bl true))))) = T
  k_in
  rw [Ybr h H hl]
  k_in
  rw [Ybr h H hl]
  k_in
 generalize hρ : [some (P.ref k), some (Yly a), some (Yly b), some (Yly (r a)), some (Yly (r b))] = ρ at base
 have c1 : Yl0 (Ylq eqP (Yll 3) (Yll 4)) ρ st = .ok (decide (r a = r b)) st := by
  rw [<- hρ]
  k_in
  rw [YkC]
  rfl
 have c2 : Yme (YlQ (YlY "str" (Yll 3))) ρ st = .ok (!(r a).isS) st := by
  rw [Vp, Z4, Yc5 (a := r a) (by rw [<- hρ]; rfl)]
  rfl
 have c3 : Yme (YlQ (YlY "str" (Yll 4))) ρ st = .ok (!(r b).isS) st := by
  rw [Vp, Z4, Yc5 (a := r b) (by rw [<- hρ]; rfl)]
  rfl
 unfold YmE
 rw [base]
 rw [Z2, Wz, c1, RS.ofE_ok]
 by_cases z1 : r a = r b
 ·rw [ZAF z1, ZAa z1, ZAF rfl]
  refine ⟨fun r' e => ?_, fun e => (by cases e)⟩
  cases e
  exact ⟨hs, by rw [hset]; rfl, H, by omega⟩
 ·rw [ZAE z1, ZAS z1, ZAE ZAO, WO, RS.seq_nx, Z2, Wz, c2, RS.ofE_ok]
  by_cases z2 : (r a).isS = false
  ·rw [ZAF z2, z2, ZBU, ZAF rfl]
   rw [YfY (a := r a) (b := r b) h H.pl (H.root a) z2 hl (by rw [<- hρ]; rfl) (by rw [<- hρ]; rfl) (by rw [<- hρ]; rfl), RS.seq_nx]
   refine ⟨fun r' e => ?_, fun e => (by cases e)⟩
   cases e
   exact ⟨hs ++ [(r a, r b)], rfl, H.snoc (H.root a) (H.root b) z1 z2, by rw [ZAJ, ZAg]; omega⟩
  ·have z2' : (r a).isS = true := by simpa using z2
   rw [ZAE z2, z2', ZBa, ZAE ZAO, Wz, c3, RS.ofE_ok]
   by_cases z3 : (r b).isS = false
   ·rw [ZAF z3, z3, ZBU, ZAF rfl]
    rw [YfY (a := r b) (b := r a) h H.pl (H.root b) z3 hl (by rw [<- hρ]; rfl) (by rw [<- hρ]; rfl) (by rw [<- hρ]; rfl), RS.seq_nx]
    refine ⟨fun r' e => ?_, fun e => (by cases e)⟩
    cases e
    exact ⟨hs ++ [(r b, r a)], rfl, H.snoc (H.root b) (H.root a) (ZAs z1) z3, by rw [ZAJ, ZAg]; omega⟩
   ·have z3' : (r b).isS = true := by simpa using z3
    rw [ZAE z3, z3', ZBa, ZAE ZAO]
    exact ⟨fun r' e => (by cases e), fun _ => rfl⟩
end
theorem s_a : ("a" : Str) = sT [97] := by decide +kernel
theorem s_z : ("z" : Str) = sT [122] := by decide +kernel
theorem s_A : ("A" : Str) = sT [65] := by decide +kernel
theorem s_Z : ("Z" : Str) = sT [90] := by decide +kernel
theorem YhJ : ZI [tx [c]] st = .ok (.bl (YlE c)) st := by
 unfold ZI V0 tx
 try k_in
 rw [s_a, s_z]
 simp only [VT]
 unfold YlE
 by_cases h : 97 <= c
 ·have e : decide (c < 97) = false := ZAS (by omega)
  rw [e, ZAa h]
  try k_in
  by_cases h2 : c <= 122
  ·rw [ZAS (by omega : ¬ 122 < c), ZAa h2]; rfl
  ·rw [ZAa (by omega : 122 < c), ZAS h2]; rfl
 ·have e : decide (c < 97) = true := ZAa (by omega)
  rw [e, ZAS h]
  rfl
theorem Ydr : Y2 [tx [c]] st = .ok (.bl (isUp c)) st := by
 unfold Y2 Wq tx
 try k_in
 rw [s_A, s_Z]
 simp only [VT]
 unfold isUp
 by_cases h : 65 <= c
 ·have e : decide (c < 65) = false := ZAS (by omega)
  rw [e, ZAa h]
  try k_in
  by_cases h2 : c <= 90
  ·rw [ZAS (by omega : ¬ 90 < c), ZAa h2]; rfl
  ·rw [ZAa (by omega : 90 < c), ZAS h2]; rfl
 ·have e : decide (c < 65) = true := ZAa (by omega)
  rw [e, ZAS h]
  rfl
def mark (len : Nat -> Nat) (c : Nat) : List Mk := if YlE c = true then [.sg c] else (List.range (len c)).map (.pl c)
def marks (len : Nat -> Nat) (side : List Nat) : List Mk := side.flatMap (mark len)
def Ymj (N : List Nat) (len : Nat -> Nat) : List (Key × P) := N.map fun u => (tkey [u], .int (len u : Nat))
theorem tkey1 {a b : Nat} (h : tkey [a] = tkey [b]) : a = b := by
 have : [a] = [b] := sT_inj.mp (Sum.inr.inj h)
 cases this; rfl
theorem YhT (h : c ∈ N) : YlL (Ymj N len) (tkey [c]) = some (.int (len c : Nat)) := by
 unfold YlL Ymj
 induction N with
 | nil => cases h
 | cons u U ih =>
  by_cases e : u = c
  ·subst e; simp
  ·have hc : c ∈ U := by
    rcases ZAc.mp h with z | z
    ·exact absurd z.symm e
    ·exact z
   rw [List.map_cons, List.find?_cons_of_neg (by simp; intro z; exact e (tkey1 z))]
   exact ih hc
def LD (st : Ylo) (k : Nat) (kvs : List (Key × P)) : Prop := st[k]? = some (.dct kvs) \/ st[k]? = some (.fdc kvs)
theorem LD.grow {a b : Ylo} (g : Ylx a b) (h : LD a k kvs) : LD b k kvs := h.imp g.get g.get
theorem YkT {l : List Nat} {v : P} (h : LD st k kvs) (hv : YlL kvs (tkey l) = some v) : Yoo (.ref k) (tx l) st = some (v, st) := by
 unfold Yoo
 show 226
 ·have e : Yne (.ref k) st = false := by unfold Yne; simp only [h]
  rw [e, ZAE ZAO]
  show (match st[k]? with
   | some (.lst xs) => ixI xs (tx l) st
   | some (.ro xs) => ixI xs (tx l) st
   | some (.dct kvs) => (match Ymt (tx l) with
    | some k => (YlL kvs k).map fun p => (p, st)
    | none => none)
   | _ => none) = _
  rw [h]
  show (YlL kvs (tkey l)).map (fun p => (p, st)) = _
  rw [hv]; rfl
 ·have e : Yne (.ref k) st = true := by unfold Yne; simp only [h]
  rw [e, ZAF rfl]
  show (match st[k]? with | some (.fdc kvs) => (match Ymt (tx l) with | some key => (YlL kvs key).map fun p => (p, st) | none => none) | _ => none) = _
  rw [h]
  show (YlL kvs (tkey l)).map (fun p => (p, st)) = _
  rw [hv]; rfl
theorem YdY (hl : ∀ u, len u <= 20) : (mark len c).length <= 20 := by
 unfold mark
 split
 ·simp
 ·rw [ZAK, ZA4]; exact hl c
theorem ZA {len : Nat -> Nat} (hl : ∀ u, len u <= 20) : ∀ side : List Nat, (marks len side).length <= 20 * side.length
 | [] => by simp [marks]
 | c :: side => by
  have ih := ZA hl side
  have := YdY (c := c) hl
  unfold marks at ih ⊢
  rw [ZBk, ZAJ, ZA2]
  omega
theorem Ww {side : List Nat} (hi : i < side.length) : marks len (side.take (i + 1)) = marks len (side.take i) ++ mark len side[i] := by
 unfold marks
 rw [ZAW hi, ZBY]
 simp
theorem J5 {m : Nat} {xs ys : List P} (h : st[n]? = some (.lst xs)) (h2 : st[m]? = some (.lst ys)) (hn : n ≠ m) (hl : xs.length + ys.length <= 1000000) : YmG (.ref n) [.ref m] st = some (.non, st.set n (.lst (xs ++ ys))) := by
 have e1 : YlM st n = some xs := by unfold YlM; rw [h]
 have e2 : YlM st m = some ys := by unfold YlM; rw [h2]
 show (match YlM st n, YlM st m with | some xs, some ys => if xs.length + ys.length <= cap then some (P.non, st.set n (.lst (xs ++ ys))) else none | _, _ => none) = _
 rw [e1, e2]
 show (if xs.length + ys.length <= cap then some (P.non, st.set n (.lst (xs ++ ys))) else none) = _
 rw [ZAF (show _ <= cap from hl)]
theorem laid {side : List Nat} (hd : LD st kd (Ymj N len)) (hl : ∀ u, len u <= 20) (hs : side.length <= 100) (hN : ∀ c ∈ side, YlE c = false -> c ∈ N) :
 ∃ st', WQ [tx side, .ref kd] st = .ok (.ref st.length) st' /\ Ylx st st' /\ st'[st.length]? = some (.lst ((marks len side).map Yly)) := by
 unfold WQ Ydd
 try k_in
 obtain ⟨ρ', s', f1, v3, f2, f3, f4⟩ := YH (src := Yno (sT side)) (g := Ylp 3) (m := YbQ) (N := side.length) (ρ := [some (tx side), some (.ref kd), some (.ref st.length), none]) (st := st ++ [.lst []]) side (fun c => tx [c])
  (fun i ρ s => ∃ v3, ρ = [some (tx side), some (.ref kd), some (.ref st.length), v3] /\ Ylx st s /\ s[st.length]? = some (.lst ((marks len (side.take i)).map Yly))) rfl (fun i ρ s hi _ => nxS hi) ⟨none, rfl, Ylx.one, Yq⟩
  (fun i hi ρ s ⟨v3, q1, q2, q3⟩ => by
   show 20
   have hml : (marks len (side.take i)).length <= 2000 := ZAV (ZA hl _) (by rw [ZAm]; omega)
   unfold YbQ
   try k_in
   rw [YhJ]
   try k_in
   have hk : st.length < s.length := (ZAB.mp q3).1
   by_cases hc : YlE side[i] = true
   ·rw [hc]
    try k_in
    rw [Zb q3]
    try k_in
    rw [Zm q3 (by rw [ZAK]; omega)]
    try k_in
    refine ⟨_, _, rfl, _, rfl, Ylx.set q2 (ZAI _), ?_⟩
    rw [ZAR hk, Ww hi, ZAU]
    have : mark len side[i] = [.sg side[i]] := by unfold mark; rw [if_pos hc]
    show 53
   ·have hc' : YlE side[i] = false := by simpa using hc
    rw [hc']
    try k_in
    rw [Zb q3]
    try k_in
    rw [YkT (hd.grow q2) (YhT (hN _ (ZAb hi) hc'))]
    try k_in
    have h20 := hl side[i]
    rw [WA (by omega) (by omega)]
    try k_in
    rw [Int.toNat_natCast, Wi (List.range (len side[i])) (fun (k : Nat) => P.int (0 + k)) (fun (k : Nat) => Yly (.pl side[i] k)) (by simp) (fun i _ => nxR) (by simp; omega) (fun k hk => ⟨_, rfl, by
     try k_in
     rw [ZCe]
     rfl⟩)]
    try k_in
    rw [J5 (Ylx.one.get q3) Yq (by omega) (by simp only [List.length_map, List.length_range]; omega)]
    try k_in
    have hk2 : st.length < (s ++ [O.lst ((List.range (len side[i])).map fun k => Yly (.pl side[i] k))]).length := by rw [ZAJ]; omega
    refine ⟨_, _, rfl, _, rfl, Ylx.set (q2.trans Ylx.one) (ZAI _), ?_⟩
    rw [ZAR hk2, Ww hi, ZAU]
    have : mark len side[i] = (List.range (len side[i])).map (.pl side[i]) := by unfold mark; rw [if_neg hc]
    rw [this, ZA3]
    rfl)
 rw [f1, f2]
 try k_in
 rw [ZAo] at f4
 exact ⟨_, rfl, f3, f4⟩
theorem Yil {r : Rp} {p : Mk × Mk} : Yl6 r [p] = YmE r p.1 p.2 := by
 show (match YmE r p.1 p.2 with | some r' => some r' | none => none) = _
 cases YmE r p.1 p.2 <;> rfl
theorem Yhh {r : Rp} {ps : List (Mk × Mk)} (hi : i < ps.length) : Yl6 r (ps.take (i + 1)) = (Yl6 r (ps.take i)).bind fun r' => YmE r' ps[i].1 ps[i].2 := by
 rw [ZAW hi, WU]
 congr 1
 funext r'
 exact Yil
theorem Yck {a b : O} : (st.set k a).set k b = st.set k b := List.set_set ..
theorem Yem {k1 k2 : Nat} {hs : List (Mk × Mk)} {r : Rp} {xs ys : List Mk} (h : st[kh]? = some (.dtt (YlS hs))) (H : HD hs r) (h1 : st[k1]? = some (.lst (xs.map Yly))) (h2 : st[k2]? = some (.lst (ys.map Yly))) (hn1 : kh ≠ k1) (hn2 : kh ≠ k2) (hl : hs.length + xs.length <= 1000) :
 (xs.length ≠ ys.length -> YF [.ref kh, .ref k1, .ref k2] st = .ok (.bl false) st) /\
 (xs.length = ys.length -> ∀ r', Yl6 r (xs.zip ys) = some r' -> ∃ hs', YF [.ref kh, .ref k1, .ref k2] st = .ok (.bl true) (st.set kh (.dtt (YlS hs'))) /\ HD hs' r' /\ hs'.length <= hs.length + xs.length) /\
 (xs.length = ys.length -> Yl6 r (xs.zip ys) = none -> ∃ hs', YF [.ref kh, .ref k1, .ref k2] st = .ok (.bl false) (st.set kh (.dtt (YlS hs')))) := by
 have hk : kh < st.length := (ZAB.mp h).1
 unfold YF WG
 k_in
 rw [ZH h1]
 k_in
 rw [ZH h2]
 k_in
 simp only [List.length_map]
 by_cases e : xs.length = ys.length
 ·refine ⟨fun z => absurd e z, ?_⟩
  have hne : (!((xs.length : Nat) : Int) == ((ys.length : Nat) : Int)) = false := by rw [e]; simp
  first | rw [hne] | skip
  try k_in
  rw [Yf4 (Yg h1) (Yg h2)]
  try k_in
  rw [ZAK]
  have hz : (xs.zip ys).length = xs.length := by rw [ZCR, <- e, Nat.min_self]
  have key : ∀ R, R = Ymb (Ynk k1 k2 xs.length) (Yma 2 (YlD (Ylp 3) (YlD (Ylp 4) Ymg))) ZF xs.length 0 [some (.ref kh), some (.ref k1), some (.ref k2), none, none] st ->
   (∃ r' hs' v3 v4, Yl6 r (xs.zip ys) = some r' /\ R = .nx [some (.ref kh), some (.ref k1), some (.ref k2), v3, v4] (st.set kh (.dtt (YlS hs'))) /\ HD hs' r' /\ hs'.length <= hs.length + xs.length) \/ (Yl6 r (xs.zip ys) = none /\ ∃ hs', R = .rt (.bl false) (st.set kh (.dtt (YlS hs')))) := by
   intro R hR
   subst hR
   refine VE (src := Ynk k1 k2 xs.length) (g := Yma 2 (YlD (Ylp 3) (YlD (Ylp 4) Ymg))) (m := ZF) xs.length
    (fun i ρ s => ∃ r' hs' v3 v4, Yl6 r ((xs.zip ys).take i) = some r' /\ ρ = [some (.ref kh), some (.ref k1), some (.ref k2), v3, v4] /\ s = st.set kh (.dtt (YlS hs')) /\ HD hs' r' /\ hs'.length <= hs.length + i)
    (fun R => (∃ r' hs' v3 v4, Yl6 r (xs.zip ys) = some r' /\ R = .nx [some (.ref kh), some (.ref k1), some (.ref k2), v3, v4] (st.set kh (.dtt (YlS hs'))) /\ HD hs' r' /\ hs'.length <= hs.length + xs.length) \/ (Yl6 r (xs.zip ys) = none /\ ∃ hs', R = .rt (.bl false) (st.set kh (.dtt (YlS hs')))))
    (fun i ρ s hi ⟨r1, hs1, v3, v4, q1, q2, q3, q4, q5⟩ => ?_) (fun ρ s ⟨r1, hs1, v3, v4, q1, q2, q3, q4, q5⟩ => ?_) xs.length 0 _ _ (by omega) ⟨r, hs, none, none, rfl, rfl, ?_, H, by omega⟩
   ·subst q2; subst q3
    have hi2 : i < (xs.zip ys).length := by omega
    have hiy : i < ys.length := by omega
    have g1 : (st.set kh (.dtt (YlS hs1)))[k1]? = some (.lst (xs.map Yly)) := by rw [ZAL hn1]; exact h1
    have g2 : (st.set kh (.dtt (YlS hs1)))[k2]? = some (.lst (ys.map Yly)) := by rw [ZAL hn2]; exact h2
    have g0 : (st.set kh (.dtt (YlS hs1)))[kh]? = some (.dtt (YlS hs1)) := ZAR hk
    refine ⟨.tup [Yly xs[i], Yly ys[i]], _, ?_, rfl, ?_⟩
    ·rw [Ybm (Yg g1) (Yg g2)]
     unfold Yml
     rw [ZAZ, ZAZ, ZAT hi, ZAT hiy]
     rfl
    ·have hr := Yhh (r := r) hi2
     rw [q1] at hr
     have hz1 : (xs.zip ys)[i].1 = xs[i] := by simp
     have hz2 : (xs.zip ys)[i].2 = ys[i] := by simp
     have hr' : Yl6 r ((xs.zip ys).take (i + 1)) = YmE r1 xs[i] ys[i] := by rw [hr]; show YmE r1 (xs.zip ys)[i].1 (xs.zip ys)[i].2 = _; rw [hz1, hz2]
     obtain ⟨t1, t2⟩ := tie (a := xs[i]) (b := ys[i]) g0 q4 (by omega)
     unfold ZF
     k_in
     cases et : YmE r1 xs[i] ys[i] with
     | some r2 =>
      obtain ⟨hs2, u1, u2, u3⟩ := t1 r2 et
      rw [u1]
      k_in
      exact ⟨r2, hs2, some (Yly xs[i]), some (Yly ys[i]), by rw [hr', et], rfl, Yck, u2, by omega⟩
     | none =>
      rw [t2 et]
      k_in
      refine .inr ⟨?_, hs1, rfl⟩
      rw [<- ZA5 (i + 1) (xs.zip ys), WU, hr', et]
      rfl
   ·subst q2; subst q3
    have g1 : (st.set kh (.dtt (YlS hs1)))[k1]? = some (.lst (xs.map Yly)) := by rw [ZAL hn1]; exact h1
    have g2 : (st.set kh (.dtt (YlS hs1)))[k2]? = some (.lst (ys.map Yly)) := by rw [ZAL hn2]; exact h2
    refine ⟨?_, .inl ⟨r1, hs1, v3, v4, ?_, rfl, q4, q5⟩⟩
    ·rw [Ybm (Yg g1) (Yg g2)]
     unfold Yml
     rw [ZAZ, ZA1 (ZAI _)]
     rfl
    ·rw [ZBC (by omega)] at q1; exact q1
   ·obtain ⟨z1, z2⟩ := ZAB.mp h
    rw [<- z2, ZBQ]
  rcases key _ rfl with ⟨r', hs', v3, v4, w1, w2, w3, w4⟩ | ⟨w1, hs', w2⟩
  ·refine ⟨fun _ r2 e2 => ?_, fun _ e2 => (by rw [w1] at e2; cases e2)⟩
   rw [w1] at e2; cases e2
   refine ⟨hs', ?_, w3, w4⟩
   rw [w2]
   k_in
  ·refine ⟨fun _ r2 e2 => (by rw [w1] at e2; cases e2), fun _ _ => ⟨hs', ?_⟩⟩
   rw [w2]
   k_in
 ·have hne : (!((xs.length : Nat) : Int) == ((ys.length : Nat) : Int)) = true := by simp; omega
  refine ⟨fun _ => ?_, fun z => absurd z e, fun z => absurd z e⟩
  first | rw [hne] | skip
  try k_in
def Yl9 (ds : List Mk) : List (List Key × P) := ds.zipIdx.map fun p => (kM p.1, .int (p.2 : Nat))
def shw (ds : List Mk) (m : Mk) : P := if m.isS = true then Yly m else .int (ds.idxOf m : Nat)
theorem YbU {x : Mk} (hx : x.isS = false) : ∀ {ds : List Mk} {n : Nat}, (∀ d ∈ ds, d.isS = false) -> YlL ((ds.zipIdx n).map fun p => (kM p.1, P.int (p.2 : Nat))) (kM x) = if x ∈ ds then some (.int ((n + ds.idxOf x : Nat) : Int)) else none
 | [], n, _ => rfl
 | d :: ds, n, hd => by
  have ih := YbU hx (ds := ds) (n := n + 1) (fun a ha => hd a (ZAQ _ ha))
  rw [List.zipIdx_cons, ZAX]
  unfold YlL at ih ⊢
  rw [ZBb]
  by_cases e : d = x
  ·subst e
   simp
  ·have e2 : ¬ kM d = kM x := fun z => e (Ydh (hd d (ZAM ..)) hx z)
   have e3 : ¬ x = d := fun z => e z.symm
   simp only [e2, decide_false]
   rw [ih, ZBx, show (d == x) = false from beq_eq_false_iff_ne.mpr e]
   simp only [List.mem_cons, e3, false_or, cond_false]
   by_cases h : x ∈ ds
   ·rw [ZAF h, ZAF h]
    congr 2
    omega
   ·rw [ZAE h, ZAE h]
theorem YbP {x : Mk} {ds : List Mk} (hx : x.isS = false) (hd : ∀ d ∈ ds, d.isS = false) : YlL (Yl9 ds) (kM x) = if x ∈ ds then some (.int (ds.idxOf x : Nat)) else none := by
 have := YbU hx (ds := ds) (n := 0) hd
 rw [ZCd] at this
 exact this
theorem Yfj {ds : List Mk} {x : Mk} : Yl9 (ds ++ [x]) = Yl9 ds ++ [(kM x, .int (ds.length : Nat))] := by
 unfold Yl9
 rw [List.zipIdx_append, ZAU]
 simp
theorem Yhw {ds : List Mk} {x : Mk} (hx : x.isS = false) (hd : ∀ d ∈ ds, d.isS = false) (h : x ∉ ds) : Ymp (Yl9 ds) (kM x) (.int (ds.length : Nat)) = Yl9 (ds ++ [x]) := by
 have hv : YlL (Yl9 ds) (kM x) = none := by rw [YbP hx hd, ZAE h]
 unfold Ymp
 have hn : ((Yl9 ds).any fun kv => decide (kv.1 = kM x)) = false := by
  rw [ZBh]
  intro q hq z
  unfold YlL at hv
  rw [ZBf, ZBc] at hv
  exact hv q hq z
 rw [ZAE (by rw [hn]; decide), Yfj]
theorem YhC {ds : List Mk} {x : Mk} (hd : ∀ d ∈ ds, d.isS = false) : ∀ d ∈ fst1 ds x, d.isS = false := fun d h => by
 unfold fst1 at h
 split at h
 ·exact hd d h
 ·rename_i c
  rcases ZAh.mp h with z | z
  ·exact hd d z
  ·rw [ZAd.mp z]
   cases e : x.isS with
   | false => rfl
   | true => exact absurd (.inl e) c
theorem Yha {ds : List Mk} {x : Mk} : (fst1 ds x).length <= ds.length + 1 := by
 unfold fst1
 split
 ·omega
 ·rw [ZAJ, ZAg]; omega
section
variable {hs : List (Mk × Mk)} {r : Rp} {ds : List Mk}
theorem shown {x : Mk} (h : st[kh]? = some (.dtt (YlS hs))) (H : HD hs r) (hl : hs.length <= 1000) (hn : st[kn]? = some (.dtt (Yl9 ds))) (hd : ∀ d ∈ ds, d.isS = false) (hdl : ds.length <= 1000) :
 ZY [.ref kh, .ref kn, Yly x] st = .ok (shw (fst1 ds (r x)) (r x)) (st.set kn (.dtt (Yl9 (fst1 ds (r x))))) := by
 have hset : st.set kn (.dtt (Yl9 ds)) = st := by
  obtain ⟨h1, h2⟩ := ZAB.mp hn
  rw [<- h2, ZBQ]
 have hk : kn < st.length := (ZAB.mp hn).1
 have e : YlT (.ref kn) st = some (Yl9 ds) := by unfold YlT; simp only [hn]
 unfold ZY YbA
 generalize hT : (Ylt (sIf (YlQ (YlY "str" (Yll 3))) (sRet (Yll 3)) Yl8)
  (Ylt (sIf (Yl0 (Ylq YmO (Yll 3) (Yll 1))) (YmD (Yll 1) (Yll 3) (eB Ync (Ylm (Yll 1) Yls))) Yl8) (sRet (Ylq YnE (Yll 1) (Yll 3))))) = T
 k_in
 rw [Ybr h H hl]
 show 97
 have c1 : YlQ (YlY "str" (Yll 3)) [some (.ref kh), some (.ref kn), some (Yly x), some (Yly (r x))] st = .ok (r x).isS st := by
  rw [Z4, Yc5 (a := r x) rfl]
  rfl
 rw [Z2, Wz, c1, RS.ofE_ok]
 cases hx : (r x).isS with
 | true =>
  rw [ZAF rfl]
  have e1 : fst1 ds (r x) = ds := by unfold fst1; rw [if_pos (.inl hx)]
  rw [e1, hset]
  unfold shw
  rw [ZAF hx]
  k_in
 | false =>
  rw [ZAE ZAO, WO, RS.seq_nx]
  obtain ⟨u, j, hu⟩ : ∃ u j, r x = .pl u j := by cases e2 : r x with | sg c => rw [e2] at hx; cases hx | pl u j => exact ⟨u, j, rfl⟩
  have kk : Ymu (Yly (r x)) = some (kM (r x)) := by rw [hu]; rfl
  have c2 : Yl0 (Ylq YmO (Yll 3) (Yll 1)) [some (.ref kh), some (.ref kn), some (Yly x), some (Yly (r x))] st = .ok (!decide (r x ∈ ds)) st := by
   have : YmO (Yly (r x)) (.ref kn) st = some (.bl (!decide (r x ∈ ds)), st) := by
    unfold YmO
    rw [e]
    show 145
    rw [kk]
    show 145
    rw [YbP hx hd]
    by_cases z : r x ∈ ds
    ·rw [ZAF z, ZAa z]; rfl
    ·rw [ZAE z, ZAS z]; rfl
   k_in
   show 53
  have ix : ∀ {es : List Mk} {s : Ylo}, s[kn]? = some (.dtt (Yl9 es)) -> (∀ d ∈ es, d.isS = false) -> r x ∈ es -> YnE (.ref kn) (Yly (r x)) s = some (.int (es.idxOf (r x) : Nat), s) := fun {es s} g hes hm => by
   have e' : YlT (.ref kn) s = some (Yl9 es) := by unfold YlT; simp only [g]
   unfold YnE
   rw [e']
   show 145
   rw [kk]
   show 145
   rw [YbP hx hes, ZAF hm]
   rfl
  rw [Z2, Wz, c2, RS.ofE_ok]
  have eshw : shw (fst1 ds (r x)) (r x) = .int ((fst1 ds (r x)).idxOf (r x) : Nat) := by unfold shw; rw [if_neg (by rw [hx]; decide)]
  rw [eshw]
  by_cases z : r x ∈ ds
  ·have e1 : fst1 ds (r x) = ds := by unfold fst1; rw [if_pos (.inr z)]
   rw [ZAa z, ZBa, ZAE ZAO, WO, RS.seq_nx, e1, hset]
   k_in
   rw [ix hn hd z]
   k_in
  ·have e1 : fst1 ds (r x) = ds ++ [r x] := by unfold fst1; rw [if_neg (fun a => a.elim (fun a => by rw [hx] at a; cases a) z)]
   rw [ZAS z, ZBU, ZAF rfl]
   have pt : YmD (Yll 1) (Yll 3) (eB Ync (Ylm (Yll 1) Yls)) [some (.ref kh), some (.ref kn), some (Yly x), some (Yly (r x))] st = .nx [some (.ref kh), some (.ref kn), some (Yly x), some (Yly (r x))] (st.set kn (.dtt (Yl9 (ds ++ [r x])))) := by
    have el : eB Ync (Ylm (Yll 1) Yls) [some (.ref kh), some (.ref kn), some (Yly x), some (Yly (r x))] st = .ok (.int (ds.length : Nat)) st := by
     have : Ync [.ref kn] st = some (.int (ds.length : Nat), st) := by
      unfold Ync
      show 145
      rw [e]
      show some (P.int ((Yl9 ds).length : Nat), st) = _
      unfold Yl9
      rw [ZAK, List.length_zipIdx]
     k_in
     show 53
    unfold YmD
    rw [el, RS.ofE_ok]
    show (RS.ofE _ (R.ok (P.ref kn) st) fun o st2 => RS.ofE _ (R.ok (Yly (r x)) st2) fun i st3 => match o, YlT o st3, Ymu i with
     | .ref k, some kvs, some ks => if kvs.length < cap then RS.nx _ (st3.set k (.dtt (Ymp kvs ks (.int (ds.length : Nat))))) else .bad
     | _, _, _ => .bad) = _
    rw [RS.ofE_ok, RS.ofE_ok, e, kk]
    show (if (Yl9 ds).length < cap then RS.nx _ (st.set kn (.dtt (Ymp (Yl9 ds) (kM (r x)) (.int (ds.length : Nat))))) else .bad) = _
    rw [if_pos (by show _ < 1000000; unfold Yl9; rw [List.length_map, List.length_zipIdx]; omega), Yhw hx hd z]
   rw [pt, RS.seq_nx, e1]
   k_in
   rw [ix (es := ds ++ [r x]) (ZAR hk) (fun d hd' => by
    rcases ZAh.mp hd' with w | w
    ·exact hd d w
    ·rw [List.mem_singleton.mp w]; exact hx) (by simp)]
   k_in
end
theorem Yby : ∀ {xs ds : List Mk}, (∀ d ∈ ds, d.isS = false) -> ∀ d ∈ xs.foldl fst1 ds, d.isS = false
 | [], ds, h => h
 | x :: xs, ds, h => Yby (xs := xs) (YhC h)
theorem WE : ∀ {xs ds : List Mk}, (xs.foldl fst1 ds).length <= ds.length + xs.length
 | [], ds => by simp
 | x :: xs, ds => by
  have := WE (xs := xs) (ds := fst1 ds x)
  have := Yha (ds := ds) (x := x)
  rw [ZAr, ZA2]
  omega
theorem JY : ∀ {xs ds : List Mk}, ∃ e, xs.foldl fst1 ds = ds ++ e
 | [], ds => ⟨[], by simp⟩
 | x :: xs, ds => by
  obtain ⟨e1, h1⟩ := Ycj (ds := ds) (x := x)
  obtain ⟨e2, h2⟩ := JY (xs := xs) (ds := fst1 ds x)
  exact ⟨e1 ++ e2, by rw [ZAr, h2, h1, ZBB]⟩
theorem YiH {ds e : List Mk} {x : Mk} : shw (fst1 ds x ++ e) x = shw (fst1 ds x) x := by
 unfold shw
 cases h : x.isS with
 | true => rfl
 | false =>
  rw [ZAE ZAO, ZAE ZAO, ZCF, ZAF (Ycz h)]
section
variable {kl : Nat} {hs : List (Mk × Mk)} {r : Rp} {ds : List Mk}
theorem YcN {xs D : List Mk} (h : st[kh]? = some (.dtt (YlS hs))) (H : HD hs r) (hl : hs.length <= 1000) (hn : st[kn]? = some (.dtt (Yl9 ds))) (hd : ∀ d ∈ ds, d.isS = false) (hdl : ds.length + xs.length <= 1000) (hx : st[kl]? = some (.lst (xs.map Yly)))
 (n1 : kn ≠ kh) (n2 : kn ≠ kl) (hD : ∃ e, D = (xs.map r).foldl fst1 ds ++ e) :
 YlX (YmI kl xs.length) (Ylp 0) Ymv (YlK 3 ZY (Ylm (Yll 1) (Ylm (Yll 2) (Ylm (Yll 0) Yls)))) [none, some (.ref kh), some (.ref kn)] xs.length 0 st [] = .ok (xs.map fun x => shw D (r x)) (st.set kn (.dtt (Yl9 ((xs.map r).foldl fst1 ds)))) := by
 have hk : kn < st.length := (ZAB.mp hn).1
 obtain ⟨acc, s', e1, e2, e3⟩ := VR (src := YmI kl xs.length) (g := Ylp 0) (nt := Ymv) (me := YlK 3 ZY (Ylm (Yll 1) (Ylm (Yll 2) (Ylm (Yll 0) Yls)))) (ρ0 := [none, some (.ref kh), some (.ref kn)]) (N := xs.length)
  (fun i s acc => s = st.set kn (.dtt (Yl9 (((xs.take i).map r).foldl fst1 ds))) /\ acc = (xs.take i).map fun x => shw D (r x)) (st := st) ⟨by
   obtain ⟨h1, h2⟩ := ZAB.mp hn
   show st = st.set kn (.dtt (Yl9 ds))
   rw [<- h2, ZBQ], rfl⟩ (fun i s acc hi ⟨q1, q2⟩ => by
   subst q1; subst q2
   have et : (xs.take (i + 1)).map r = (xs.take i).map r ++ [r xs[i]] := by rw [ZAW hi, ZAU]; rfl
   have g0 : (st.set kn (.dtt (Yl9 (((xs.take i).map r).foldl fst1 ds))))[kh]? = some (.dtt (YlS hs)) := by rw [ZAL n1]; exact h
   have gl : (st.set kn (.dtt (Yl9 (((xs.take i).map r).foldl fst1 ds))))[kl]? = some (.lst (xs.map Yly)) := by rw [ZAL n2]; exact hx
   have gn : (st.set kn (.dtt (Yl9 (((xs.take i).map r).foldl fst1 ds))))[kn]? = some (.dtt (Yl9 (((xs.take i).map r).foldl fst1 ds))) := ZAR hk
   have hlen := WE (xs := (xs.take i).map r) (ds := ds)
   rw [ZAK, ZAm] at hlen
   refine ⟨Yly xs[i], _, by rw [nxK (Yg gl), ZAT hi]; rfl, rfl, .inr ⟨_, shw D (r xs[i]), _, rfl, ?_, by show _ < 1000000; rw [ZAK, ZAm]; omega, rfl, ?_⟩⟩
   ·k_in
    rw [shown g0 H hl gn (Yby hd) (by omega), Yck]
    k_in
    rw [et, ZBl]
    show R.ok (shw (fst1 (((xs.take i).map r).foldl fst1 ds) (r xs[i])) (r xs[i])) _ = R.ok _ _
    obtain ⟨e, he⟩ := hD
    have esplit : (xs.map r).foldl fst1 ds = ((xs.drop (i + 1)).map r).foldl fst1 (fst1 (((xs.take i).map r).foldl fst1 ds) (r xs[i])) := by
     conv => lhs; rw [<- ZA5 (i + 1) xs, ZAU, ZBl, et, ZBl]
     rfl
    obtain ⟨e', he'⟩ := JY (xs := (xs.drop (i + 1)).map r) (ds := fst1 (((xs.take i).map r).foldl fst1 ds) (r xs[i]))
    rw [he, esplit, he', ZBB, YiH]
    rfl
   ·rw [ZAW hi, ZAU]; rfl) (fun s acc ⟨q1, q2⟩ => by
   subst q1
   have gl : (st.set kn (.dtt (Yl9 (((xs.take xs.length).map r).foldl fst1 ds))))[kl]? = some (.lst (xs.map Yly)) := by rw [ZAL n2]; exact hx
   rw [nxK (Yg gl), ZA1 (ZAI _)]; rfl)
 rw [ZAo] at e2 e3
 rw [e1, e2, e3]
end
theorem YhA {m : MS} {ρ' : Rho} {s s' : Ylo} (h1 : ρ[i]? = some (some (.ref k))) (h2 : s[k]? = some (.dct kvs)) (h3 : m ρ (s.set k (.fdc kvs)) = .nx ρ' s') (h4 : s'[k]? = some (.fdc kvs)) : Yoc i m ρ s = .nx ρ' (s'.set k (.dct kvs)) := by
 unfold Yoc
 rw [h1]
 simp only [h2, h3, h4]
theorem YhX {me : ME} (h : me ρ st = .ok (.ref k) st) (h2 : st[k]? = some (.fdc kvs)) : Ynq me ρ st = .ok (YmN kvs) st := by
 unfold Ynq
 rw [h]
 simp only [R.bind_ok, h2]
theorem YoP {U : List Nat} {w : Nat -> Nat} : (YmN (Ymj U w)).nx i st = some (U[i]?.map fun c => tx [c]) := by
 show some (((Ymj U w)[i]?).map fun p => kP p.1) = _
 unfold Ymj
 rw [ZAZ, Option.map_map]
 rfl
def Ynh (r : List Nat) : Prop := r.Pairwise (· < ·)
theorem Yik {a b : Nat} : leS (sT [a]) (sT [b]) = decide (a <= b) := by
 unfold leS
 rw [VT]
 by_cases h : a <= b
 ·rw [ZAa h, ZAS (by omega)]; rfl
 ·rw [ZAS h, ZAa (by omega)]; rfl
theorem Yfi (ls : List Nat) (hn : ls.Nodup) : ∃ r, YmQ (ls.map fun c => sT [c]) = r.map (fun c => sT [c]) /\ Ynh r /\ r.Perm ls := by
 have hp := List.mergeSort_perm ls (fun a b => decide (a <= b))
 have hs := List.pairwise_mergeSort (le := fun a b : Nat => decide (a <= b)) (fun a b c h1 h2 => by simp at *; omega) (fun a b => by simp; omega) ls
 refine ⟨ls.mergeSort (fun a b => decide (a <= b)), (Vz (hp.map _) ?_).symm, ?_, hp⟩
 ·rw [ZB2]
  exact hs.imp fun h => by rw [Yik]; exact h
 ·have hn' : (ls.mergeSort (fun a b => decide (a <= b))).Nodup := hp.nodup_iff.mpr hn
  exact (hs.and hn').imp fun ⟨h1, h2⟩ => Nat.lt_of_le_of_ne (ZBA h1) h2
theorem YaX : ∀ {l m : List Nat}, l.Nodup -> (∀ x ∈ l, x ∈ m) -> l.length <= m.length
 | [], m, _, _ => ZBN _
 | a :: l, m, hn, h => by
  have ha : a ∈ m := h a (ZAM ..)
  have hn' := ZBv.mp hn
  have ih := YaX (l := l) (m := m.erase a) hn'.2 fun x hx => by
   have e : x ≠ a := fun e => hn'.1 (by rw [<- e]; exact hx)
   exact (List.mem_erase_of_ne e).mpr (h x (ZAQ _ hx))
  rw [List.length_erase_of_mem ha] at ih
  have : 0 < m.length := List.length_pos_of_mem ha
  rw [ZA2]
  omega
theorem Yfx {ls : List Nat} (hl : ls.length <= 63) : ∃ r, YmQ (once (ls.map fun c => sT [c])) = r.map (fun c => sT [c]) /\ Ynh r /\ (∀ c, c ∈ r ↔ c ∈ ls) /\ r.length <= ls.length := by
 have ho : ∀ x ∈ once (ls.map fun c => sT [c]), ∃ c, x = sT [c] /\ True := fun x hx => by
  obtain ⟨c, hc, rfl⟩ := ZAY.mp (mem_once.mp hx)
  exact ⟨c, rfl, trivial⟩
 obtain ⟨l0, e0, _⟩ := Yak ho
 have hn : l0.Nodup := by
  have := Ydi (ls.map fun c => sT [c])
  rw [e0] at this
  rw [List.nodup_iff_pairwise_ne, ZB2] at this
  exact this.imp fun h e => h (by rw [e])
 have hm : ∀ c, c ∈ l0 ↔ c ∈ ls := fun c => by
  have key : ∀ l : List Nat, c ∈ l ↔ sT [c] ∈ l.map fun c => sT [c] := fun l => by
   rw [ZAY]
   constructor
   ·intro h; exact ⟨c, h, rfl⟩
   ·rintro ⟨d, hd, e⟩
    have : [d] = [c] := sT_inj.mp e
    cases this
    exact hd
  rw [key l0, <- e0, mem_once, <- key ls]
 obtain ⟨r, r1, r2, r3⟩ := Yfi l0 hn
 exact ⟨r, by rw [e0, r1], r2, fun c => by rw [r3.mem_iff, hm], by rw [r3.length_eq]; exact YaX hn fun x hx => (hm x).mp hx⟩
theorem Yhv {ls : List Nat} {st0 : Ylo} {me : ME} (h : me ρ st0 = .ok (.ref k) st) (hk : listAt st k = some (ls.map fun c => tx [c])) (hl : ls.length <= 63) : YmC me ρ st0 = .ok ((YmQ (once (ls.map fun c => sT [c]))).map P.str) st := by
 unfold YmC
 rw [h]
 show (match listAt st k with | some xs => (match YmB xs with | some ys => if ys.length < 4000 /\ (once ys).length < 64 then R.ok ((YmQ (once ys)).map P.str) st else R.bad | none => R.bad) | none => R.bad) = _
 rw [hk]
 show 145
 rw [Yag]
 show 145
 have e1 : (ls.map fun c => [c]).map sT = ls.map fun c => sT [c] := by rw [ZA3]; rfl
 rw [e1, ZAF]
 have := YcI (ls.map fun c => sT [c])
 rw [ZAK] at this ⊢
 omega
abbrev Sys := List (List Nat × List Nat)
def YlN (e : List Nat × List Nat) : P := .tup [tx e.1, tx e.2]
def Ymf (tb : Sys) : List Nat := tb.flatMap fun e => e.1 ++ e.2
theorem mem_allL {tb : Sys} : c ∈ Ymf tb ↔ ∃ e ∈ tb, c ∈ e.1 \/ c ∈ e.2 := by
 unfold Ymf
 simp [List.mem_flatMap]
theorem YbZ {tb : Sys} {e : List Nat × List Nat} (h : e ∈ tb) : e.1.length + e.2.length <= (Ymf tb).length := by
 unfold Ymf
 induction tb with
 | nil => cases h
 | cons a r ih =>
  rw [ZBk, ZAJ, ZAJ]
  rcases ZAc.mp h with rfl | h
  ·omega
  ·have := ih h; omega
theorem YcR {tb : Sys} (h : (Ymf tb).length <= 63) (h6 : tb.length <= 50) : Y1 [.tup (tb.map YlN)] st = .ok (tx (Ymf tb)) st := by
 unfold Y1 Wo
 simp only [WD]
 try k_in
 rw [ZAK, Wi tb YlN (fun e => tx (e.1 ++ e.2)) rfl (fun i _ => nxL) (by omega) (fun e he => ⟨[some (tx e.1), some (tx e.2)], rfl, by
  have := YbZ he
  k_in⟩)]
 try k_in
 rw [show (tb.map fun e => tx (e.1 ++ e.2)) = (tb.map fun e => e.1 ++ e.2).map tx by rw [ZA3]; rfl]
 have e2 : (tb.map fun e => e.1 ++ e.2).flatten = Ymf tb := by unfold Ymf; rw [List.flatMap_def]
 rw [Jc (by rw [e2]; omega), e2]
 rfl
theorem YfG {tb : Sys} (h : (Ymf tb).length <= 63) (h6 : tb.length <= 50) : ∃ r st', YU [.tup (tb.map YlN)] st = .ok (tx r) st' /\ Ylx st st' /\ Ynh r /\ (∀ c, c ∈ r ↔ c ∈ Ymf tb /\ isUp c = true) /\ r.length <= 63 := by
 unfold YU Ve
 try k_in
 rw [YcR h h6]
 try k_in
 rw [JH (Ymf tb) (fun c => tx [c]) isUp (fun c => tx [c]) rfl (fun i hi => nxS hi) (by omega) (fun c hc => ⟨_, rfl, by
  try k_in
  rw [Ydr]
  rfl, fun _ => by try k_in⟩)]
 try k_in
 generalize hF : (Ymf tb).filter isUp = F
 have hFl : F.length <= 63 := by rw [<- hF]; exact ZAV (List.length_filter_le _ _) h
 unfold WN Yas
 simp only [WD]
 try k_in
 rw [Yhv (ls := F) (k := st.length) (st := st ++ [.lst (F.map fun c => tx [c])]) rfl (Yg Yq) hFl]
 obtain ⟨r, r1, r2, r3, r4⟩ := Yfx (ls := F) hFl
 rw [r1]
 try k_in
 rw [show (r.map fun c => sT [c]).map P.str = r.map fun c => tx [c] by rw [ZA3]; rfl, JP (by omega)]
 try k_in
 exact ⟨r, _, rfl, Ylx.one, r2, fun c => by rw [r3, <- hF, ZCO], by omega⟩
theorem YbV : ∀ {a b : List Nat}, Ynh a -> Ynh b -> (∀ c, c ∈ a ↔ c ∈ b) -> a = b
 | [], [], _, _, _ => rfl
 | [], y :: b, _, _, h => by have := (h y).mpr (ZAM ..); cases this
 | x :: a, [], _, _, h => by have := (h x).mp (ZAM ..); cases this
 | x :: a, y :: b, ra, rb, h => by
  have ra' := List.pairwise_cons.mp ra
  have rb' := List.pairwise_cons.mp rb
  have e : x = y := by
   have h1 := (h x).mp (ZAM ..)
   have h2 := (h y).mpr (ZAM ..)
   rcases ZAc.mp h1 with z | z
   ·exact z
   ·rcases ZAc.mp h2 with w | w
    ·exact w.symm
    ·have := rb'.1 x z
     have := ra'.1 y w
     omega
  subst e
  have := YbV ra'.2 rb'.2 fun c => by
   constructor
   ·intro hc
    rcases ZAc.mp ((h c).mp (ZAQ _ hc)) with z | z
    ·have := ra'.1 c hc; omega
    ·exact z
   ·intro hc
    rcases ZAc.mp ((h c).mpr (ZAQ _ hc)) with z | z
    ·have := rb'.1 c hc; omega
    ·exact z
  show 164
theorem Ycn : ∀ (prs acc : List (Key × P)), ((acc ++ prs).map (·.1)).Nodup -> prs.foldl (fun acc q => Ymp acc q.1 q.2) acc = acc ++ prs
 | [], acc, _ => by simp
 | q :: prs, acc, h => by
  have hn : (acc.any fun kv => decide (kv.1 = q.1)) = false := by
   rw [ZBh]
   intro kv hk z
   rw [ZAU, ZBi] at h
   exact h.2.2 kv.1 (List.mem_map.mpr ⟨kv, hk, rfl⟩) q.1 (by simp) (of_decide_eq_true z)
  have e : Ymp acc q.1 q.2 = acc ++ [q] := by unfold Ymp; rw [if_neg (by rw [hn]; decide)]
  rw [ZAr, e, Ycn prs (acc ++ [q]) (by rw [ZBB]; exact h), ZBB]
  rfl
theorem YfK {f : Nat -> P} : keyz N (N.map f) = N.map fun u => (tkey [u], f u) := by
 unfold keyz
 induction N with
 | nil => rfl
 | cons u N ih => rw [ZAX, List.zip_cons_cons, ZAX, ih, ZAX]; rfl
theorem Yps (nd : N.Nodup) : Ym6 [tx N, .tup (N.map fun u => .int (len u : Nat))] st = .ok (.ref st.length) (st ++ [.dct (Ymj N len)]) := by
 unfold tx Ym6
 show 145
 rw [if_pos (by rw [List.length_map]; simp [sT])]
 have e : (sT N).cps.toList = N := by simp [sT]
 rw [e, YfK]
 have : Yn4 (N.map fun u => (tkey [u], P.int (len u : Nat))) = Ymj N len := by
  unfold Yn4
  rw [Ycn _ [] (by
   rw [ZB7, ZA3]
   unfold List.Nodup at nd ⊢
   rw [ZB2]
   exact nd.imp fun {a b} h z => h (tkey1 z))]
  rfl
 show 164
def Ylr (len : Nat -> Nat) (tb : Sys) : List (List Mk × List Mk) := tb.map fun e => (marks len e.1, marks len e.2)
def pairsOf (es : List (List Mk × List Mk)) : List (Mk × Mk) := es.flatMap fun e => e.1.zip e.2
def told (len : Nat -> Nat) (N : List Nat) (r : Rp) : P := .tup (N.map fun u => .tup (((List.range (len u)).map (Mk.pl u)).map fun x => shw (firsts ((marks len N).map r)) (r x)))
theorem J9 {tb : Sys} (hi : i < tb.length) : pairsOf (Ylr len (tb.take (i + 1))) = pairsOf (Ylr len (tb.take i)) ++ (marks len tb[i].1).zip (marks len tb[i].2) := by
 unfold pairsOf Ylr
 rw [ZAW hi, ZAU, ZBY]
 simp
theorem YgB {u : Nat} (h : YlE u = false) : marks len [u] = (List.range (len u)).map (Mk.pl u) := by
 unfold marks mark
 simp [h]
theorem Vd (hi : i < N.length) (h : YlE N[i] = false) : marks len (N.take (i + 1)) = marks len (N.take i) ++ (List.range (len N[i])).map (Mk.pl N[i]) := by
 rw [Ww hi]
 unfold mark
 rw [ZAE (by rw [h]; decide)]
theorem tied {tb : Sys} (hl : ∀ u, len u <= 20) (h2 : tb.length <= 2) (hs : ∀ e ∈ tb, e.1.length <= 10 /\ e.2.length <= 10) (hr : Ynh N) (hN : ∀ c, c ∈ N ↔ c ∈ Ymf tb /\ isUp c = true) (hlet : ∀ c ∈ Ymf tb, YlE c = true \/ isUp c = true) (h26 : N.length <= 26) :
 ∃ st', WJ [.tup (tb.map YlN), .tup (N.map fun u => .int (len u : Nat))] st =
  .ok (if ∀ e ∈ Ylr len tb, e.1.length = e.2.length then (match Yl6 (fun x => x) (pairsOf (Ylr len tb)) with | some r => told len N r | none => .non) else .non) st' := by
 have nd : N.Nodup := hr.imp fun h => ZAN h
 have hlow : ∀ u ∈ N, YlE u = false := fun u hu => by
  have := ((hN u).mp hu).2
  cases e : YlE u with
  | false => rfl
  | true => rw [Yal e] at this; cases this
 have hall : (Ymf tb).length <= 63 := by
  have key : ∀ tb : Sys, (∀ e ∈ tb, e.1.length <= 10 /\ e.2.length <= 10) -> (Ymf tb).length <= 20 * tb.length := by
   intro tb
   induction tb with
   | nil => intro _; simp [Ymf]
   | cons e tb ih =>
    intro h
    have a := ih fun d hd => h d (ZAQ _ hd)
    have b := h e (ZAM ..)
    unfold Ymf at a ⊢
    rw [ZBk, ZAJ, ZAJ, ZA2]
    omega
  have := key tb hs
  omega
 have inN : ∀ e ∈ tb, ∀ c, (c ∈ e.1 \/ c ∈ e.2) -> YlE c = false -> c ∈ N := fun e he c hc hlw => by
  have hm := mem_allL.mpr ⟨e, he, hc⟩
  rcases hlet c hm with z | z
  ·rw [z] at hlw; cases hlw
  ·exact (hN c).mpr ⟨hm, z⟩
 unfold WJ Yc0
 k_in
 obtain ⟨r0, B0, n1, n2, n3, n4, n5⟩ := YfG (tb := tb) (st := st) hall (by omega)
 have e0 : r0 = N := YbV n3 hr fun c => by rw [n4, hN]
 subst e0
 have hd : YnV (Ylm (YlK 1 YU (Ylm (Yll 0) Yls)) (Ylm (Yll 1) Yls)) [some (.tup (tb.map YlN)), some (.tup (r0.map fun u => .int (len u : Nat))), none, none, none, none, none, none, none] st = .ok (.ref B0.length) (B0 ++ [.dct (Ymj r0 len)]) := by
  show (Ylm (YlK 1 YU (Ylm (Yll 0) Yls)) (Ylm (Yll 1) Yls) _ st).bind Ym6 = _
  k_in
  rw [n1]
  k_in
  exact Yps nd
 rw [hd]
 generalize hB : B0 ++ [O.dct (Ymj r0 len)] = B
 have kd : B[B0.length]? = some (.dct (Ymj r0 len)) := by rw [<- hB]; exact Yq
 have hkd : B0.length < B.length := (ZAB.mp kd).1
 k_in
 rw [show ∀ (ρ : Rho), YmU ρ B = .ok (.ref B.length) (B ++ [.dtt []]) from fun _ => rfl]
 show 39
 have key : ∀ R, R = Ymb (Ym3 (tb.map YlN)) (Yma 2 (YlD (Ylp 4) (YlD (Ylp 5) Ymg))) Jx tb.length 0 [some (.tup (tb.map YlN)), some (.tup (r0.map fun u => .int (len u : Nat))), some (.ref B0.length), some (.ref B.length), none, none, none, none, none] (B ++ [.dtt []]) ->
  (∃ r hs v4 v5 s, (∀ e ∈ Ylr len tb, e.1.length = e.2.length) /\ Yl6 (fun x => x) (pairsOf (Ylr len tb)) = some r /\ R = .nx [some (.tup (tb.map YlN)), some (.tup (r0.map fun u => .int (len u : Nat))), some (.ref B0.length), some (.ref B.length), v4, v5, none, none, none] s /\ Ylx B s /\ s[B.length]? = some (.dtt (YlS hs)) /\ HD hs r /\ hs.length <= 400) \/
  (¬ ((∀ e ∈ Ylr len tb, e.1.length = e.2.length) /\ ∃ r, Yl6 (fun x => x) (pairsOf (Ylr len tb)) = some r) /\ ∃ s, R = .rt .non s) := by
  intro R hR
  subst hR
  refine VE (src := Ym3 (tb.map YlN)) (g := Yma 2 (YlD (Ylp 4) (YlD (Ylp 5) Ymg))) (m := Jx) tb.length
   (fun i ρ s => ∃ r hs v4 v5, (∀ e ∈ Ylr len (tb.take i), e.1.length = e.2.length) /\ Yl6 (fun x => x) (pairsOf (Ylr len (tb.take i))) = some r /\ ρ = [some (.tup (tb.map YlN)), some (.tup (r0.map fun u => .int (len u : Nat))), some (.ref B0.length), some (.ref B.length), v4, v5, none, none, none] /\ Ylx B s /\ s[B.length]? = some (.dtt (YlS hs)) /\ HD hs r /\ hs.length <= 200 * i)
   (fun R => (∃ r hs v4 v5 s, (∀ e ∈ Ylr len tb, e.1.length = e.2.length) /\ Yl6 (fun x => x) (pairsOf (Ylr len tb)) = some r /\ R = .nx [some (.tup (tb.map YlN)), some (.tup (r0.map fun u => .int (len u : Nat))), some (.ref B0.length), some (.ref B.length), v4, v5, none, none, none] s /\ Ylx B s /\ s[B.length]? = some (.dtt (YlS hs)) /\ HD hs r /\ hs.length <= 400) \/
   (¬ ((∀ e ∈ Ylr len tb, e.1.length = e.2.length) /\ ∃ r, Yl6 (fun x => x) (pairsOf (Ylr len tb)) = some r) /\ ∃ s, R = .rt .non s))
   (fun i ρ s hi ⟨r, hs1, v4, v5, q1, q2, q3, q4, q5, q6, q7⟩ => ?_) (fun ρ s ⟨r, hs1, v4, v5, q1, q2, q3, q4, q5, q6, q7⟩ => ?_) tb.length 0 _ _ (by omega) ⟨fun x => x, [], none, none, fun e he => (by simp [Ylr] at he), rfl, rfl, Ylx.one, Yq, HD.nil, by simp⟩
  ·subst q3
   refine ⟨YlN tb[i], _, by rw [nxL, ZAT hi]; rfl, rfl, ?_⟩
   have het := ZAb hi
   obtain ⟨l1, l2⟩ := hs _ het
   obtain ⟨s1, a1, a2, a3⟩ := laid (N := r0) (side := tb[i].1) (len := len) (kd := B0.length) (st := s) (.inl (q4.get kd)) hl (by omega) (fun c hc => inN _ het c (.inl hc))
   obtain ⟨s2, b1, b2, b3⟩ := laid (N := r0) (side := tb[i].2) (len := len) (kd := B0.length) (st := s1) (.inl ((q4.trans a2).get kd)) hl (by omega) (fun c hc => inN _ het c (.inr hc))
   have m1 := ZA hl tb[i].1
   have hks : B.length < s.length := (ZAB.mp q5).1
   have hks1 : s.length <= s1.length := a2.len
   obtain ⟨t1, t2, t3⟩ := Yem (st := s2) (kh := B.length) (k1 := s.length) (k2 := s1.length) (r := r) ((a2.trans b2).get q5) q6 (b2.get a3) b3 (by omega) (by omega) (by omega)
   have hst := J9 (len := len) hi
   have hside : ∀ P : List Mk × List Mk -> Prop, (∀ e ∈ Ylr len (tb.take (i + 1)), P e) ↔ (∀ e ∈ Ylr len (tb.take i), P e) /\ P (marks len tb[i].1, marks len tb[i].2) := fun P => by
    unfold Ylr
    rw [ZAW hi, ZAU]
    simp only [List.mem_append, List.map_cons, List.map_nil, List.mem_singleton]
    constructor
    ·intro h; exact ⟨fun e he => h e (.inl he), h _ (.inr rfl)⟩
    ·rintro ⟨a, b⟩ e (z | z)
     ·exact a e z
     ·rw [z]; exact b
   have bad : (marks len tb[i].1).length ≠ (marks len tb[i].2).length \/ Yl6 r ((marks len tb[i].1).zip (marks len tb[i].2)) = none -> ¬ ((∀ e ∈ Ylr len tb, e.1.length = e.2.length) /\ ∃ r, Yl6 (fun x => x) (pairsOf (Ylr len tb)) = some r) := by
    rintro h ⟨z1, r', z2⟩
    show 226
    ·exact h (z1 (marks len tb[i].1, marks len tb[i].2) (ZAY.mpr ⟨tb[i], het, rfl⟩))
    ·have e : pairsOf (Ylr len tb) = pairsOf (Ylr len (tb.take (i + 1))) ++ pairsOf (Ylr len (tb.drop (i + 1))) := by
      conv => lhs; rw [<- ZA5 (i + 1) tb]
      unfold pairsOf Ylr
      rw [ZAU, ZBY]
     rw [e, WU, hst, WU, q2] at z2
     simp only [Option.bind_some] at z2
     rw [h] at z2
     cases z2
   unfold Jx
   show 57
   rw [b1]
   k_in
   by_cases el : (marks len tb[i].1).length = (marks len tb[i].2).length
   ·cases er : Yl6 r ((marks len tb[i].1).zip (marks len tb[i].2)) with
    | some r' =>
     obtain ⟨hs2, u1, u2, u3⟩ := t2 el r' er
     rw [u1]
     k_in
     have hk2 : B.length < s2.length := by have := b2.len; omega
     refine ⟨r', hs2, some (tx tb[i].1), some (tx tb[i].2), (hside _).mpr ⟨q1, el⟩, by rw [hst, WU, q2]; exact er, rfl, Ylx.set ((q4.trans a2).trans b2) (ZAI _), ZAR hk2, u2, ?_⟩
     omega
    | none =>
     obtain ⟨hs2, u1⟩ := t3 el er
     rw [u1]
     k_in
     exact .inr ⟨bad (.inr er), _, rfl⟩
   ·rw [t1 el]
    k_in
    exact .inr ⟨bad (.inl el), _, rfl⟩
  ·subst q3
   rw [ZAo] at q1 q2
   exact ⟨by rw [nxL, ZA1 (ZAI _)]; rfl, .inl ⟨r, hs1, v4, v5, s, q1, q2, rfl, q4, q5, q6, by omega⟩⟩
 rcases key _ rfl with ⟨r, hs1, v4, v5, s, w1, w2, w3, w4, w5, w6, w7⟩ | ⟨w1, s, w3⟩
 ·rw [ZAF w1, w2, w3]
  clear w1 w2 w3 key
  generalize hD : firsts ((marks len r0).map r) = D
  have hmk : ∀ i, (marks len (r0.take i)).length <= 520 := fun i => by
   have := ZA hl (r0.take i)
   rw [ZAm] at this
   omega
  have hkh : B.length < s.length := (ZAB.mp w5).1
  have hkd2 : s[B0.length]? = some (.dct (Ymj r0 len)) := w4.get kd
  generalize hT : Yoc 2 (sFor (Ynq (Yll 2)) (Ylp 8) VJ) = T
  k_in
  rw [show ∀ (ρ : Rho), YmU ρ s = .ok (.ref s.length) (s ++ [.dtt []]) from fun _ => rfl]
  k_in
  have hlen2 : (s ++ [O.dtt []]).length = s.length + 1 := by simp
  generalize hC : s ++ [O.dtt []] ++ [O.lst []] = C
  have c1 : C[B0.length]? = some (.dct (Ymj r0 len)) := by rw [<- hC]; exact (Ylx.one.trans Ylx.one).get hkd2
  have c2 : C[B.length]? = some (.dtt (YlS hs1)) := by rw [<- hC]; exact (Ylx.one.trans Ylx.one).get w5
  have c3 : C[s.length]? = some (.dtt (Yl9 [])) := by rw [<- hC]; exact Ylx.one.get Yq
  have c4 : C[s.length + 1]? = some (.lst []) := by rw [<- hC, <- hlen2]; exact Yq
  have hCl : C.length = s.length + 2 := by rw [<- hC]; simp
  rw [hlen2]
  have loop : ∃ ρ' s', sFor (Ynq (Yll 2)) (Ylp 8) VJ [some (.tup (tb.map YlN)), some (.tup (r0.map fun u => .int (len u : Nat))), some (.ref B0.length), some (.ref B.length), v4, v5, some (.ref s.length), some (.ref (s.length + 1)), none] (C.set B0.length (.fdc (Ymj r0 len))) = .nx ρ' s' /\
   (∃ v8, ρ' = [some (.tup (tb.map YlN)), some (.tup (r0.map fun u => .int (len u : Nat))), some (.ref B0.length), some (.ref B.length), v4, v5, some (.ref s.length), some (.ref (s.length + 1)), v8]) /\ s'[B0.length]? = some (.fdc (Ymj r0 len)) /\ s'[s.length + 1]? = some (.lst (r0.map fun u => .tup (((List.range (len u)).map (Mk.pl u)).map fun x => shw D (r x)))) := by
   have f0 : (C.set B0.length (.fdc (Ymj r0 len)))[B0.length]? = some (.fdc (Ymj r0 len)) := ZAR (by omega)
   rw [YdE, YhX (k := B0.length) (kvs := Ymj r0 len) rfl f0, RS.ofE_ok]
   have hnn : (YmN (Ymj r0 len)).n = r0.length := by show (Ymj r0 len).length = _; unfold Ymj; exact List.length_map ..
   rw [hnn]
   obtain ⟨ρ', s', g1, v8, g2, g3, g4, g5, g6⟩ := YH (src := YmN (Ymj r0 len)) (g := Ylp 8) (m := VJ) (N := r0.length) (ρ := [some (.tup (tb.map YlN)), some (.tup (r0.map fun u => .int (len u : Nat))), some (.ref B0.length), some (.ref B.length), v4, v5, some (.ref s.length), some (.ref (s.length + 1)), none]) (st := C.set B0.length (.fdc (Ymj r0 len))) r0 (fun c => tx [c])
    (fun i ρ s' => ∃ v8, ρ = [some (.tup (tb.map YlN)), some (.tup (r0.map fun u => .int (len u : Nat))), some (.ref B0.length), some (.ref B.length), v4, v5, some (.ref s.length), some (.ref (s.length + 1)), v8] /\ s'[B0.length]? = some (.fdc (Ymj r0 len)) /\ s'[B.length]? = some (.dtt (YlS hs1)) /\ s'[s.length]? = some (.dtt (Yl9 (firsts ((marks len (r0.take i)).map r)))) /\
     s'[s.length + 1]? = some (.lst ((r0.take i).map fun u => .tup (((List.range (len u)).map (Mk.pl u)).map fun x => shw D (r x))))) rfl (fun i ρ s hi _ => YoP)
    ⟨none, rfl, f0, by rw [ZAL (by omega)]; exact c2, by rw [ZAL (by omega)]; exact c3, by rw [ZAL (by omega)]; exact c4⟩
    (fun i hi ρ s' ⟨v8, q1, q2, q3, q4, q5⟩ => by
     show 20
     have hu := hlow _ (ZAb hi)
     obtain ⟨s1, a1, a2, a3⟩ := laid (N := r0) (side := [r0[i]]) (len := len) (kd := B0.length) (st := s') (.inr q2) hl (by simp) (fun c hc _ => by rw [List.mem_singleton.mp hc]; exact List.getElem_mem hi)
     rw [YgB hu] at a3
     have hm := hmk i
     have hxl : ((List.range (len r0[i])).map (Mk.pl r0[i])).length <= 20 := by rw [ZAK, ZA4]; exact hl _
     have hpl : ∀ d ∈ firsts ((marks len (r0.take i)).map r), d.isS = false := Yby (fun d hd => (by cases hd))
     have hfl : (firsts ((marks len (r0.take i)).map r)).length <= 520 := by
      have := WE (xs := (marks len (r0.take i)).map r) (ds := [])
      rw [ZAK] at this
      exact Nat.le_trans this (by simpa using hm)
     have hkt : s.length + 1 < s'.length := (ZAB.mp q5).1
     have enext : firsts ((marks len (r0.take (i + 1))).map r) = (((List.range (len r0[i])).map (Mk.pl r0[i])).map r).foldl fst1 (firsts ((marks len (r0.take i)).map r)) := by
      rw [Vd hi hu, ZAU]
      unfold firsts
      rw [ZBl]
     have hpre : ∃ e, D = (((List.range (len r0[i])).map (Mk.pl r0[i])).map r).foldl fst1 (firsts ((marks len (r0.take i)).map r)) ++ e := by
      rw [<- enext, <- hD]
      have : (marks len r0).map r = (marks len (r0.take (i + 1))).map r ++ (marks len (r0.drop (i + 1))).map r := by
       rw [<- ZAU]
       congr 1
       conv => lhs; rw [<- ZA5 (i + 1) r0]
       unfold marks
       rw [ZBY]
      show 164
      unfold firsts
      rw [ZBl]
      exact JY
     have sc := YcN (st := s1) (kh := B.length) (kn := s.length) (kl := s'.length) (r := r) (D := D) (a2.get q3) w6 (by omega) (a2.get q4) hpl (by omega) a3 (by omega) (by omega) hpre
     unfold VJ
     k_in
     rw [Zb q5]
     show 57
     rw [Zd (Yg a3)]
     k_in
     simp only [List.length_map] at sc ⊢
     rw [sc]
     k_in
     have k5 : (s1.set s.length (.dtt (Yl9 ((((List.range (len r0[i])).map (Mk.pl r0[i])).map r).foldl fst1 (firsts ((marks len (r0.take i)).map r))))))[s.length + 1]? = some (.lst ((r0.take i).map fun u => .tup (((List.range (len u)).map (Mk.pl u)).map fun x => shw D (r x)))) := by
      rw [ZAL (by omega)]; exact a2.get q5
     rw [Zm k5 (by rw [ZAK, ZAm]; omega)]
     k_in
     have hl1 := a2.len
     refine ⟨_, _, rfl, _, rfl, ?_, ?_, ?_, ?_⟩
     ·rw [ZAL (by omega), ZAL (by omega)]; exact a2.get q2
     ·rw [ZAL (by omega), ZAL (by omega)]; exact a2.get q3
     ·rw [ZAL (by omega), ZAR (by omega), enext]
     ·rw [ZAR (by rw [ZBw]; omega), ZAW hi, ZAU]
      rfl)
   rw [ZAo] at g6
   exact ⟨ρ', s', g1, ⟨v8, g2⟩, g3, g6⟩
  obtain ⟨ρ', s', g1, ⟨v8, g2⟩, g3, g6⟩ := loop
  subst g2
  rw [<- hT, YhA (k := B0.length) (kvs := Ymj r0 len) rfl c1 g1 g3]
  k_in
  have k7 : (s'.set B0.length (.dct (Ymj r0 len)))[s.length + 1]? = some (.lst (r0.map fun u => .tup (((List.range (len u)).map (Mk.pl u)).map fun x => shw D (r x)))) := by
   rw [ZAL (by omega)]; exact g6
  rw [show Ymd [.ref (s.length + 1)] (s'.set B0.length (.dct (Ymj r0 len))) = _ from ZS (Yg k7)]
  k_in
  exact ⟨_, by unfold told; rw [hD]⟩
 ·rw [w3]
  k_in
  refine ⟨s, ?_⟩
  by_cases c : ∀ e ∈ Ylr len tb, e.1.length = e.2.length
  ·rw [ZAF c]
   cases e : Yl6 (fun x => x) (pairsOf (Ylr len tb)) with
   | none => rfl
   | some r => exact absurd ⟨c, r, e⟩ w1
  ·rw [ZAE c]
def encL (AP : List Mk) : Mk -> P
 | .sg c => tx [c]
 | .pl u k => .int (AP.idxOf (Mk.pl u k) : Nat)
theorem YaR {AP : List Mk} (a : Mk) : YlW 8 (encL AP a) = true := by cases a <;> rfl
def InA (AP : List Mk) (m : Mk) : Prop := m.isS = true \/ m ∈ AP
theorem Ybo {AP : List Mk} {a b : Mk} (ha : a ∈ AP) (h : AP.idxOf a = AP.idxOf b) : a = b := by
 have h1 : AP.idxOf a < AP.length := ZAt ha
 have h2 : AP.idxOf b < AP.length := by omega
 have e1 : AP[AP.idxOf a] = a := ZBd h1
 have e2 : AP[AP.idxOf b] = b := ZBd h2
 rw [<- e1, <- e2]
 congr 1
theorem Yhq {AP : List Mk} {a b : Mk} (ha : InA AP a) (hb : InA AP b) (h : encL AP a = encL AP b) : a = b := by
 cases a with
 | sg c =>
  cases b with
  | sg d =>
   have h' : tx [c] = tx [d] := h
   unfold tx at h'
   injection h' with h'
   have : [c] = [d] := sT_inj.mp h'
   cases this; rfl
  | pl v j => unfold encL tx at h; cases h
 | pl u k =>
  cases b with
  | sg d => unfold encL tx at h; cases h
  | pl v j =>
   have h' : P.int (AP.idxOf (Mk.pl u k) : Nat) = P.int (AP.idxOf (Mk.pl v j) : Nat) := h
   injection h' with h'
   rcases ha with z | z
   ·cases z
   ·exact Ybo z (by omega)
theorem YiP {AP : List Mk} {a b : Mk} (ha : InA AP a) (hb : InA AP b) : neP (encL AP a) (encL AP b) st = some (.bl (!decide (a = b)), st) := by
 obtain ⟨c, e, h⟩ := Yey (st := st) (YaR (AP := AP) a) (YaR b)
 rw [e]
 by_cases z : a = b
 ·subst z; rw [ZAa rfl, h.mpr rfl]
 ·rw [ZAS z]
  cases c with
  | false => rfl
  | true => exact absurd (Yhq ha hb (h.mp rfl)) z
theorem VY {AP : List Mk} {a : Mk} (h : ρ[i]? = some (some (encL AP a))) : YlY "str" (Yll i) ρ st = .ok (.bl a.isS) st := by
 have e : Yll i ρ st = .ok (encL AP a) st := by unfold Yll; rw [h]
 rw [Ydj, e]
 cases a <;> rfl
def YlP (AP : List Mk) (a b : Mk) : Mk := if a.isS = true then a else if b.isS = true then b else if AP.idxOf b < AP.idxOf a then b else a
def YnS (l : Rp) (y m : Mk) : Rp := fun x => if x = y then m else l x
def Ynz (l : Rp) (y m : Mk) : Rp := if y.isS = true then l else YnS l y m
def rank (AP : List Mk) (m : Mk) : Nat := if m.isS = true then 0 else AP.idxOf m + 1
def mu (AP : List Mk) (l : Rp) : Nat := (AP.map fun x => rank AP (l x)).sum
structure Lab (AP : List Mk) (l : Rp) : Prop where
 sg : ∀ c, l (.sg c) = .sg c
 inn : ∀ x ∈ AP, InA AP (l x)
theorem Ydo {α : Type} {f g : α -> Nat} : ∀ {xs : List α}, (∀ x ∈ xs, f x <= g x) -> (xs.map f).sum <= (xs.map g).sum
 | [], _ => ZAI _
 | x :: xs, h => by
  have := Ydo (f := f) (g := g) (xs := xs) fun y hy => h y (ZAQ _ hy)
  have := h x (ZAM ..)
  rw [ZAX, ZAX, ZB3, ZB3]
  omega
theorem YgH {α : Type} {f g : α -> Nat} : ∀ {xs : List α}, (∀ x ∈ xs, f x <= g x) -> (∃ x ∈ xs, f x < g x) -> (xs.map f).sum < (xs.map g).sum
 | [], _, h => by obtain ⟨x, hx, _⟩ := h; cases hx
 | x :: xs, h, h2 => by
  have a := Ydo (f := f) (g := g) (xs := xs) fun y hy => h y (ZAQ _ hy)
  have b := h x (ZAM ..)
  rw [ZAX, ZAX, ZB3, ZB3]
  obtain ⟨y, hy, hlt⟩ := h2
  rcases ZAc.mp hy with rfl | hy
  ·omega
  ·have := YgH (f := f) (g := g) (xs := xs) (fun y hy => h y (ZAQ _ hy)) ⟨y, hy, hlt⟩
   omega
theorem YcE {AP : List Mk} {a b : Mk} (ha : InA AP a) (hb : InA AP b) : InA AP (YlP AP a b) := by
 unfold YlP
 split
 ·exact ha
 ·split
  ·exact hb
  ·split
   ·exact hb
   ·exact ha
theorem Yb4 {AP : List Mk} {a b : Mk} : YlP AP a b = a \/ YlP AP a b = b := by
 unfold YlP
 split
 ·exact .inl rfl
 ·split
  ·exact .inr rfl
  ·split
   ·exact .inr rfl
   ·exact .inl rfl
theorem Ydx {AP : List Mk} {a b : Mk} : rank AP (YlP AP a b) <= rank AP a /\ rank AP (YlP AP a b) <= rank AP b := by
 unfold YlP rank
 cases ha : a.isS with
 | true => simp [ha]
 | false =>
  cases hb : b.isS with
  | true => simp [ha, hb]
  | false =>
   by_cases h : AP.idxOf b < AP.idxOf a
   ·simp [ha, hb, h]; omega
   ·simp [ha, hb, h]; omega
theorem Yg0 {AP : List Mk} {a b : Mk} (ha : InA AP a) (hb : InA AP b) (hn : ¬ (a.isS = true /\ b.isS = true)) (h : rank AP a = rank AP b) : a = b := by
 unfold rank at h
 cases ea : a.isS with
 | true =>
  cases eb : b.isS with
  | true => exact absurd ⟨ea, eb⟩ hn
  | false => rw [ZAF ea, ZAE (by rw [eb]; decide)] at h; omega
 | false =>
  cases eb : b.isS with
  | true => rw [ZAF eb, ZAE (by rw [ea]; decide)] at h; omega
  | false =>
   rw [ZAE (by rw [ea]; decide), ZAE (by rw [eb]; decide)] at h
   rcases ha with z | z
   ·rw [ea] at z; cases z
   ·exact Ybo z (by omega)
def YmR (AP : List Mk) (l : Rp) (a b : Mk) : Rp := Ynz (Ynz l a (YlP AP (l a) (l b))) b (YlP AP (l a) (l b))
theorem WB {AP : List Mk} {l : Rp} {a b x : Mk} : YmR AP l a b x = if (x = a \/ x = b) /\ x.isS = false then YlP AP (l a) (l b) else l x := by
 unfold YmR Ynz
 by_cases ha : a.isS = true
 ·by_cases hb : b.isS = true
  ·rw [ZAF ha, ZAF hb, ZAE]
   rintro ⟨z | z, y⟩
   ·rw [z, ha] at y; cases y
   ·rw [z, hb] at y; cases y
  ·rw [ZAE hb, ZAF ha]
   unfold YnS
   by_cases e : x = b
   ·rw [if_pos e, if_pos ⟨.inr e, by rw [e]; simpa using hb⟩]
   ·rw [ZAE e, ZAE]
    rintro ⟨z | z, y⟩
    ·rw [z, ha] at y; cases y
    ·exact e z
 ·by_cases hb : b.isS = true
  ·rw [ZAF hb, ZAE ha]
   unfold YnS
   by_cases e : x = a
   ·rw [if_pos e, if_pos ⟨.inl e, by rw [e]; simpa using ha⟩]
   ·rw [ZAE e, ZAE]
    rintro ⟨z | z, y⟩
    ·exact e z
    ·rw [z, hb] at y; cases y
  ·rw [ZAE hb, ZAE ha]
   unfold YnS
   by_cases e : x = b
   ·rw [if_pos e, if_pos ⟨.inr e, by rw [e]; simpa using hb⟩]
   ·rw [ZAE e]
    by_cases e2 : x = a
    ·rw [if_pos e2, if_pos ⟨.inl e2, by rw [e2]; simpa using ha⟩]
    ·rw [ZAE e2, ZAE]
     rintro ⟨z | z, y⟩
     ·exact e2 z
     ·exact e z
theorem WT {AP : List Mk} {l : Rp} (L : Lab AP l) {x : Mk} (h : InA AP x) : InA AP (l x) := by
 rcases h with z | z
 ·obtain ⟨c, rfl⟩ := isS_iff.mp z
  rw [L.sg]; exact .inl rfl
 ·exact L.inn x z
theorem Yd9 {AP : List Mk} {l : Rp} {a b : Mk} (L : Lab AP l) (ha : InA AP a) (hb : InA AP b) : Lab AP (YmR AP l a b) where
 sg := fun c => by rw [WB, ZAE (fun z => by have := z.2; cases this)]; exact L.sg c
 inn := fun x hx => by
  rw [WB]
  split
  ·exact YcE (WT L ha) (WT L hb)
  ·exact L.inn x hx
theorem Yez {AP : List Mk} {l f : Rp} {a b : Mk} (hab : f a = f b) (u : ∀ x, f (l x) = f x) (x : Mk) : f (YmR AP l a b x) = f x := by
 rw [WB]
 split
 ·rename_i c
  have e : f (YlP AP (l a) (l b)) = f a := by
   rcases Yb4 (AP := AP) (a := l a) (b := l b) with z | z
   ·rw [z, u]
   ·rw [z, u, hab]
  rw [e]
  rcases c.1 with z | z
  ·rw [z]
  ·rw [z, hab]
 ·exact u x
theorem Yhg {AP : List Mk} {l : Rp} {a b : Mk} (L : Lab AP l) (ha : InA AP a) (hb : InA AP b) (hne : l a ≠ l b) (hns : ¬ ((l a).isS = true /\ (l b).isS = true)) : mu AP (YmR AP l a b) < mu AP l := by
 have hr := Ydx (AP := AP) (a := l a) (b := l b)
 refine YgH (fun x hx => ?_) ?_
 ·show rank AP (YmR AP l a b x) <= rank AP (l x)
  rw [WB]
  split
  ·rename_i c
   rcases c.1 with z | z
   ·rw [z]; exact hr.1
   ·rw [z]; exact hr.2
  ·exact ZAI _
 ·have la := WT L ha
  have lb := WT L hb
  have key : ∀ y z : Mk, InA AP y -> (y = a \/ y = b) -> l y ≠ YlP AP (l a) (l b) -> rank AP (YlP AP (l a) (l b)) <= rank AP (l y) -> ∃ x ∈ AP, rank AP (YmR AP l a b x) < rank AP (l x) := by
   intro y _ hy hyab hyn hyr
   have hyp : y.isS = false := by
    cases e : y.isS with
    | false => rfl
    | true =>
     exfalso
     obtain ⟨c, rfl⟩ := isS_iff.mp e
     apply hyn
     rw [L.sg]
     unfold YlP
     rcases hyab with z | z
     ·rw [<- z, L.sg, ZAF (show (Mk.sg c).isS = true from rfl)]
     ·have : (l b) = .sg c := by rw [<- z]; exact L.sg c
      have hna : (l a).isS = false := by
       cases ea : (l a).isS with
       | false => rfl
       | true => exact absurd ⟨ea, by rw [this]; rfl⟩ hns
      rw [ZAE (by rw [hna]; decide), this, ZAF (show (Mk.sg c).isS = true from rfl)]
   have hyA : y ∈ AP := by
    rcases hy with z | z
    ·rw [hyp] at z; cases z
    ·exact z
   refine ⟨y, hyA, ?_⟩
   rw [WB, ZAF ⟨hyab, hyp⟩]
   rcases Nat.lt_or_ge (rank AP (YlP AP (l a) (l b))) (rank AP (l y)) with h | h
   ·exact h
   ·exfalso
    refine hyn (Yg0 (L.inn y hyA) (YcE la lb) ?_ (by omega))
    rintro ⟨z1, z2⟩
    rcases Yb4 (AP := AP) (a := l a) (b := l b) with w | w
    ·rcases hyab with q | q
     ·rw [q, w] at hyn; exact hyn rfl
     ·rw [w] at z2; rw [q] at z1; exact hns ⟨z2, z1⟩
    ·rcases hyab with q | q
     ·rw [w] at z2; rw [q] at z1; exact hns ⟨z1, z2⟩
     ·rw [q, w] at hyn; exact hyn rfl
  by_cases h : l a = YlP AP (l a) (l b)
  ·exact key b a hb (.inr rfl) (fun z => hne (h.trans z.symm)) hr.2
  ·exact key a b ha (.inl rfl) h hr.1
theorem YhF {AP : List Mk} {a b : Mk} : YX [encL AP a, encL AP b] st = .ok (encL AP (YlP AP a b)) st := by
 unfold YX Wv YlP
 cases a with
 | sg c =>
  unfold encL
  k_in
  rfl
 | pl u k =>
  cases b with
  | sg c =>
   unfold encL
   k_in
   rfl
  | pl v j =>
   unfold encL
   k_in
   by_cases h : AP.idxOf (Mk.pl v j) < AP.idxOf (Mk.pl u k)
   ·rw [ZAF (by omega)]
    simp [Mk.isS, h]
   ·rw [ZAE (by omega)]
    simp [Mk.isS, h]
theorem YhN {AP : List Mk} {l : Rp} {y m : Mk} (nd : AP.Nodup) (hy : y ∈ AP) : (AP.map fun x => encL AP (l x)).set (AP.idxOf y) (encL AP m) = AP.map fun x => encL AP (YnS l y m x) := by
 have hlt := ZAt hy
 apply ZCL
 ·simp
 ·intro i h1 h2
  rw [List.getElem_set]
  by_cases e : AP.idxOf y = i
  ·subst e
   rw [ZAF rfl, ZBr]
   unfold YnS
   rw [ZBd hlt, ZAF rfl]
  ·rw [ZAE e, ZBr, ZBr]
   have hi : i < AP.length := by simpa using h2
   have : ¬ AP[i] = y := fun z => e (by rw [<- z]; exact nd.idxOf_getElem i hi)
   unfold YnS
   rw [ZAE this]
theorem Yiv {AP : List Mk} {l : Rp} {y m : Mk} (h : y.isS = true) : (AP.map fun x => encL AP (Ynz l y m x)) = AP.map fun x => encL AP (l x) := by unfold Ynz; rw [if_pos h]
section
variable {AP : List Mk}
theorem YiO {a : Mk} {l : Rp} (L : Lab AP l) (ha : InA AP a) (hk : st[kh]? = some (.lst (AP.map fun x => encL AP (l x)))) (h2 : ρ[2]? = some (some (.ref kh))) (hi : ρ[i]? = some (some (encL AP a))) :
 eIf (YlQ (YlY "str" (Yll i))) (Yll i) (Ylq ixP (Yll 2) (Yll i)) ρ st = .ok (encL AP (l a)) st := by
 have e : Yll i ρ st = .ok (encL AP a) st := by unfold Yll; rw [hi]
 have e2 : Yll 2 ρ st = .ok (.ref kh) st := by unfold Yll; rw [h2]
 rw [YgF, Z4, VY hi]
 cases a with
 | sg c =>
  rw [L.sg]
  simp only [R.bind_ok, Wb, Mk.isS, if_true]
  exact e
 | pl u k =>
  have hm : Mk.pl u k ∈ AP := by rcases ha with z | z; · cases z
                                 ·exact z
  have hlt := ZAt hm
  simp only [R.bind_ok, Wb, Mk.isS, Bool.false_eq_true, if_false, YdD, e2, e]
  have : ixP (.ref kh) (encL AP (.pl u k)) st = some (encL AP (l (.pl u k)), st) := ZB hk (by omega) (by
   rw [ZA0, ZAZ, ZAT hlt, ZBd hlt]
   rfl)
  show 53
theorem Yd3 {y : Mk} {l : Rp} {a b : Mk} (nd : AP.Nodup) (hy : InA AP y) (hk : st[kh]? = some (.lst (AP.map fun x => encL AP (l x)))) :
 YC [v0, v1, some (.ref kh), v3, v4, v5, some (encL AP a), some (encL AP b), some (encL AP y)] st = .nx [v0, v1, some (.ref kh), v3, v4, v5, some (encL AP a), some (encL AP b), some (encL AP y)] (st.set kh (.lst (AP.map fun x => encL AP (Ynz l y (YlP AP a b) x)))) := by
 have hset : st.set kh (.lst (AP.map fun x => encL AP (l x))) = st := by
  obtain ⟨h1, h2⟩ := ZAB.mp hk
  rw [<- h2, ZBQ]
 unfold YC
 rw [Wz, Vp, Z4, VY (a := y) rfl]
 simp only [R.bind_ok, Wb, RS.ofE_ok]
 cases hs : y.isS with
 | true =>
  rw [ZBa, ZAE ZAO, WO, Yiv hs, hset]
 | false =>
  rw [ZBU, ZAF rfl]
  have hm : y ∈ AP := by rcases hy with z | z; · rw [hs] at z; cases z
                         ·exact z
  have hlt := ZAt hm
  obtain ⟨u, k, rfl⟩ : ∃ u k, y = .pl u k := by cases y with | sg c => cases hs | pl u k => exact ⟨u, k, rfl⟩
  k_in
  rw [YhF]
  k_in
  have : Ynn (.ref kh) (encL AP (.pl u k)) (encL AP (YlP AP a b)) st = some (st.set kh (.lst (AP.map fun x => encL AP (Ynz l (.pl u k) (YlP AP a b) x)))) := by
   show Ynn (.ref kh) (.int (AP.idxOf (Mk.pl u k) : Nat)) _ st = _
   rw [Ya1 hk (by omega) (by rw [ZAK]; omega), ZA0, YhN nd hm]
   rfl
  show 164
end
def enc2 (AP : List Mk) (p : Mk × Mk) : P := .tup [encL AP p.1, encL AP p.2]
abbrev hold (AP : List Mk) (l : Rp) : O := .lst (AP.map fun x => encL AP (l x))
section
variable {AP : List Mk}
theorem YeU {l : Rp} {a b : Mk} {ch : Bool} (nd : AP.Nodup) (L : Lab AP l) (ha : InA AP a) (hb : InA AP b) (hk : st[kh]? = some (hold AP l)) :
 (((l a).isS = true /\ (l b).isS = true /\ l a ≠ l b) -> Yu [v0, v1, some (.ref kh), some (.bl ch), some (encL AP a), some (encL AP b), v6, v7, v8] st = .rt .non st) /\
 (l a = l b -> Yu [v0, v1, some (.ref kh), some (.bl ch), some (encL AP a), some (encL AP b), v6, v7, v8] st = .nx [v0, v1, some (.ref kh), some (.bl ch), some (encL AP a), some (encL AP b), some (encL AP (l a)), some (encL AP (l b)), v8] st) /\
 (l a ≠ l b -> ¬ ((l a).isS = true /\ (l b).isS = true) -> ∃ w8 s', Yu [v0, v1, some (.ref kh), some (.bl ch), some (encL AP a), some (encL AP b), v6, v7, v8] st = .nx [v0, v1, some (.ref kh), some (.bl true), some (encL AP a), some (encL AP b), some (encL AP (l a)), some (encL AP (l b)), w8] s' /\ s'[kh]? = some (hold AP (YmR AP l a b)) /\ ∀ k o, k ≠ kh -> st[k]? = some o -> s'[k]? = some o) := by
 have la := WT L ha
 have lb := WT L hb
 have hkl : kh < st.length := (ZAB.mp hk).1
 generalize hρ : [v0, v1, some (P.ref kh), some (P.bl ch), some (encL AP a), some (encL AP b), some (encL AP (l a)), some (encL AP (l b)), v8] = ρ
 have t1 : YlQ (YlY "str" (Yll 6)) ρ st = .ok (l a).isS st := by rw [Z4, VY (AP := AP) (a := l a) (by rw [<- hρ]; rfl)]; rfl
 have t2 : YlQ (YlY "str" (Yll 7)) ρ st = .ok (l b).isS st := by rw [Z4, VY (AP := AP) (a := l b) (by rw [<- hρ]; rfl)]; rfl
 have t3 : Yl0 (Ylq neP (Yll 6) (Yll 7)) ρ st = .ok (!decide (l a = l b)) st := by
  rw [<- hρ]
  k_in
  rw [YiP la lb]
  rfl
 have base : Yu [v0, v1, some (.ref kh), some (.bl ch), some (encL AP a), some (encL AP b), v6, v7, v8] st =
  (Ylt (sIf (YmM (YlQ (YlY "str" (Yll 6))) (YmM (YlQ (YlY "str" (Yll 7))) (Yl0 (Ylq neP (Yll 6) (Yll 7)))))
 (sRet (eC .non))
 Yl8)
 (sIf (Yl0 (Ylq neP (Yll 6) (Yll 7)))
 (Ylt (YlB 3 (eC (.bl true)))
 (sFor (YmF (Ymo (lMk (Ylm (Yll 4) (Ylm (Yll 5) Yls))))) (Ylp 8)
 YC))
 Yl8)) ρ st := by
  unfold Yu
  rw [Z2, YbR, YiO (AP := AP) (a := a) L ha hk rfl rfl, RS.ofE_ok, RS.seq_nx, Z2, YbR, YiO (AP := AP) (a := b) L hb hk rfl rfl, RS.ofE_ok, RS.seq_nx, <- hρ]
  rfl
 rw [base]
 have test : YmM (YlQ (YlY "str" (Yll 6))) (YmM (YlQ (YlY "str" (Yll 7))) (Yl0 (Ylq neP (Yll 6) (Yll 7)))) ρ st = .ok ((l a).isS && ((l b).isS && !decide (l a = l b))) st := by
  rw [JB, t1, R.bind_ok]
  cases (l a).isS with
  | false => rfl
  | true =>
   rw [ZAF rfl, JB, t2, R.bind_ok]
   cases (l b).isS with
   | false => rfl
   | true => rw [ZAF rfl, t3]; rfl
 rw [Z2, Wz, test, RS.ofE_ok]
 refine ⟨fun ⟨z1, z2, z3⟩ => ?_, fun z => ?_, fun z1 z2 => ?_⟩
 ·rw [z1, z2, ZAS z3]
  rfl
 ·rw [z, ZAa rfl]
  have : ((l b).isS && ((l b).isS && !true)) = false := by cases (l b).isS <;> rfl
  rw [this, ZAE ZAO, WO, RS.seq_nx, Wz, t3, RS.ofE_ok, ZAa z, ZBa, ZAE ZAO, WO, <- hρ, z]
 ·have : ((l a).isS && ((l b).isS && !decide (l a = l b))) = false := by
   cases e1 : (l a).isS with
   | false => rfl
   | true =>
    cases e2 : (l b).isS with
    | false => rfl
    | true => exact absurd ⟨e1, e2⟩ z2
  rw [this, ZAE ZAO, WO, RS.seq_nx, Wz, t3, RS.ofE_ok, ZAS z1, ZBU, ZAF rfl, <- hρ]
  k_in
  rw [Zd (Yg Yq)]
  k_in
  have hB : st ++ [O.lst [encL AP a, encL AP b]] = st ++ [O.lst ([a, b].map (encL AP))] := rfl
  rw [hB]
  obtain ⟨ρ', s', f1, w8, f2, f3, f4⟩ := YH (src := YmI st.length 2) (g := Ylp 8) (m := YC) (N := 2) (ρ := [v0, v1, some (.ref kh), some (.bl true), some (encL AP a), some (encL AP b), some (encL AP (l a)), some (encL AP (l b)), v8]) (st := st ++ [O.lst ([a, b].map (encL AP))]) [a, b] (encL AP)
   (fun i ρ s => ∃ w8, ρ = [v0, v1, some (.ref kh), some (.bl true), some (encL AP a), some (encL AP b), some (encL AP (l a)), some (encL AP (l b)), w8] /\ s[kh]? = some (hold AP (([l, Ynz l a (YlP AP (l a) (l b)), YmR AP l a b][i]?).getD l)) /\ ∀ k o, k ≠ kh -> (st ++ [O.lst ([a, b].map (encL AP))])[k]? = some o -> s[k]? = some o) rfl
   (fun i ρ s hi ⟨_, _, _, g⟩ => nxK (Yg (g _ _ (by omega) Yq))) ⟨v8, rfl, Ylx.one.get hk, fun k o _ h => h⟩
   (fun i hi ρ s ⟨w8, q1, q2, q3⟩ => by
    show 20
    have hks : kh < s.length := (ZAB.mp q2).1
    have hi2 : i = 0 \/ i = 1 := by have : i < 2 := hi; omega
    rcases hi2 with rfl | rfl
    ·refine ⟨_, _, Yd3 (AP := AP) (y := a) (l := l) (a := l a) (b := l b) nd ha q2, _, rfl, ZAR hks, fun k o hk ho => by rw [ZAL (ZAs hk)]; exact q3 k o hk ho⟩
    ·refine ⟨_, _, Yd3 (AP := AP) (y := b) (l := Ynz l a (YlP AP (l a) (l b))) (a := l a) (b := l b) nd hb q2, _, rfl, ZAR hks, fun k o hk ho => by rw [ZAL (ZAs hk)]; exact q3 k o hk ho⟩)
  rw [f1, f2]
  exact ⟨w8, s', rfl, f3, fun k o hk ho => f4 k o hk (Ylx.one.get ho)⟩
theorem pass {l : Rp} {ps : List (Mk × Mk)} {v0 : Option P} (nd : AP.Nodup) (L : Lab AP l) (U : Uni l ps) (hin : ∀ p ∈ ps, InA AP p.1 /\ InA AP p.2) (hk : st[kh]? = some (hold AP l)) (hp : st[kp]? = some (.lst (ps.map (enc2 AP)))) (hne : kp ≠ kh) :
 ∀ R, R = Yl [some (.ref kp), v1, some (.ref kh), v3, v4, v5, v6, v7, v8] st ->
  (∃ s, R = .rt .non s /\ (∀ f, ¬ Con f ps) /\ (∀ k o, k ≠ kh -> st[k]? = some o -> s[k]? = some o)) \/
  (∃ l' ch w4 w5 w6 w7 w8 s, R = .nx [some (.ref kp), v1, some (.ref kh), some (.bl ch), w4, w5, w6, w7, w8] s /\ s[kh]? = some (hold AP l') /\ (∀ k o, k ≠ kh -> st[k]? = some o -> s[k]? = some o) /\ Lab AP l' /\ Uni l' ps /\ ((ch = false /\ Con l' ps) \/ (ch = true /\ mu AP l' < mu AP l))) := by
 intro R hR
 subst hR
 unfold Yl
 rw [Z2, YbR, x_eC, RS.ofE_ok, RS.seq_nx]
 simp only [List.set_cons_succ, List.set_cons_zero]
 rw [YdE, Yho, VZ]
 simp only [List.getElem?_cons_zero, R.bind_ok]
 rw [Zd (Yg hp)]
 simp only [RS.ofE_ok, List.length_map]
 rw [show (YmI kp ps.length).n = ps.length from rfl]
 refine VE (src := YmI kp ps.length) (g := Yma 2 (YlD (Ylp 4) (YlD (Ylp 5) Ymg))) (m := Yu) ps.length
  (fun i ρ s => ∃ l' ch w4 w5 w6 w7 w8, ρ = [some (.ref kp), v1, some (.ref kh), some (.bl ch), w4, w5, w6, w7, w8] /\ s[kh]? = some (hold AP l') /\ (∀ k o, k ≠ kh -> st[k]? = some o -> s[k]? = some o) /\ Lab AP l' /\ Uni l' ps /\ ((ch = false /\ l' = l /\ ∀ p ∈ ps.take i, l p.1 = l p.2) \/ (ch = true /\ mu AP l' < mu AP l)))
  (fun R => (∃ s, R = .rt .non s /\ (∀ f, ¬ Con f ps) /\ (∀ k o, k ≠ kh -> st[k]? = some o -> s[k]? = some o)) \/
   (∃ l' ch w4 w5 w6 w7 w8 s, R = .nx [some (.ref kp), v1, some (.ref kh), some (.bl ch), w4, w5, w6, w7, w8] s /\ s[kh]? = some (hold AP l') /\ (∀ k o, k ≠ kh -> st[k]? = some o -> s[k]? = some o) /\ Lab AP l' /\ Uni l' ps /\ ((ch = false /\ Con l' ps) \/ (ch = true /\ mu AP l' < mu AP l))))
  (fun i ρ s hi ⟨l', ch, w4, w5, w6, w7, w8, q1, q2, q3, q4, q5, q6⟩ => ?_) (fun ρ s ⟨l', ch, w4, w5, w6, w7, w8, q1, q2, q3, q4, q5, q6⟩ => ?_) ps.length 0 _ _ (by omega) ⟨l, false, v4, v5, v6, v7, v8, rfl, hk, fun k o _ h => h, L, U, .inl ⟨rfl, rfl, fun p h => (by simp at h)⟩⟩
 ·subst q1
  obtain ⟨ha, hb⟩ := hin _ (ZAb hi)
  refine ⟨enc2 AP ps[i], _, by rw [nxK (Yg (q3 kp _ hne hp)), ZAT hi]; rfl, rfl, ?_⟩
  obtain ⟨c1, c2, c3⟩ := YeU (st := s) (l := l') (a := ps[i].1) (b := ps[i].2) (ch := ch) (v0 := some (.ref kp)) (v1 := v1) (v6 := w6) (v7 := w7) (v8 := w8) nd q4 ha hb q2
  by_cases e : l' ps[i].1 = l' ps[i].2
  ·rw [show ((([some (P.ref kp), v1, some (P.ref kh), some (P.bl ch), w4, w5, w6, w7, w8] : Rho).set 4 (some (encL AP ps[i].1))).set 5 (some (encL AP ps[i].2))) = [some (.ref kp), v1, some (.ref kh), some (.bl ch), some (encL AP ps[i].1), some (encL AP ps[i].2), w6, w7, w8] from rfl, c2 e]
   refine ⟨l', ch, _, _, _, _, _, rfl, q2, q3, q4, q5, ?_⟩
   rcases q6 with ⟨z1, z2, z3⟩ | z
   ·refine .inl ⟨z1, z2, fun p hp' => ?_⟩
    rw [ZAW hi] at hp'
    rcases ZAh.mp hp' with y | y
    ·exact z3 p y
    ·rw [ZAd.mp y, <- z2]; exact e
   ·exact .inr z
  ·by_cases e2 : (l' ps[i].1).isS = true /\ (l' ps[i].2).isS = true
   ·rw [show ((([some (P.ref kp), v1, some (P.ref kh), some (P.bl ch), w4, w5, w6, w7, w8] : Rho).set 4 (some (encL AP ps[i].1))).set 5 (some (encL AP ps[i].2))) = [some (.ref kp), v1, some (.ref kh), some (.bl ch), some (encL AP ps[i].1), some (encL AP ps[i].2), w6, w7, w8] from rfl, c1 ⟨e2.1, e2.2, e⟩]
    refine .inl ⟨s, rfl, fun f cf => ?_, q3⟩
    obtain ⟨c, hc⟩ := isS_iff.mp e2.1
    obtain ⟨d, hd⟩ := isS_iff.mp e2.2
    have u1 := q5 f cf ps[i].1
    have u2 := q5 f cf ps[i].2
    rw [hc, cf.sg] at u1
    rw [hd, cf.sg] at u2
    have u3 := cf.eq ps[i] (ZAb hi)
    rw [<- u1, <- u2] at u3
    exact e (by rw [hc, hd, u3])
   ·obtain ⟨w8', s', d1, d2, d3⟩ := c3 e e2
    rw [show ((([some (P.ref kp), v1, some (P.ref kh), some (P.bl ch), w4, w5, w6, w7, w8] : Rho).set 4 (some (encL AP ps[i].1))).set 5 (some (encL AP ps[i].2))) = [some (.ref kp), v1, some (.ref kh), some (.bl ch), some (encL AP ps[i].1), some (encL AP ps[i].2), w6, w7, w8] from rfl, d1]
    have hmu := Yhg q4 ha hb e e2
    refine ⟨YmR AP l' ps[i].1 ps[i].2, true, _, _, _, _, _, rfl, d2, fun k o z1 z2 => d3 k o z1 (q3 k o z1 z2), Yd9 q4 ha hb, fun f cf => Yez (cf.eq ps[i] (ZAb hi)) (q5 f cf), .inr ⟨rfl, ?_⟩⟩
    rcases q6 with ⟨_, z2, _⟩ | ⟨_, z⟩
    ·rw [<- z2]; exact hmu
    ·omega
 ·subst q1
  refine ⟨by rw [nxK (Yg (q3 kp _ hne hp)), ZA1 (ZAI _)]; rfl, .inr ⟨l', ch, w4, w5, w6, w7, w8, s, rfl, q2, q3, q4, q5, ?_⟩⟩
  rcases q6 with ⟨z1, z2, z3⟩ | z
  ·rw [ZAo] at z3
   exact .inl ⟨z1, q4.sg, by rw [z2]; exact z3⟩
  ·exact .inr z
end
def Ym1 (a b : Ylo) : Prop := ∀ (k : Nat) (o : O), a[k]? = some o -> b[k]? = some o
theorem Ym1.refl {a : Ylo} : Ym1 a a := fun _ _ h => h
theorem Ym1.trans {a b c : Ylo} (h : Ym1 a b) (g : Ym1 b c) : Ym1 a c := fun k o e => g k o (h k o e)
theorem Ylx.keep {a b : Ylo} (h : Ylx a b) : Ym1 a b := fun k o e => h.get e
section
variable {AP : List Mk}
theorem YaN {st : Ylo} {ps : List (Mk × Mk)} {v1 : Option P} (nd : AP.Nodup) (hin : ∀ p ∈ ps, InA AP p.1 /\ InA AP p.2) (hp : st[kp]? = some (.lst (ps.map (enc2 AP)))) (hne : kp ≠ kh) :
 ∀ (f : Nat) (l : Rp) (s : Ylo) (v4 v5 v6 v7 v8 : Option P), mu AP l + 1 < f -> Lab AP l -> Uni l ps -> s[kh]? = some (hold AP l) -> (∀ k o, k ≠ kh -> st[k]? = some o -> s[k]? = some o) ->
  (∃ s', Yl7 (YlQ (Yll 3)) Yl f [some (.ref kp), v1, some (.ref kh), some (.bl true), v4, v5, v6, v7, v8] s = .rt .non s' /\ (∀ g, ¬ Con g ps) /\ (∀ k o, k ≠ kh -> st[k]? = some o -> s'[k]? = some o)) \/
  (∃ l' w3 w4 w5 w6 w7 w8 s', Yl7 (YlQ (Yll 3)) Yl f [some (.ref kp), v1, some (.ref kh), some (.bl true), v4, v5, v6, v7, v8] s = .nx [some (.ref kp), v1, some (.ref kh), w3, w4, w5, w6, w7, w8] s' /\ s'[kh]? = some (hold AP l') /\ (∀ k o, k ≠ kh -> st[k]? = some o -> s'[k]? = some o) /\ Lab AP l' /\ Uni l' ps /\ Con l' ps)
 | 0, l, s, v4, v5, v6, v7, v8, h, _, _, _, _ => by omega
 | f + 1, l, s, v4, v5, v6, v7, v8, h, L, U, hk, hs => by
  have ct : ∀ (b : Bool) (w4 w5 w6 w7 w8 : Option P) (s : Ylo), YlQ (Yll 3) [some (.ref kp), v1, some (.ref kh), some (.bl b), w4, w5, w6, w7, w8] s = .ok b s := fun b w4 w5 w6 w7 w8 s => rfl
  have hw : ∀ (n : Nat) (w4 w5 w6 w7 w8 : Option P) (s : Ylo), Yl7 (YlQ (Yll 3)) Yl (n + 1) [some (.ref kp), v1, some (.ref kh), some (.bl true), w4, w5, w6, w7, w8] s = (match Yl [some (.ref kp), v1, some (.ref kh), some (.bl true), w4, w5, w6, w7, w8] s with
   | .nx ρ' st' => Yl7 (YlQ (Yll 3)) Yl n ρ' st'
   | .ct ρ' st' => Yl7 (YlQ (Yll 3)) Yl n ρ' st'
   | .bk ρ' st' => .nx ρ' st'
   | r => r) := fun n w4 w5 w6 w7 w8 s => by
   conv => lhs; unfold Yl7
   rw [ct, RS.ofE_ok, ZAF rfl]
   all_goals rfl
  rcases pass (kp := kp) (kh := kh) (v0 := none) (v1 := v1) (v3 := some (.bl true)) (v4 := v4) (v5 := v5) (v6 := v6) (v7 := v7) (v8 := v8) nd L U hin hk (hs kp _ hne hp) hne _ rfl with ⟨s', e1, e2, e3⟩ | ⟨l', ch, w4, w5, w6, w7, w8, s', e1, e2, e3, e4, e5, e6⟩
  ·refine .inl ⟨s', ?_, e2, fun k o a b => e3 k o a (hs k o a b)⟩
   rw [hw, e1]
  ·rcases e6 with ⟨rfl, z⟩ | ⟨rfl, z⟩
   ·refine .inr ⟨l', some (.bl false), w4, w5, w6, w7, w8, s', ?_, e2, fun k o a b => e3 k o a (hs k o a b), e4, e5, z⟩
    rw [hw, e1]
    obtain ⟨g, rfl⟩ : ∃ g, f = g + 1 := ⟨f - 1, by omega⟩
    show Yl7 (YlQ (Yll 3)) Yl (g + 1) _ s' = _
    simp only [Yl7, ct, RS.ofE_ok, Bool.false_eq_true, if_false]
   ·have ih := YaN (v1 := v1) nd hin hp hne f l' s' w4 w5 w6 w7 w8 (by omega) e4 e5 e2 (fun k o a b => e3 k o a (hs k o a b))
    rw [hw, e1]
    exact ih
theorem Yk2 {l : Rp} (L : Lab AP l) : mu AP l <= AP.length * (AP.length + 1) := by
 have : mu AP l <= (AP.map fun _ => AP.length + 1).sum := Ydo fun x hx => by
  show rank AP (l x) <= AP.length + 1
  unfold rank
  split
  ·omega
  ·rename_i c
   rcases L.inn x hx with z | z
   ·exact absurd z c
   ·have := ZAt z; omega
 refine ZAV this ?_
 have key : ∀ (xs : List Mk) (n : Nat), (xs.map fun _ => n).sum = xs.length * n := by
  intro xs n
  induction xs with
  | nil => simp
  | cons x xs ih => rw [ZAX, ZB3, ih, ZA2, Nat.add_mul]; omega
 rw [key]
 exact ZAI _
theorem Ye6 {ps : List (Mk × Mk)} (nd : AP.Nodup) (hpl : ∀ x ∈ AP, x.isS = false) (hin : ∀ p ∈ ps, InA AP p.1 /\ InA AP p.2) (hp : st[kp]? = some (.lst (ps.map (enc2 AP)))) (hl : AP.length <= 520) :
 (∃ s', Ys [.ref kp, .int (AP.length : Nat)] st = .ok .non s' /\ (∀ g, ¬ Con g ps) /\ Ym1 st s') \/
 (∃ l s', Ys [.ref kp, .int (AP.length : Nat)] st = .ok (.ref st.length) s' /\ s'[st.length]? = some (hold AP l) /\ Ym1 st s' /\ Lab AP l /\ Uni l ps /\ Con l ps) := by
 have hkp : kp < st.length := (ZAB.mp hp).1
 have L0 : Lab AP (fun x => x) := ⟨fun _ => rfl, fun x hx => .inr hx⟩
 have U0 : Uni (fun x => x) ps := fun f _ x => rfl
 have e0 : (List.range AP.length).map (fun (k : Nat) => P.int (0 + k)) = AP.map fun x => encL AP x := by
  apply ZCL
  ·simp
  ·intro i h1 h2
   have hi : i < AP.length := by simpa using h2
   rw [ZBr, ZBr, List.getElem_range, ZCe]
   have hs := hpl AP[i] (ZAb hi)
   have hx : AP.idxOf AP[i] = i := nd.idxOf_getElem i hi
   cases e : AP[i] with
   | sg c => rw [e] at hs; cases hs
   | pl u k => rw [e] at hx; show P.int (i : Nat) = P.int (AP.idxOf (Mk.pl u k) : Nat); rw [hx]
 have hm := Yk2 L0
 have hm2 : AP.length * (AP.length + 1) <= 520 * 521 := Nat.mul_le_mul hl (by omega)
 have elist : Ynu (Ylm (Yll 1) Yls) [some (.ref kp), some (.int (AP.length : Nat)), none, none, none, none, none, none, none] st = .ok (.ref st.length) (st ++ [hold AP fun x => x]) := by
  rw [Yf8]
  simp -implicitDefEqProofs only [Jw, Ybw, VZ, List.getElem?_cons_succ, List.getElem?_cons_zero, R.bind_ok, Int.toNat_natCast]
  rw [ZAF ⟨Ycg (by omega) (by omega), by show _ <= 1000000; omega⟩]
  have : Ynf AP.length = AP.map fun x => encL AP x := by
   rw [<- e0]
   unfold Ynf
   apply ZBZ
   intro k _
   rw [ZCe]
  show 164
 unfold Ys Zu
 k_in
 rw [elist]
 k_in
 have hw := YaN (AP := AP) (kp := kp) (kh := st.length) (st := st ++ [hold AP fun x => x]) (ps := ps) (v1 := some (.int (AP.length : Nat))) nd hin (Ylx.one.get hp) (by omega) turns (fun x => x) (st ++ [hold AP fun x => x]) none none none none none (by show _ < 1000000; omega) L0 U0 Yq (fun k o _ h => h)
 rcases hw with ⟨s', e1, e2, e3⟩ | ⟨l', w3, w4, w5, w6, w7, w8, s', e1, e2, e3, e4, e5, e6⟩
 ·refine .inl ⟨s', ?_, e2, fun k o h => e3 k o (by have := (ZAB.mp h).1; omega) (Ylx.one.get h)⟩
  rw [show YmZ (YlQ (Yll 3)) Yl [some (.ref kp), some (.int (AP.length : Nat)), some (.ref st.length), some (.bl true), none, none, none, none, none] (st ++ [hold AP fun x => x]) = _ from e1]
  k_in
 ·refine .inr ⟨l', s', ?_, e2, fun k o h => ?_, e4, e5, e6⟩
  ·rw [show YmZ (YlQ (Yll 3)) Yl [some (.ref kp), some (.int (AP.length : Nat)), some (.ref st.length), some (.bl true), none, none, none, none, none] (st ++ [hold AP fun x => x]) = _ from e1]
   k_in
  ·have hk : k < st.length := (ZAB.mp h).1
   exact e3 k o (by omega) (Ylx.one.get h)
end
structure PD (AP : List Mk) (N : List Nat) (len : Nat -> Nat) (st : Ylo) (kvs : List (Key × P)) : Prop where
 on : ∀ u ∈ N, ∃ q, YlL kvs (tkey [u]) = some (.ref q) /\ st[q]? = some (.lst (((List.range (len u)).map (Mk.pl u)).map (encL AP)))
 off : ∀ c, c ∉ N -> YlL kvs (tkey [c]) = none
theorem PD.keep {AP : List Mk} {a b : Ylo} (h : PD AP N len a kvs) (k : Ym1 a b) : PD AP N len b kvs :=
 ⟨fun u hu => let ⟨q, e1, e2⟩ := h.on u hu; ⟨q, e1, k q _ e2⟩, h.off⟩
theorem Ybf {AP : List Mk} {side : List Nat} (hd : st[kd]? = some (.dct kvs)) (D : PD AP N len st kvs) (hl : ∀ u, len u <= 20) (hs : side.length <= 100) (hN : ∀ c ∈ side, YlE c = false -> c ∈ N) (hlow : ∀ u ∈ N, YlE u = false) :
 ∃ st', YI [tx side, .ref kd] st = .ok (.ref st.length) st' /\ Ylx st st' /\ st'[st.length]? = some (.lst ((marks len side).map (encL AP))) := by
 unfold YI Wp
 k_in
 obtain ⟨ρ', s', f1, v3, f2, f3, f4⟩ := YH (src := Yno (sT side)) (g := Ylp 3) (m := Z0) (N := side.length) (ρ := [some (tx side), some (.ref kd), some (.ref st.length), none]) (st := st ++ [.lst []]) side (fun c => tx [c])
  (fun i ρ s => ∃ v3, ρ = [some (tx side), some (.ref kd), some (.ref st.length), v3] /\ Ylx st s /\ s[st.length]? = some (.lst ((marks len (side.take i)).map (encL AP)))) rfl (fun i ρ s hi _ => nxS hi) ⟨none, rfl, Ylx.one, Yq⟩
  (fun i hi ρ s ⟨v3, q1, q2, q3⟩ => by
   show 20
   have hml : (marks len (side.take i)).length <= 2000 := ZAV (ZA hl _) (by rw [ZAm]; omega)
   have hk : st.length < s.length := (ZAB.mp q3).1
   have cp1 : [tx [side[i]]].length <= cap := (by show 1 <= 1000000; decide)
   have eg : Yoy (Yll 1) (Yll 3) (Ymo (lMk (Ylm (Yll 3) Yls))) [some (tx side), some (.ref kd), some (.ref st.length), some (tx [side[i]])] s = .ok ((YlL kvs (tkey [side[i]])).getD (.ref s.length)) (s ++ [.lst [tx [side[i]]]]) := by
    unfold Yoy
    simp only [VZ, List.getElem?_cons_succ, List.getElem?_cons_zero, R.bind_ok, Yfo, YiR, Jw, Ybw, if_pos cp1]
    have g : (s ++ [O.lst [tx [side[i]]]])[kd]? = some (.dct kvs) := (q2.trans Ylx.one).get hd
    simp only [g, q2.get hd]
    rfl
   unfold Z0
   k_in
   rw [Zb q3]
   k_in
   rw [eg]
   k_in
   have fin : ∀ (m : Nat) (ys : List Mk), (s ++ [O.lst [tx [side[i]]]])[m]? = some (.lst (ys.map (encL AP))) -> st.length ≠ m -> ys = mark len side[i] -> ∃ ρ' s', (RS.ofE [some (tx side), some (P.ref kd), some (P.ref st.length), some (tx [side[i]])] (ofO (YmG (.ref st.length) [.ref m] (s ++ [O.lst [tx [side[i]]]]))) fun p st1 => RS.nx [some (tx side), some (P.ref kd), some (P.ref st.length), some (tx [side[i]])] st1) = .nx ρ' s' /\
    ∃ v3, ρ' = [some (tx side), some (.ref kd), some (.ref st.length), v3] /\ Ylx st s' /\ s'[st.length]? = some (.lst ((marks len (side.take (i + 1))).map (encL AP))) := by
    intro m ys h1 h2 h3
    have h20 := YdY (c := side[i]) hl
    rw [J5 (Ylx.one.get q3) h1 h2 (by rw [ZAK, ZAK, h3]; omega)]
    refine ⟨_, _, rfl, _, rfl, Ylx.set (q2.trans Ylx.one) (ZAI _), ?_⟩
    rw [ZAR (by rw [ZAJ]; omega), Ww hi, ZAU, h3]
   by_cases hc : YlE side[i] = true
   ·have hn : side[i] ∉ N := fun z => by rw [hlow _ z] at hc; cases hc
    rw [D.off _ hn]
    refine fin s.length [.sg side[i]] Yq (by omega) ?_
    unfold mark; rw [if_pos hc]
   ·have hc' : YlE side[i] = false := by simpa using hc
    obtain ⟨q, e1, e2⟩ := D.on _ (hN _ (ZAb hi) hc')
    rw [e1]
    have hq : q < st.length := (ZAB.mp e2).1
    refine fin q _ ((q2.trans Ylx.one).get e2) (by omega) ?_
    unfold mark; rw [if_neg hc])
 rw [f1, f2]
 k_in
 rw [ZAo] at f4
 exact ⟨_, rfl, f3, f4⟩
theorem Yaa {u : Nat} (h : YlE u = false) : marks len (u :: N) = (List.range (len u)).map (Mk.pl u) ++ marks len N := by
 unfold marks mark
 rw [ZBk, ZAE (by rw [h]; decide)]
theorem ZJ {len : Nat -> Nat} {x : Mk} : ∀ {N : List Nat}, (∀ u ∈ N, YlE u = false) -> (x ∈ marks len N ↔ ∃ u ∈ N, ∃ k, k < len u /\ x = .pl u k)
 | [], _ => by simp [marks]
 | v :: N, h => by
  rw [Yaa (h v (ZAM ..)), ZAh, ZJ fun u hu => h u (ZAQ _ hu), ZAY]
  constructor
  ·rintro (⟨k, hk, rfl⟩ | ⟨u, hu, k, hk, e⟩)
   ·exact ⟨v, ZAM .., k, ZBG.mp hk, rfl⟩
   ·exact ⟨u, ZAQ _ hu, k, hk, e⟩
  ·rintro ⟨u, hu, k, hk, e⟩
   rcases ZAc.mp hu with rfl | hu
   ·exact .inl ⟨k, ZBG.mpr hk, e.symm⟩
   ·exact .inr ⟨u, hu, k, hk, e⟩
theorem Je {len : Nat -> Nat} : ∀ {N : List Nat}, N.Nodup -> (∀ u ∈ N, YlE u = false) -> (marks len N).Nodup
 | [], _, _ => by simp [marks]
 | v :: N, nd, h => by
  have nd' := ZBv.mp nd
  have hN : ∀ u ∈ N, YlE u = false := fun u hu => h u (ZAQ _ hu)
  rw [Yaa (h v (ZAM ..)), ZBi]
  refine ⟨?_, Je nd'.2 hN, fun a ha b hb e => ?_⟩
  ·unfold List.Nodup
   rw [ZB2]
   exact List.nodup_range.imp fun h e => h (by injection e)
  ·obtain ⟨k, _, rfl⟩ := ZAY.mp ha
   obtain ⟨u, hu, j, _, e2⟩ := (ZJ hN).mp hb
   rw [e2] at e
   injection e with e1 _
   rw [e1] at nd'
   exact nd'.1 hu
theorem YgA (h : ∀ u ∈ N, YlE u = false) : ∀ x ∈ marks len N, x.isS = false := fun x hx => by
 obtain ⟨u, _, k, _, rfl⟩ := (ZJ h).mp hx
 rfl
theorem Ya2 {u : Nat} : ∀ {n k a : Nat}, k < n -> ((List.range' a n).map (Mk.pl u)).idxOf (.pl u (a + k)) = k
 | 0, k, a, h => by omega
 | n + 1, 0, a, h => by rw [List.range'_succ, List.map_cons, List.idxOf_cons]; simp
 | n + 1, k + 1, a, h => by
  rw [List.range'_succ, ZAX, ZBx]
  have : ¬ Mk.pl u a = Mk.pl u (a + (k + 1)) := fun z => by injection z with _ z; omega
  rw [show (Mk.pl u a == Mk.pl u (a + (k + 1))) = false from beq_eq_false_iff_ne.mpr this]
  have ih := Ya2 (u := u) (n := n) (k := k) (a := a + 1) (by omega)
  rw [show a + 1 + k = a + (k + 1) by omega] at ih
  rw [ih]
  rfl
theorem YeV (nd : N.Nodup) (h : ∀ u ∈ N, YlE u = false) (hi : i < N.length) (hk : k < len N[i]) : (marks len N).idxOf (.pl N[i] k) = (marks len (N.take i)).length + k := by
 have e : marks len N = marks len (N.take i) ++ ((List.range (len N[i])).map (Mk.pl N[i]) ++ marks len (N.drop (i + 1))) := by
  rw [<- ZBB, <- Vd hi (h _ (ZAb hi))]
  unfold marks
  rw [<- ZBY, ZA5]
 have hn : Mk.pl N[i] k ∉ marks len (N.take i) := fun z => by
  obtain ⟨u, hu, j, _, e2⟩ := (ZJ fun u hu => h u (ZB8 hu)).mp z
  injection e2 with e2 _
  rw [<- e2] at hu
  rw [<- ZA5 i N, ZBi] at nd
  refine nd.2.2 _ hu N[i] ?_ rfl
  rw [ZCJ hi]
  exact ZAM ..
 have hm : Mk.pl N[i] k ∈ (List.range (len N[i])).map (Mk.pl N[i]) := ZAY.mpr ⟨k, ZBG.mpr hk, rfl⟩
 rw [e, ZCF, ZAE hn, ZCF, ZAF hm, List.range_eq_range']
 have := Ya2 (u := N[i]) (n := len N[i]) (k := k) (a := 0) hk
 rw [ZCd] at this
 show 164
 omega
def YlA (q : Nat) (a b : Ylo) : Prop := ∀ (k : Nat) (o : O), k ≠ q -> a[k]? = some o -> b[k]? = some o
theorem places {kl : Nat} (nd : N.Nodup) (hlow : ∀ u ∈ N, YlE u = false) (hl : ∀ u, len u <= 20) (h26 : N.length <= 26) (htl : tl.length = 11)
 (h1 : st[kn]? = some (.lst (N.map fun u => tx [u]))) (h2 : st[kl]? = some (.lst (N.map fun u => .int (len u : Nat)))) (hd : st[kd]? = some (.dct [])) :
 ∃ kvs v5 v6 s', Ymb (Ynk kn kl N.length) (Yma 2 (YlD (Ylp 5) (YlD (Ylp 6) Ymg))) ZW N.length 0 ([v0, some (.ref kn), some (.ref kl), some (.ref kd), some (.int 0), none, none] ++ tl) st =
  .nx ([v0, some (.ref kn), some (.ref kl), some (.ref kd), some (.int ((marks len N).length : Nat)), v5, v6] ++ tl) s' /\ s'[kd]? = some (.dct kvs) /\ PD (marks len N) N len s' kvs /\ YlA kd st s' := by
 have n1 : kn ≠ kd := fun z => by rw [z, hd] at h1; cases h1
 have n2 : kl ≠ kd := fun z => by rw [z, hd] at h2; cases h2
 obtain ⟨ρ', s', f1, kvs, v5, v6, f2, f3, f4, f5, f6⟩ := YH (src := Ynk kn kl N.length) (g := Yma 2 (YlD (Ylp 5) (YlD (Ylp 6) Ymg))) (m := ZW) (N := N.length) (ρ := [v0, some (.ref kn), some (.ref kl), some (.ref kd), some (.int 0), none, none] ++ tl) (st := st) N (fun u => .tup [tx [u], .int (len u : Nat)])
  (fun i ρ s => ∃ kvs v5 v6, ρ = [v0, some (.ref kn), some (.ref kl), some (.ref kd), some (.int ((marks len (N.take i)).length : Nat)), v5, v6] ++ tl /\ s[kd]? = some (.dct kvs) /\ PD (marks len N) (N.take i) len s kvs /\ YlA kd st s /\ kvs.length <= i) rfl
  (fun i ρ s hi ⟨_, _, _, _, _, _, g, _⟩ => by
   rw [Ybm (Yg (g kn _ n1 h1)) (Yg (g kl _ n2 h2))]
   unfold Yml
   rw [ZAZ, ZAZ]
   cases N[i]? <;> rfl)
  ⟨[], none, none, rfl, hd, ⟨fun u hu => (by simp at hu), fun c _ => rfl⟩, fun k o _ h => h, Nat.le_refl _⟩
  (fun i hi ρ s ⟨kvs, v5, v6, q1, q2, q3, q4, q5⟩ => by
   show 20
   have h20 := hl N[i]
   have hu := hlow _ (ZAb hi)
   have hks : kd < s.length := (ZAB.mp q2).1
   unfold ZW
   k_in
   try rw [WA (by omega) (by omega)]
   try k_in
   rw [Int.toNat_natCast, Wi (List.range (len N[i])) (fun (k : Nat) => P.int (0 + k)) (fun (k : Nat) => encL (marks len N) (.pl N[i] k)) (by simp) (fun i _ => nxR) (by simp; omega) (fun k hk => ⟨_, rfl, by
    k_in
    show R.ok (P.int (((marks len (N.take i)).length : Nat) + (0 + (k : Int)))) s = R.ok (P.int ((marks len N).idxOf (Mk.pl N[i] k) : Nat)) s
    rw [YeV nd hlow hi (ZBG.mp hk)]
    congr 2
    omega⟩)]
   k_in
   rw [YeN (Ylx.one.get q2) (by omega)]
   k_in
   have hnot : N[i] ∉ N.take i := fun z => by
    rw [<- ZA5 i N, ZBi] at nd
    refine nd.2.2 _ z N[i] ?_ rfl
    rw [ZCJ hi]
    exact ZAM ..
   have hks2 : kd < (s ++ [O.lst ((List.range (len N[i])).map fun k => encL (marks len N) (.pl N[i] k))]).length := by rw [ZAJ]; omega
   have hKeep : YlA kd s ((s ++ [O.lst ((List.range (len N[i])).map fun k => encL (marks len N) (.pl N[i] k))]).set kd (.dct (Ymp kvs (tkey [N[i]]) (.ref s.length)))) := fun k o hk ho => by
    rw [ZAL (ZAs hk)]; exact Ylx.one.get ho
   refine ⟨_, _, rfl, Ymp kvs (tkey [N[i]]) (.ref s.length), some (tx [N[i]]), some (.int (len N[i] : Nat)), ?_, ZAR hks2, ⟨fun u hu' => ?_, fun c hc => ?_⟩, fun k o hk ho => hKeep k o hk (q4 k o hk ho), ?_⟩
   ·rw [Vd hi hu, ZAJ, ZAK, ZA4]
    congr 1
   ·rw [Ycy]
    rw [ZAW hi] at hu'
    by_cases e : u = N[i]
    ·subst e
     refine ⟨s.length, by simp, ?_⟩
     rw [ZAL (by omega), ZA3]
     exact Yq
    ·rcases ZAh.mp hu' with z | z
     ·obtain ⟨q, e1, e2⟩ := q3.on u z
      have hq : q ≠ kd := fun w => by rw [w, q2] at e2; cases e2
      refine ⟨q, ?_, hKeep q _ hq e2⟩
      rw [ZAE (fun w => e (tkey1 w).symm)]
      exact e1
     ·exact absurd (ZAd.mp z) e
   ·rw [Ycy]
    rw [ZAW hi] at hc
    rw [ZAE (fun w => hc (ZAe _ (ZAd.mpr (tkey1 w).symm)))]
    exact q3.off c fun z => hc (ZBH _ z)
   ·rw [YiE]
    split <;> omega)
 rw [ZAo] at f2 f4
 exact ⟨kvs, v5, v6, s', by rw [f1, f2], f3, f4, f5⟩
theorem YlA.refl {a : Ylo} : YlA q a a := fun _ _ _ h => h
theorem YlA.trans {a b c : Ylo} (h : YlA q a b) (g : YlA q b c) : YlA q a c := fun k o z e => g k o z (h k o z e)
theorem YlA.grow {a b : Ylo} (h : Ylx a b) : YlA q a b := fun _ _ _ e => h.get e
theorem YlA.set {a : Ylo} {o : O} : YlA q a (a.set q o) := fun k o' z e => by rw [ZAL (ZAs z)]; exact e
theorem PD.keepB {AP : List Mk} {a b : Ylo} {ps : List P} (h : PD AP N len a kvs) (k : YlA q a b) (hq : ∀ u ∈ N, YlL kvs (tkey [u]) ≠ some (.ref q)) : PD AP N len b kvs :=
 ⟨fun u hu => let ⟨r, e1, e2⟩ := h.on u hu; ⟨r, e1, k r _ (fun z => hq u hu (by rw [<- z]; exact e1)) e2⟩, h.off⟩
theorem Yfv {AP : List Mk} {xs ys : List Mk} {qs : List (Mk × Mk)} {k1 k2 : Nat} {v9 v12 : Option P} (hk : st[kp]? = some (.lst (qs.map (enc2 AP)))) (h1 : st[k1]? = some (.lst (xs.map (encL AP)))) (h2 : st[k2]? = some (.lst (ys.map (encL AP)))) (n1 : k1 ≠ kp) (n2 : k2 ≠ kp) (he : xs.length = ys.length) (hq : qs.length + xs.length <= 10000) :
 ∃ w12 s', Ymb (Ymy 0 xs.length) (Ylp 12) ZU xs.length 0 ([v0, v1, v2, v3, v4, v5, v6, some (.ref kp), v8, v9, some (.ref k1), some (.ref k2), v12] ++ tl) st = .nx ([v0, v1, v2, v3, v4, v5, v6, some (.ref kp), v8, v9, some (.ref k1), some (.ref k2), w12] ++ tl) s' /\ s'[kp]? = some (.lst ((qs ++ xs.zip ys).map (enc2 AP))) /\ YlA kp st s' := by
 have hz : (xs.zip ys).length = xs.length := by rw [ZCR, <- he, Nat.min_self]
 obtain ⟨ρ', s', f1, w12, f2, f3, f4⟩ := YH (src := Ymy 0 xs.length) (g := Ylp 12) (m := ZU) (N := xs.length) (ρ := [v0, v1, v2, v3, v4, v5, v6, some (.ref kp), v8, v9, some (.ref k1), some (.ref k2), v12] ++ tl) (st := st) (List.range xs.length) (fun (k : Nat) => P.int (0 + k))
  (fun i ρ s => ∃ w12, ρ = [v0, v1, v2, v3, v4, v5, v6, some (.ref kp), v8, v9, some (.ref k1), some (.ref k2), w12] ++ tl /\ s[kp]? = some (.lst ((qs ++ (xs.zip ys).take i).map (enc2 AP))) /\ YlA kp st s) (by simp) (fun i ρ s hi _ => nxR) ⟨v12, rfl, by simpa using hk, YlA.refl⟩
  (fun i hi ρ s ⟨w12, q1, q2, q3⟩ => by
   subst q1
   have hi' : i < xs.length := by simpa using hi
   have hiy : i < ys.length := by omega
   have hiz : i < (xs.zip ys).length := by omega
   have ei : (List.range xs.length)[i] = i := by simp
   rw [ei]
   show 180
   have hks : kp < s.length := (ZAB.mp q2).1
   have a1 : ixP (.ref k1) (.int (0 + (i : Int))) s = some (encL AP xs[i], s) := ZB (q3 k1 _ n1 h1) (by omega) (by rw [show (0 + (i : Int)).toNat = i by omega, ZAZ, ZAT hi']; rfl)
   have a2 : ixP (.ref k2) (.int (0 + (i : Int))) s = some (encL AP ys[i], s) := ZB (q3 k2 _ n2 h2) (by omega) (by rw [show (0 + (i : Int)).toNat = i by omega, ZAZ, ZAT hiy]; rfl)
   unfold ZU
   k_in
   rw [Zb q2]
   show 57
   rw [a2]
   k_in
   rw [Zm q2 (by rw [ZAK, ZAJ, ZAm]; omega)]
   k_in
   refine ⟨_, _, rfl, some (.int (0 + (i : Int))), rfl, ?_, q3.trans YlA.set⟩
   have : (xs.zip ys)[i] = (xs[i], ys[i]) := by simp
   rw [ZAR hks, ZAW hiz, this]
   simp only [List.map_append, List.map_cons, List.map_nil, List.append_assoc]
   rfl)
 rw [ZA4] at f3
 rw [ZBC (by omega)] at f3
 exact ⟨w12, s', by rw [f1, f2], f3, f4⟩
theorem Yeo {AP : List Mk} {tb : Sys} (hl : ∀ u, len u <= 20) (h2 : tb.length <= 2) (hs : ∀ e ∈ tb, e.1.length <= 10 /\ e.2.length <= 10)
 (hN : ∀ e ∈ tb, ∀ c, (c ∈ e.1 \/ c ∈ e.2) -> YlE c = false -> c ∈ N) (hlow : ∀ u ∈ N, YlE u = false) (hd : st[kd]? = some (.dct kvs)) (D : PD AP N len st kvs) (hk : st[kp]? = some (.lst [])) (hq : ∀ u ∈ N, YlL kvs (tkey [u]) ≠ some (.ref kp)) :
 ∀ R, R = Ymb (Ym3 (tb.map YlN)) (Yma 2 (YlD (Ylp 8) (YlD (Ylp 9) Ymg))) ZZ tb.length 0 ([v0, v1, v2, some (.ref kd), v4, v5, v6, some (.ref kp), none, none, none, none, none] ++ tl) st ->
  (∃ s, R = .rt .non s /\ (¬ ∀ e ∈ Ylr len tb, e.1.length = e.2.length) /\ YlA kp st s) \/
  (∃ w8 w9 w10 w11 w12 s, R = .nx ([v0, v1, v2, some (.ref kd), v4, v5, v6, some (.ref kp), w8, w9, w10, w11, w12] ++ tl) s /\ (∀ e ∈ Ylr len tb, e.1.length = e.2.length) /\ s[kp]? = some (.lst ((pairsOf (Ylr len tb)).map (enc2 AP))) /\ YlA kp st s) := by
 have nd : kd ≠ kp := fun z => by rw [z, hk] at hd; cases hd
 intro R hR
 subst hR
 refine VE (src := Ym3 (tb.map YlN)) (g := Yma 2 (YlD (Ylp 8) (YlD (Ylp 9) Ymg))) (m := ZZ) tb.length
  (fun i ρ s => ∃ w8 w9 w10 w11 w12, ρ = [v0, v1, v2, some (.ref kd), v4, v5, v6, some (.ref kp), w8, w9, w10, w11, w12] ++ tl /\ (∀ e ∈ Ylr len (tb.take i), e.1.length = e.2.length) /\ s[kp]? = some (.lst ((pairsOf (Ylr len (tb.take i))).map (enc2 AP))) /\ YlA kp st s /\ (pairsOf (Ylr len (tb.take i))).length <= 200 * i)
  (fun R => (∃ s, R = .rt .non s /\ (¬ ∀ e ∈ Ylr len tb, e.1.length = e.2.length) /\ YlA kp st s) \/
   (∃ w8 w9 w10 w11 w12 s, R = .nx ([v0, v1, v2, some (.ref kd), v4, v5, v6, some (.ref kp), w8, w9, w10, w11, w12] ++ tl) s /\ (∀ e ∈ Ylr len tb, e.1.length = e.2.length) /\ s[kp]? = some (.lst ((pairsOf (Ylr len tb)).map (enc2 AP))) /\ YlA kp st s))
  (fun i ρ s hi ⟨w8, w9, w10, w11, w12, q1, q2, q3, q4, q5⟩ => ?_) (fun ρ s ⟨w8, w9, w10, w11, w12, q1, q2, q3, q4, q5⟩ => ?_) tb.length 0 _ _ (by omega) ⟨none, none, none, none, none, rfl, fun e he => (by simp [Ylr] at he), by simpa [pairsOf, Ylr] using hk, YlA.refl, by simp [pairsOf, Ylr]⟩
 ·subst q1
  have het := ZAb hi
  obtain ⟨l1, l2⟩ := hs _ het
  refine ⟨YlN tb[i], _, by rw [nxL, ZAT hi]; rfl, rfl, ?_⟩
  have D1 := D.keepB (ps := []) q4 hq
  obtain ⟨s1, a1, a2, a3⟩ := Ybf (side := tb[i].1) (q4 kd _ nd hd) D1 hl (by omega) (fun c hc => hN _ het c (.inl hc)) hlow
  obtain ⟨s2, b1, b2, b3⟩ := Ybf (side := tb[i].2) (a2.get (q4 kd _ nd hd)) (D1.keep (Ylx.keep a2)) hl (by omega) (fun c hc => hN _ het c (.inr hc)) hlow
  have m1 := ZA hl tb[i].1
  have m2 := ZA hl tb[i].2
  have hks : kp < s.length := (ZAB.mp q3).1
  have hks1 : s.length <= s1.length := a2.len
  have hst := J9 (len := len) hi
  have hmem : (marks len tb[i].1, marks len tb[i].2) ∈ Ylr len tb := ZAY.mpr ⟨tb[i], het, rfl⟩
  unfold ZZ
  show 57
  rw [b1]
  k_in
  rw [ZH (b2.get a3)]
  k_in
  rw [ZH b3]
  k_in
  simp only [List.length_map]
  by_cases e : (marks len tb[i].1).length = (marks len tb[i].2).length
  ·have hne : (!((marks len tb[i].1).length : Int) == ((marks len tb[i].2).length : Int)) = false := by rw [e]; simp
   rw [hne]
   try k_in
   rw [ZH (b2.get a3)]
   try k_in
   simp only [List.length_map]
   try rw [WA (by omega) (by omega)]
   try k_in
   rw [ZA0]
   obtain ⟨w12', s', p1, p2, p3⟩ := Yfv (AP := AP) (xs := marks len tb[i].1) (ys := marks len tb[i].2) (qs := pairsOf (Ylr len (tb.take i))) (st := s2) (kp := kp) (k1 := s.length) (k2 := s1.length) (v0 := v0) (v1 := v1) (v2 := v2) (v3 := some (.ref kd)) (v4 := v4) (v5 := v5) (v6 := v6) (v8 := some (tx tb[i].1)) (v9 := some (tx tb[i].2)) (v12 := w12) (tl := tl) ((a2.trans b2).get q3) (b2.get a3) b3 (by omega) (by omega) e (by omega)
   have p1' := p1
   simp only [List.cons_append, List.nil_append] at p1'
   rw [p1']
   refine ⟨_, _, _, _, _, rfl, fun d hd' => ?_, by rw [hst]; exact p2, (q4.trans (YlA.grow (a2.trans b2))).trans p3, ?_⟩
   ·unfold Ylr at hd'
    rw [ZAW hi, ZAU] at hd'
    rcases ZAh.mp hd' with z | z
    ·exact q2 d z
    ·have : d = (marks len tb[i].1, marks len tb[i].2) := by simpa using z
     rw [this]; exact e
   ·rw [hst, ZAJ, ZCR]
    omega
  ·have hne : (!((marks len tb[i].1).length : Int) == ((marks len tb[i].2).length : Int)) = true := by simp; omega
   rw [hne]
   try k_in
   exact .inl ⟨_, rfl, fun z => e (z _ hmem), q4.trans (YlA.grow (a2.trans b2))⟩
 ·subst q1
  rw [ZAo] at q2 q3
  exact ⟨by rw [nxL, ZA1 (ZAI _)]; rfl, .inr ⟨w8, w9, w10, w11, w12, s, rfl, q2, q3, q4⟩⟩
theorem VU {AP : List Mk} {m : Mk} : YlO (encL AP m) = true := by cases m <;> rfl
theorem JV {AP : List Mk} (ds : List Mk) : (ds.map (encL AP)).all YlO = true := by
 rw [ZA7]
 intro x hx
 obtain ⟨c, _, rfl⟩ := ZAY.mp hx
 exact VU
theorem Yca {AP : List Mk} {a b : Mk} (ha : InA AP a) (hb : InA AP b) : eqF (encL AP a) (encL AP b) = decide (a = b) := by
 by_cases h : a = b
 ·subst h
  rw [ZAa rfl]
  cases a with
  | sg c => show (sT [c] == sT [c]) = true; simp
  | pl u k => show (((AP.idxOf (Mk.pl u k) : Nat) : Int) == _) = true; simp
 ·rw [ZAS h]
  cases a with
  | sg c =>
   cases b with
   | sg d =>
    show (sT [c] == sT [d]) = false
    rw [Yjh]
    exact ZAS (fun z => h (by cases z; rfl))
   | pl v j => rfl
  | pl u k =>
   cases b with
   | sg d => rfl
   | pl v j =>
    show (((AP.idxOf (Mk.pl u k) : Nat) : Int) == ((AP.idxOf (Mk.pl v j) : Nat) : Int)) = false
    rw [beq_eq_false_iff_ne]
    intro z
    rcases ha with w | w
    ·cases w
    ·exact h (Ybo w (by omega))
theorem Ycr {AP : List Mk} {m : Mk} (hm : InA AP m) : ∀ {ds : List Mk}, (∀ d ∈ ds, InA AP d) -> ((ds.map (encL AP)).any fun y => eqF y (encL AP m)) = decide (m ∈ ds)
 | [], _ => rfl
 | d :: ds, h => by
  rw [ZAX, ZBM, Ycr hm fun a ha => h a (ZAQ _ ha), Yca (h d (ZAM ..)) hm]
  by_cases e : d = m
  ·subst e; simp
  ·have e2 : ¬ m = d := fun z => e z.symm
   simp [e, e2]
theorem YaZ {AP : List Mk} {m : Mk} (hm : InA AP m) : ∀ {ds : List Mk}, (∀ d ∈ ds, InA AP d) -> (ds.map (encL AP)).findIdx (fun y => eqF y (encL AP m)) = ds.idxOf m
 | [], _ => rfl
 | d :: ds, h => by
  rw [ZAX, ZBj, ZBx, YaZ hm fun a ha => h a (ZAQ _ ha), Yca (h d (ZAM ..)) hm]
  by_cases e : d = m
  ·subst e; simp
  ·rw [ZAS e, show (d == m) = false from beq_eq_false_iff_ne.mpr e]
theorem YaU {AP : List Mk} {xs : List Mk} (h : ∀ x ∈ xs, InA AP x) : ∀ d ∈ firsts xs, InA AP d := by
 have key : ∀ (xs ds : List Mk), (∀ x ∈ xs, InA AP x) -> (∀ d ∈ ds, InA AP d) -> ∀ d ∈ xs.foldl fst1 ds, InA AP d := by
  intro xs
  induction xs with
  | nil => intro ds _ hd; exact hd
  | cons x xs ih =>
   intro ds hx hd
   refine ih (fst1 ds x) (fun y hy => hx y (ZAQ _ hy)) fun d h => ?_
   rcases Yb5 h with z | z
   ·exact hd d z
   ·rw [z]; exact hx x (ZAM ..)
 exact key xs [] h fun d hd => (by cases hd)
theorem Ydg {xs : List Mk} {x : Mk} (h : x ∈ xs) (hs : x.isS = false) : x ∈ firsts xs := by
 have key : ∀ (xs ds : List Mk), (x ∈ xs \/ x ∈ ds) -> x ∈ xs.foldl fst1 ds := by
  intro xs
  induction xs with
  | nil => intro ds h; exact h.elim (fun h => by cases h) id
  | cons y xs ih =>
   intro ds h
   refine ih (fst1 ds y) ?_
   obtain ⟨e, he⟩ := Ycj (ds := ds) (x := y)
   show 226
   ·rcases ZAc.mp h with rfl | h
    ·exact .inr (Ycz hs)
    ·exact .inl h
   ·exact .inr (by rw [he]; exact ZBH _ h)
 exact key xs [] (.inl h)
def Yod (AP ds : List Mk) (m : Mk) : P := if m.isS = true then encL AP m else .int (ds.idxOf m : Nat)
theorem Yef {AP : List Mk} {l : Rp} {ks : Nat} {ρa ρb : Rho} (L : Lab AP l) (ha : ρa.length = 14) (hl : AP.length <= 520) (hk : st[kh]? = some (hold AP l)) (h : st[ks]? = some (.lst [])) (hne : kh ≠ ks) :
 ∃ w15 s', Ymb (YmI kh AP.length) (Ylp 15) ZX AP.length 0 (ρa ++ [some (.ref ks), none] ++ ρb) st = .nx (ρa ++ [some (.ref ks), w15] ++ ρb) s' /\ s'[ks]? = some (.lst ((firsts (AP.map l)).map (encL AP))) /\ YlA ks st s' := by
 obtain ⟨a0, a1, a2, a3, a4, a5, a6, a7, a8, a9, a10, a11, a12, a13, rfl⟩ : ∃ a0 a1 a2 a3 a4 a5 a6 a7 a8 a9 a10 a11 a12 a13, ρa = [a0, a1, a2, a3, a4, a5, a6, a7, a8, a9, a10, a11, a12, a13] := by
  match ρa, ha with
  | [a0, a1, a2, a3, a4, a5, a6, a7, a8, a9, a10, a11, a12, a13], _ => exact ⟨a0, a1, a2, a3, a4, a5, a6, a7, a8, a9, a10, a11, a12, a13, rfl⟩
 obtain ⟨ρ', s', f1, w15, f2, f3, f4⟩ := YH (src := YmI kh AP.length) (g := Ylp 15) (m := ZX) (N := AP.length) (ρ := [a0, a1, a2, a3, a4, a5, a6, a7, a8, a9, a10, a11, a12, a13, some (.ref ks), none] ++ ρb) (st := st) AP (fun x => encL AP (l x))
  (fun i ρ s => ∃ w15, ρ = [a0, a1, a2, a3, a4, a5, a6, a7, a8, a9, a10, a11, a12, a13, some (.ref ks), w15] ++ ρb /\ s[ks]? = some (.lst ((firsts ((AP.take i).map l)).map (encL AP))) /\ YlA ks st s) rfl (fun i ρ s hi ⟨_, _, _, g⟩ => nxK (Yg (g kh _ hne hk))) ⟨none, rfl, h, YlA.refl⟩
  (fun i hi ρ s ⟨w15, q1, q2, q3⟩ => by
   show 20
   have hin := L.inn AP[i] (ZAb hi)
   have hds : ∀ d ∈ firsts ((AP.take i).map l), InA AP d := YaU fun x hx => by
    obtain ⟨y, hy, rfl⟩ := ZAY.mp hx
    exact L.inn y (ZB8 hy)
   have hks : ks < s.length := (ZAB.mp q2).1
   have enext : firsts ((AP.take (i + 1)).map l) = fst1 (firsts ((AP.take i).map l)) (l AP[i]) := by
    rw [ZAW hi, ZAU]
    exact Yct _ _
   have hfl : (firsts ((AP.take i).map l)).length <= 520 := by
    have := WE (xs := (AP.take i).map l) (ds := [])
    rw [ZAK, ZAm] at this
    exact Nat.le_trans this (by simp; omega)
   have hρ : ([a0, a1, a2, a3, a4, a5, a6, a7, a8, a9, a10, a11, a12, a13, some (P.ref ks), w15] ++ ρb).set 15 (some (encL AP (l AP[i]))) = [a0, a1, a2, a3, a4, a5, a6, a7, a8, a9, a10, a11, a12, a13, some (P.ref ks), some (encL AP (l AP[i]))] ++ ρb := rfl
   rw [hρ]
   have t1 : Yme (YlQ (YlY "str" (Yll 15))) ([a0, a1, a2, a3, a4, a5, a6, a7, a8, a9, a10, a11, a12, a13, some (P.ref ks), some (encL AP (l AP[i]))] ++ ρb) s = .ok (!(l AP[i]).isS) s := by
    rw [Vp, Z4, VY (AP := AP) (a := l AP[i]) rfl]
    rfl
   have t2 : Yl0 (Ylq Ymz (Yll 15) (Yll 14)) ([a0, a1, a2, a3, a4, a5, a6, a7, a8, a9, a10, a11, a12, a13, some (P.ref ks), some (encL AP (l AP[i]))] ++ ρb) s = .ok (!decide (l AP[i] ∈ firsts ((AP.take i).map l))) s := by
    k_in
    rw [YcG (q := .ref ks) (show Yl4 (.ref ks) s = _ from Yg q2) VU (JV _), Ycr hin hds]
    rfl
   unfold ZX
   rw [Wz, JB, t1, R.bind_ok]
   rw [enext]
   unfold fst1
   cases hs : (l AP[i]).isS with
   | true =>
    rw [ZBa, ZAE ZAO, RS.ofE_ok, ZAE ZAO, ZAF (.inl rfl)]
    exact ⟨_, _, rfl, _, rfl, q2, q3⟩
   | false =>
    rw [ZBU, ZAF rfl, t2, RS.ofE_ok]
    by_cases z : l AP[i] ∈ firsts ((AP.take i).map l)
    ·rw [ZAa z, ZBa, ZAE ZAO, ZAF (.inr z)]
     exact ⟨_, _, rfl, _, rfl, q2, q3⟩
    ·rw [ZAS z, ZBU, ZAF rfl, ZAE (fun w => w.elim (fun w => by cases w) z)]
     k_in
     rw [Zb q2]
     k_in
     rw [Zm q2 (by rw [ZAK]; omega)]
     k_in
     refine ⟨_, _, rfl, _, rfl, ?_, q3.trans YlA.set⟩
     rw [ZAR hks, ZAU]
     rfl)
 rw [ZAo] at f3
 exact ⟨w15, s', by
  rw [show [a0, a1, a2, a3, a4, a5, a6, a7, a8, a9, a10, a11, a12, a13] ++ [some (P.ref ks), none] ++ ρb = [a0, a1, a2, a3, a4, a5, a6, a7, a8, a9, a10, a11, a12, a13, some (P.ref ks), none] ++ ρb from rfl, f1, f2]; rfl, f3, f4⟩
theorem Ygk {l : List Nat} {v : P} (h : st[n]? = some (.dct kvs)) (hv : YlL kvs (tkey l) = some v) : ixP (.ref n) (tx l) st = some (v, st) := by
 show (match st[n]? with
  | some (.lst xs) => ixI xs (tx l) st
  | some (.ro xs) => ixI xs (tx l) st
  | some (.dct kvs) => (match Ymt (tx l) with
   | some k => (YlL kvs k).map fun p => (p, st)
   | none => none)
  | _ => none) = _
 rw [h]
 show (YlL kvs (tkey l)).map (fun p => (p, st)) = _
 rw [hv]; rfl
theorem Ygf {AP ds : List Mk} {m : Mk} {ks : Nat} (h : st[ks]? = some (.lst (ds.map (encL AP)))) (hm : InA AP m) (hd : ∀ d ∈ ds, InA AP d) (hin : m ∈ ds) (hl : ds.length <= 1000) : YnF (.ref ks) [encL AP m] st = some (.int (ds.idxOf m : Nat), st) := by
 have e : YlM st ks = some (ds.map (encL AP)) := by unfold YlM; rw [h]
 show (match YlM st ks with | some xs => if YlO (encL AP m) = true /\ xs.all YlO = true /\ xs.findIdx (fun y => eqF y (encL AP m)) < xs.length /\ xs.length <= 1000000 then okP (.int ((xs.findIdx fun y => eqF y (encL AP m) : Nat) : Int)) st else none | none => none) = _
 rw [e]
 show 145
 rw [YaZ hm hd, ZAF ⟨VU, JV _, by rw [ZAK]; exact ZAt hin, by rw [ZAK]; omega⟩]
 rfl
theorem Yhl {AP : List Mk} {l : Rp} {ks ko : Nat} {v9 v10 v11 v12 v15 : Option P} (L : Lab AP l) (hAP : ∀ u ∈ N, ∀ k, k < len u -> Mk.pl u k ∈ AP) (hl : ∀ u, len u <= 20) (h26 : N.length <= 26) (hal : AP.length <= 520)
 (h1 : st[kn]? = some (.lst (N.map fun u => tx [u]))) (hd : st[kd]? = some (.dct kvs)) (D : PD AP N len st kvs) (hk : st[kh]? = some (hold AP l)) (hs : st[ks]? = some (.lst ((firsts (AP.map l)).map (encL AP)))) (ho : st[ko]? = some (.lst [])) (n1 : kn ≠ ko) (n2 : kd ≠ ko) (n3 : kh ≠ ko) (n4 : ks ≠ ko) (hq : ∀ u ∈ N, YlL kvs (tkey [u]) ≠ some (.ref ko)) :
 ∃ w5 w17 s', Ymb (YmI kn N.length) (Ylp 5) ZQ N.length 0 [v0, some (.ref kn), v2, some (.ref kd), v4, v5, v6, v7, v8, v9, v10, v11, v12, some (.ref kh), some (.ref ks), v15, some (.ref ko), none] st =
  .nx [v0, some (.ref kn), v2, some (.ref kd), v4, w5, v6, v7, v8, v9, v10, v11, v12, some (.ref kh), some (.ref ks), v15, some (.ref ko), w17] s' /\ s'[ko]? = some (.lst (N.map fun u => .tup (((List.range (len u)).map (Mk.pl u)).map fun x => Yod AP (firsts (AP.map l)) (l x)))) /\ YlA ko st s' := by
 have hF : ∀ d ∈ firsts (AP.map l), InA AP d := YaU fun x hx => by
  obtain ⟨y, hy, rfl⟩ := ZAY.mp hx
  exact L.inn y hy
 have hFl : (firsts (AP.map l)).length <= 520 := by
  have := WE (xs := AP.map l) (ds := [])
  rw [ZAK] at this
  exact Nat.le_trans this (by simp; omega)
 obtain ⟨ρ', s', f1, w5, w17, f2, f3, f4⟩ := YH (src := YmI kn N.length) (g := Ylp 5) (m := ZQ) (N := N.length) (ρ := [v0, some (.ref kn), v2, some (.ref kd), v4, v5, v6, v7, v8, v9, v10, v11, v12, some (.ref kh), some (.ref ks), v15, some (.ref ko), none]) (st := st) N (fun u => tx [u])
  (fun i ρ s => ∃ w5 w17, ρ = [v0, some (.ref kn), v2, some (.ref kd), v4, w5, v6, v7, v8, v9, v10, v11, v12, some (.ref kh), some (.ref ks), v15, some (.ref ko), w17] /\ YlA ko st s /\ s[ko]? = some (.lst ((N.take i).map fun u => .tup (((List.range (len u)).map (Mk.pl u)).map fun x => Yod AP (firsts (AP.map l)) (l x))))) rfl
  (fun i ρ s hi ⟨_, _, _, g, _⟩ => nxK (Yg (g kn _ n1 h1))) ⟨v5, none, rfl, YlA.refl, ho⟩
  (fun i hi ρ s ⟨w5, w17, q1, q2, q3⟩ => by
   show 20
   have hu := ZAb hi
   have D1 := D.keepB (ps := []) q2 hq
   obtain ⟨q, e1, e2⟩ := D1.on _ hu
   have h20 := hl N[i]
   have hks : ko < s.length := (ZAB.mp q3).1
   have hxl : ((List.range (len N[i])).map (Mk.pl N[i])).length <= 20 := by rw [ZAK, ZA4]; exact h20
   have hxm : ∀ x ∈ (List.range (len N[i])).map (Mk.pl N[i]), x ∈ AP := fun x hx => by
    obtain ⟨k, hk, rfl⟩ := ZAY.mp hx
    exact hAP _ hu k (ZBG.mp hk)
   generalize hxs : (List.range (len N[i])).map (Mk.pl N[i]) = xs at hxl hxm e2
   unfold ZQ
   k_in
   rw [Ygk (q2 kd _ n2 hd) e1]
   k_in
   rw [Zd (Yg e2)]
   k_in
   rw [ZAK, Wi xs (encL AP) (fun x => encL AP (l x)) rfl (fun i _ => nxK (Yg e2)) (by omega) (fun x hx => ⟨_, rfl, by
    have hm := hxm x hx
    have hlt := ZAt hm
    k_in
    have hp : x.isS = false := by
     rw [<- hxs] at hx
     obtain ⟨k, _, rfl⟩ := ZAY.mp hx
     rfl
    obtain ⟨u, k, rfl⟩ : ∃ u k, x = .pl u k := by cases x with | sg c => cases hp | pl u k => exact ⟨u, k, rfl⟩
    rw [show ixP (.ref kh) (encL AP (.pl u k)) s = some (encL AP (l (.pl u k)), s) from ZB (q2 kh _ n3 hk) (by omega) (by
     rw [ZA0, ZAZ, ZAT hlt, ZBd hlt]
     rfl)]
    rfl⟩)]
   k_in
   generalize hB : s ++ [O.lst (xs.map fun x => encL AP (l x))] = B
   have gB : Ylx s B := by rw [<- hB]; exact Ylx.one
   have kB : B[s.length]? = some (.lst (xs.map fun x => encL AP (l x))) := by rw [<- hB]; exact Yq
   rw [Zb (gB.get q3)]
   k_in
   rw [Zd (Yg kB)]
   k_in
   rw [ZAK, Wi xs (fun x => encL AP (l x)) (fun x => Yod AP (firsts (AP.map l)) (l x)) rfl (fun i _ => nxK (Yg kB)) (by omega) (fun x hx => ⟨[some (encL AP (l x)), some (.ref ks)], rfl, by
    have hin := L.inn x (hxm x hx)
    rw [YgF, Z4, VY (AP := AP) (a := l x) rfl]
    unfold Yod
    cases e : (l x).isS with
    | true => rfl
    | false =>
     simp only [R.bind_ok, Wb, Bool.false_eq_true, if_false]
     have hsB : B[ks]? = some (.lst ((firsts (AP.map l)).map (encL AP))) := gB.get (q2 ks _ n4 hs)
     k_in
     rw [Zb hsB]
     k_in
     rw [Ygf hsB hin hF (Ydg (ZAY.mpr ⟨x, hxm x hx, rfl⟩) e) (by omega)]
     rfl⟩)]
   k_in
   rw [Zm (gB.get q3) (by rw [ZAK, ZAm]; omega)]
   k_in
   have hl1 := gB.len
   refine ⟨_, _, rfl, _, _, rfl, (q2.trans (YlA.grow gB)).trans YlA.set, ?_⟩
   rw [ZAR (by omega), ZAW hi, ZAU, <- hxs]
   rfl)
 rw [ZAo] at f4
 exact ⟨w5, w17, s', by rw [f1, f2], f4, f3⟩
def YoR (AP : List Mk) (N : List Nat) (len : Nat -> Nat) (l : Rp) : P := .tup (N.map fun u => .tup (((List.range (len u)).map (Mk.pl u)).map fun x => Yod AP (firsts (AP.map l)) (l x)))
theorem Yhy {tb : Sys} {kl : Nat} (nd : N.Nodup) (hl : ∀ u, len u <= 20) (h2 : tb.length <= 2) (hs : ∀ e ∈ tb, e.1.length <= 10 /\ e.2.length <= 10) (hN : ∀ e ∈ tb, ∀ c, (c ∈ e.1 \/ c ∈ e.2) -> YlE c = false -> c ∈ N) (hlow : ∀ u ∈ N, YlE u = false) (h26 : N.length <= 26)
 (h1 : st[kn]? = some (.lst (N.map fun u => tx [u]))) (h3 : st[kl]? = some (.lst (N.map fun u => .int (len u : Nat)))) :
 (∃ s, Ze [.tup (tb.map YlN), .ref kn, .ref kl] st = .ok .non s /\ ((¬ ∀ e ∈ Ylr len tb, e.1.length = e.2.length) \/ ∀ f, ¬ Con f (pairsOf (Ylr len tb))) /\ Ym1 st s) \/
 (∃ l s, Ze [.tup (tb.map YlN), .ref kn, .ref kl] st = .ok (YoR (marks len N) N len l) s /\ (∀ e ∈ Ylr len tb, e.1.length = e.2.length) /\ Lab (marks len N) l /\ Uni l (pairsOf (Ylr len tb)) /\ Con l (pairsOf (Ylr len tb)) /\ Ym1 st s) := by
 have hkn : kn < st.length := (ZAB.mp h1).1
 have hkl : kl < st.length := (ZAB.mp h3).1
 have hAl : (marks len N).length <= 520 := ZAV (ZA hl N) (by omega)
 have hAn := Je (len := len) nd hlow
 have hAp := YgA (len := len) hlow
 have hpin : ∀ p ∈ pairsOf (Ylr len tb), InA (marks len N) p.1 /\ InA (marks len N) p.2 := fun p hp => by
  unfold pairsOf Ylr at hp
  obtain ⟨e, he, hpe⟩ := List.mem_flatMap.mp hp
  obtain ⟨d, hd, rfl⟩ := ZAY.mp he
  have hz := ZB5 (show (p.1, p.2) ∈ (marks len d.1).zip (marks len d.2) from hpe)
  have key : ∀ (side : List Nat), (∀ c ∈ side, YlE c = false -> c ∈ N) -> ∀ x ∈ marks len side, InA (marks len N) x := fun side hside x hx => by
   unfold marks at hx
   obtain ⟨c, hc, hxc⟩ := List.mem_flatMap.mp hx
   unfold mark at hxc
   split at hxc
   ·rw [ZAd.mp hxc]; exact .inl rfl
   ·rename_i hcl
    obtain ⟨k, hk, rfl⟩ := ZAY.mp hxc
    exact .inr ((ZJ hlow).mpr ⟨c, hside c hc (by simpa using hcl), k, List.mem_range.mp hk, rfl⟩)
  exact ⟨key d.1 (fun c hc => hN d hd c (.inl hc)) _ hz.1, key d.2 (fun c hc => hN d hd c (.inr hc)) _ hz.2⟩
 unfold Ze Vh
 generalize hT1 : (Ylt (YlB 7 (Ymo (lMk Yls))) _ : MS) = T1
 k_in
 have g0 : Ylx st (st ++ [O.dct []]) := Ylx.one
 rw [Yf4 (Yg (g0.get h1)) (Yg (g0.get h3)), ZAK]
 k_in
 obtain ⟨kvs, v5, v6, s1, p1, p2, p3, p4⟩ := places (N := N) (len := len) (st := st ++ [O.dct []]) (kn := kn) (kl := kl) (kd := st.length) (v0 := some (.tup (tb.map YlN))) (tl := [none, none, none, none, none, none, none, none, none, none, none]) nd hlow hl h26 rfl (g0.get h1) (g0.get h3) Yq
 simp only [List.cons_append, List.nil_append] at p1
 rw [p1]
 subst hT1
 generalize hT2 : (Ylt (YlB 13 (YlK 2 Ys (Ylm (Yll 7) (Ylm (Yll 4) Yls)))) _ : MS) = T2
 show 39
 have hkd1 : st.length < s1.length := (ZAB.mp p2).1
 have gC : Ylx s1 (s1 ++ [O.lst []]) := Ylx.one
 have hq : ∀ (q : Nat), s1.length <= q -> ∀ u ∈ N, YlL kvs (tkey [u]) ≠ some (.ref q) := fun q hq u hu z => by
  obtain ⟨r, e1, e2⟩ := p3.on u hu
  rw [e1] at z
  cases z
  have := (ZAB.mp e2).1
  omega
 rcases Yeo (AP := marks len N) (N := N) (len := len) (tb := tb) (kvs := kvs) (st := s1 ++ [O.lst []]) (kd := st.length) (kp := s1.length) (v0 := some (.tup (tb.map YlN))) (v1 := some (.ref kn)) (v2 := some (.ref kl)) (v4 := some (.int ((marks len N).length : Nat))) (v5 := v5) (v6 := v6) (tl := [none, none, none, none, none]) hl h2 hs hN hlow (gC.get p2) (p3.keep (Ylx.keep gC)) Yq (hq _ (ZAI _)) _ rfl with ⟨s, e1, e2, e3⟩ | ⟨w8, w9, w10, w11, w12, s2, e1, e2, e3, e4⟩
 ·simp only [List.cons_append, List.nil_append] at e1
  rw [e1]
  k_in
  exact .inl ⟨s, rfl, .inl e2, fun k o h => by
   have hk := (ZAB.mp h).1
   exact e3 k o (by omega) (gC.get (p4 k o (by omega) (g0.get h)))⟩
 ·simp only [List.cons_append, List.nil_append] at e1
  rw [e1]
  subst hT2
  generalize hT3 : (Ylt (sIf (Yl0 (Ylq isP (Yll 13) (eC .non))) (sRet (eC .non)) Yl8) _ : MS) = T3
  k_in
  have hs2 : s1.length < s2.length := (ZAB.mp e3).1
  rcases Ye6 (AP := marks len N) (kp := s1.length) (st := s2) (ps := pairsOf (Ylr len tb)) hAn hAp hpin e3 hAl with ⟨s3, a1, a2, a3⟩ | ⟨l, s3, a1, a2, a3, a4, a5, a6⟩
  ·show 45
   subst hT3
   k_in
   exact .inl ⟨s3, rfl, .inr a2, fun k o h => by
    have hk := (ZAB.mp h).1
    exact a3 k o (e4 k o (by omega) (gC.get (p4 k o (by omega) (g0.get h))))⟩
  ·show 45
   subst hT3
   refine .inr ⟨l, ?_⟩
   generalize hT4 : (Ylt (YlB 14 (Ymo (lMk Yls))) _ : MS) = T4
   k_in
   rw [show isP (.ref s2.length) .non s3 = some (.bl false, s3) from rfl]
   k_in
   subst hT4
   generalize hT5 : (Ylt (YlB 16 (Ymo (lMk Yls))) _ : MS) = T5
   k_in
   have hs3 : s2.length < s3.length := (ZAB.mp a2).1
   have g3 : Ylx s3 (s3 ++ [O.lst []]) := Ylx.one
   rw [Zd (Yg (g3.get a2))]
   show 39
   obtain ⟨w15, s4, b1, b2, b3⟩ := Yef (AP := marks len N) (l := l) (st := s3 ++ [O.lst []]) (kh := s2.length) (ks := s3.length) (ρa := [some (.tup (tb.map YlN)), some (.ref kn), some (.ref kl), some (.ref st.length), some (.int ((marks len N).length : Nat)), v5, v6, some (.ref s1.length), w8, w9, w10, w11, w12, some (.ref s2.length)]) (ρb := [none, none]) a4 rfl hAl (g3.get a2) Yq (by omega)
   simp only [List.cons_append, List.nil_append] at b1
   rw [b1]
   subst hT5
   have hs4 : s3.length < s4.length := (ZAB.mp b2).1
   have g4 : Ylx s4 (s4 ++ [O.lst []]) := Ylx.one
   have old : ∀ (k : Nat) (o : O), k ≠ st.length -> k < st.length -> st[k]? = some o -> (s4 ++ [O.lst []])[k]? = some o := fun k o z z2 h =>
    g4.get (b3 k o (by omega) (g3.get (a3 k o (e4 k o (by omega) (gC.get (p4 k o z (g0.get h)))))))
   have old1 : ∀ (k : Nat) (o : O), s1[k]? = some o -> (s4 ++ [O.lst []])[k]? = some o := fun k o h => by
    have : k < s1.length := (ZAB.mp h).1
    exact g4.get (b3 k o (by omega) (g3.get (a3 k o (e4 k o (by omega) (gC.get h)))))
   k_in
   rw [Zd (Yg (old kn _ (by omega) hkn h1))]
   show 39
   obtain ⟨w5, w17, s5, c1, c2, c3⟩ := Yhl (AP := marks len N) (N := N) (len := len) (l := l) (kvs := kvs) (st := s4 ++ [O.lst []]) (kn := kn) (kd := st.length) (kh := s2.length) (ks := s3.length) (ko := s4.length) (v0 := some (.tup (tb.map YlN))) (v2 := some (.ref kl)) (v4 := some (.int ((marks len N).length : Nat))) (v5 := v5) (v6 := v6) (v7 := some (.ref s1.length)) (v8 := w8) (v9 := w9) (v10 := w10) (v11 := w11) (v12 := w12) (v15 := w15) a4
    (fun u hu k hk => (ZJ hlow).mpr ⟨u, hu, k, hk, rfl⟩) hl h26 hAl (old kn _ (by omega) hkn h1) (old1 _ _ p2) (p3.keep old1) (g4.get (b3 _ _ (by omega) (g3.get a2))) (g4.get b2) Yq (by omega) (by omega) (by omega) (by omega) (hq _ (by omega))
   rw [c1]
   k_in
   rw [show Ymd [.ref s4.length] s5 = _ from ZS (Yg c2)]
   k_in
   exact ⟨s5, rfl, e2, a4, a5, a6, fun k o h => by
    have hk := (ZAB.mp h).1
    exact c3 k o (by omega) (old k o (by omega) hk h)⟩
theorem Vk (i : Nat) (h : st[k]? = some (.ro (ns.map P.int))) : Ym [.ref k, .int i] st = .ok (.int (ns.getD i 0)) st := by
 unfold Ym ZN
 simp only [YiT, List.map_cons, List.map_nil, Z2, Wz, YgQ, YdD, VZ]
 simp [YbW h]
 by_cases hi : i < ns.length
 ·simp [hi]
  rw [Yd0 h (by omega) (p := .int ns[i]) (by simp [hi])]
  simp [hi]
 ·simp [hi]
theorem Yjw : P.str "abcdefghijklmnopqrstuvwxyz" = tx ((List.range 26).map (97 + ·)) := ZBI P.str (by decide +kernel)
theorem Yf7 : P.str "ABCDEFGHIJKLMNOPQRSTUVWXYZ" = tx ((List.range 26).map (65 + ·)) := ZBI P.str (by decide +kernel)
theorem s_e : P.str "" = tx [] := ZBI P.str WD
theorem mixed {cell : Int} : ∃ ns : List Int, Y3 [.int cell, .int 40] st = .ok (.ref st.length) (st ++ [.lst (ns.map P.int)]) /\ ns.length = 40 := by
 unfold Y3 Wm
 try k_in
 obtain ⟨ρ', s', f1, ns, n2, v4, f2, f3, f4⟩ := YH (src := Ymy 0 40) (g := Ylp 4) (m := Z7) (N := 40) (ρ := [some (.int cell), some (.int 40), some (.int (1 + cell % 2147483646)), some (.ref st.length), none]) (st := st ++ [.lst []]) (List.range 40) (fun (k : Nat) => P.int (0 + k))
  (fun i ρ s => ∃ (ns : List Int) (n2 : Int) (v4 : Option P), ρ = [some (.int cell), some (.int 40), some (.int n2), some (.ref st.length), v4] /\ s = st ++ [.lst (ns.map P.int)] /\ ns.length = i) (by simp) (fun i ρ s hi _ => nxR) ⟨[], _, none, rfl, rfl, rfl⟩
  (fun i hi ρ s ⟨ns, n2, v4, q1, q2, q3⟩ => by
   subst q1; subst q2
   have hi' : i < 40 := by simpa using hi
   show 180
   unfold Z7
   try k_in
   rw [Zb Yq]
   try k_in
   rw [Zm Yq (by rw [ZAK]; omega)]
   try k_in
   refine ⟨_, _, rfl, ns ++ [n2 * 16807 % 2147483647], _, _, rfl, ?_, by rw [ZAJ, ZAg, q3]⟩
   rw [ZCX _ _ (ZAI _), Nat.sub_self, ZAU]
   rfl)
 have e40 : ((40 : Int)).toNat = 40 := rfl
 try rw [e40]
 rw [f1, f2, f3]
 try k_in
 exact ⟨ns, rfl, by simpa using f4⟩
theorem names6 {cell : Int} : ∃ (w : List Nat) (st' : Ylo), YW [.int cell, .int 6] st = .ok (tx w) st' /\ Ylx st st' /\ w.length = 6 /\ ∀ c ∈ w, isUp c = true := by
 unfold YW Wj
 simp only [Yf7, WD]
 try k_in
 generalize hB : st ++ [O.lst [P.int 1, P.int 3, P.int 5, P.int 7, P.int 9, P.int 11, P.int 15, P.int 17, P.int 19, P.int 21, P.int 23, P.int 25]] = B
 have gB : Ylx st B := by rw [<- hB]; exact Ylx.one
 have kB : B[st.length]? = some (.lst ([1, 3, 5, 7, 9, 11, 15, 17, 19, 21, 23, 25].map P.int)) := by rw [<- hB]; exact Yq
 obtain ⟨m, hm, hml⟩ : ∃ m : Nat, cell / 26 % 12 = (m : Int) /\ m < 12 := ⟨(cell / 26 % 12).toNat, by omega, by omega⟩
 obtain ⟨x, hx⟩ : ∃ x : Int, ([1, 3, 5, 7, 9, 11, 15, 17, 19, 21, 23, 25] : List Int)[m]? = some x := ⟨_, List.getElem?_eq_getElem (by simpa using hml)⟩
 have hxb : 0 <= x /\ x <= 25 := by
  have key : ∀ y ∈ ([1, 3, 5, 7, 9, 11, 15, 17, 19, 21, 23, 25] : List Int), 0 <= y /\ y <= 25 := by decide
  exact key x (ZA9 hx)
 rw [hm, ZB kB (by omega) (p := .int x) (by rw [ZA0, ZAZ, hx]; rfl)]
 try k_in
 have e6 : ((6 : Int)).toNat = 6 := rfl
 try rw [e6]
 obtain ⟨acc, s', e1, w, e2, e3, e4, e5⟩ := VR (src := Ymy 0 6) (g := Ylp 0) (nt := Ymv) (me := Ylq ixP (Yll 2) (Ylq Yms (Ylq Yl1 (Yll 1) (Ylq YmX (Yll 3) (Yll 0))) (eC (.int 26)))) (ρ0 := [none, some (.int cell), some (tx ((List.range 26).map (65 + ·))), some (.int x)]) (N := 6)
  (fun i s acc => ∃ w : List Nat, acc = w.map (fun c => tx [c]) /\ w.length = i /\ (∀ c ∈ w, isUp c = true) /\ s = B) (st := B) ⟨[], rfl, rfl, fun w h => (by cases h), rfl⟩ (fun i s acc hi ⟨w, w1, w2, w3, w4⟩ => by
   subst w1; subst w4
   obtain ⟨c, c1, c2⟩ := WS (l := (List.range 26).map (65 + ·)) (st := s) (i := (cell + x * (0 + (i : Int))) % 26) (by omega) (by simp; omega) (by simp)
   refine ⟨.int (0 + i), _, by simp only [JD, if_pos hi], rfl, .inr ⟨s, tx [c], s, rfl, ?_, by show _ < 1000000; rw [List.length_map]; omega, w ++ [c], by rw [List.map_append]; rfl, by rw [List.length_append, List.length_singleton, w2], fun d hd => ?_, rfl⟩⟩
   ·k_in
    rw [c2]
    rfl
   ·rcases ZAh.mp hd with z | z
    ·exact w3 d z
    ·rw [ZAd.mp z]
     have hc := ZA9 c1
     obtain ⟨k, hk, rfl⟩ := ZAY.mp hc
     rw [J7]
     have := ZBG.mp hk
     omega) (fun s acc _ => by simp only [JD, if_neg (Nat.lt_irrefl _)])
 rw [e1]
 subst e2; subst e5
 try k_in
 rw [JP (by omega)]
 try k_in
 exact ⟨w, _, rfl, gB, e3, e4⟩
theorem two {cell : Int} : ∃ a b, Zt [.int cell] st = .ok (tx [a, b]) st /\ YlE a = true /\ YlE b = true := by
 unfold Zt Vc
 simp only [Yjw]
 have low : ∀ (i : Int), 0 <= i -> i < 26 -> ∃ c, YlE c = true /\ ixP (tx ((List.range 26).map (97 + ·))) (.int i) st = some (tx [c], st) := fun i h0 h1 => by
  obtain ⟨c, c1, c2⟩ := WS (l := (List.range 26).map (97 + ·)) (st := st) (i := i) h0 (by simp; omega) (by simp)
  refine ⟨c, ?_, c2⟩
  obtain ⟨k, hk, rfl⟩ := ZAY.mp (ZA9 c1)
  rw [YaT]
  have := ZBG.mp hk
  omega
 try k_in
 obtain ⟨a, a1, a2⟩ := low (cell % 26) (by omega) (by omega)
 rw [a2]
 try k_in
 obtain ⟨b, b1, b2⟩ := low ((cell + 1 + cell / 26 % 25) % 26) (by omega) (by omega)
 rw [b2]
 try k_in
 exact ⟨a, b, rfl, a1, b1⟩
theorem YeF (N : List Nat) : (N.map fun c => tx [c]).all YlO = true := by
 rw [ZA7]
 intro x hx
 obtain ⟨c, _, rfl⟩ := ZAY.mp hx
 rfl
def Let (l : List Nat) : Prop := ∀ c ∈ l, YlE c = true \/ isUp c = true
theorem Let.nil : Let [] := fun c h => (by cases h)
theorem Let.app {a b : List Nat} (h : Let a) (g : Let b) : Let (a ++ b) := fun c hc => (ZAh.mp hc).elim (h c) (g c)
theorem Let.one (h : YlE c = true \/ isUp c = true) : Let [c] := fun d hd => by rw [ZAd.mp hd]; exact h
theorem Let.take {a : List Nat} (h : Let a) (n : Nat) : Let (a.take n) := fun c hc => h c (ZB8 hc)
theorem Let.drop {a : List Nat} (h : Let a) (n : Nat) : Let (a.drop n) := fun c hc => h c (List.mem_of_mem_drop hc)
theorem ix40 {s : Ylo} (h : s[k]? = some (.lst (ns.map P.int))) (h40 : ns.length = 40) {i : Int} (h0 : 0 <= i) (h1 : i < 40) : ixP (.ref k) (.int i) s = some (.int (ns.getD i.toNat 0), s) :=
 ZB h h0 (by
  have hi : i.toNat < ns.length := by omega
  rw [ZAZ, ZAT hi, ZBs, ZAT hi]
  rfl)
section
variable {nm : List Nat} {a b : Nat} {k4 k6 : Nat}
theorem YhR {e : Nat} {us : List Nat} {v11 v12 v13 v14 v15 : Option P} (h40 : ns.length = 40) (hnm : nm.length = 6) (hup : ∀ c ∈ nm, isUp c = true) (ha : YlE a = true) (hb : YlE b = true) (he : e <= 1) (hn : n <= 9) (h4 : st[k4]? = some (.lst (ns.map P.int))) (h6 : st[k6]? = some (.lst (us.map fun c => tx [c]))) (hne : k4 ≠ k6) (hus : us.length <= 100) :
 ∃ (l r us' : List Nat) (v11' v12' v13' v14' v15' : Option P) (s' : Ylo), Ymb (Ymy 0 n) (Ylp 11) Zo n 0 [v0, v1, some (tx nm), some (tx [a, b]), some (.ref k4), v5, some (.ref k6), v7, some (.int (0 + (e : Int))), some (tx []), some (tx []), v11, v12, v13, v14, v15] st =
  .nx [v0, v1, some (tx nm), some (tx [a, b]), some (.ref k4), v5, some (.ref k6), v7, some (.int (0 + (e : Int))), some (tx l), some (tx r), v11', v12', v13', v14', v15'] s' /\ l.length = n /\ r.length = n /\ Let l /\ Let r /\ s'[k6]? = some (.lst (us'.map fun c => tx [c])) /\ us'.length <= us.length + n /\ YlA k6 st s' := by
 obtain ⟨ρ', s', f1, l, r, us', v11', v12', v13', v14', v15', f2, f3, f4, f5, f6, f7, f8, f9⟩ := YH (src := Ymy 0 n) (g := Ylp 11) (m := Zo) (N := n) (ρ := [v0, v1, some (tx nm), some (tx [a, b]), some (.ref k4), v5, some (.ref k6), v7, some (.int (0 + (e : Int))), some (tx []), some (tx []), v11, v12, v13, v14, v15]) (st := st) (List.range n) (fun (k : Nat) => P.int (0 + k))
  (fun i ρ s => ∃ (l r us' : List Nat) (v11 v12 v13 v14 v15 : Option P), ρ = [v0, v1, some (tx nm), some (tx [a, b]), some (.ref k4), v5, some (.ref k6), v7, some (.int (0 + (e : Int))), some (tx l), some (tx r), v11, v12, v13, v14, v15] /\ l.length = i /\ r.length = i /\ Let l /\ Let r /\ s[k6]? = some (.lst (us'.map fun c => tx [c])) /\ us'.length <= us.length + i /\ YlA k6 st s) (by simp) (fun i ρ s hi _ => nxR)
  ⟨[], [], us, v11, v12, v13, v14, v15, rfl, rfl, rfl, Let.nil, Let.nil, h6, by omega, YlA.refl⟩
  (fun i hi ρ s ⟨l, r, us', v11, v12, v13, v14, v15, q1, q2, q3, q4, q5, q6, q7, q8⟩ => by
   show 67
   rw [ei]
   show 180
   have g4 := q8 k4 _ hne h4
   have hks : k6 < s.length := (ZAB.mp q6).1
   unfold Zo
   generalize hT : (Ylt (YlB 15 _) _ : MS) = T
   try k_in
   rw [ix40 g4 h40 (i := 9 * (0 + (e : Int)) + (0 + (i : Int))) (by omega) (by omega)]
   generalize ns.getD (9 * (0 + (e : Int)) + (0 + (i : Int))).toNat 0 = x
   try k_in
   obtain ⟨c, c1, c2⟩ := WS (l := [a, b]) (st := s) (i := x / 8 % 2) (by omega) (by simp; omega) (by simp)
   have hcl : YlE c = true := by
    have := ZA9 c1
    rcases ZAc.mp this with rfl | h
    ·exact ha
    ·rw [ZAd.mp h]; exact hb
   rw [c2]
   try k_in
   obtain ⟨d, d1, d2⟩ := WS (l := nm) (st := s) (i := x * 48271 % 65521 % 6) (by omega) (by rw [hnm]; omega) (by omega)
   have hdu := hup d (ZA9 d1)
   rw [d2]
   try k_in
   have tail : ∀ (s2 : Ylo) (f : Nat) (us2 : List Nat), (YlE f = true \/ isUp f = true) -> s2[k4]? = some (.lst (ns.map P.int)) -> s2[k6]? = some (.lst (us2.map fun c => tx [c])) -> us2.length <= us.length + (i + 1) -> YlA k6 st s2 ->
    ∃ ρ' s', (Ylt (YlB 15 (Ylq Yms (Ylq YmS (Ylq ixP (Yll 4) (Ylq Yl1 (Ylq Yl1 (eC (.int 20)) (Ylq YmX (eC (.int 9)) (Yll 8))) (Yll 11))) (eC (.int 5))) (Ylq Yl1 (eB Ymw (Ylm (Yll 10) Yls)) (eC (.int 1)))))
     (Ylt (YlB 9 (Ylq Yl1 (Yll 9) (Yll 13)))
     (YlB 10 (Ylq Yl1 (Ylq Yl1 (eSl (Yll 10) Ym7 (Ym8 (Yll 15))) (Yll 13)) (eSl (Yll 10) (Ym8 (Yll 15)) Ym7))))) [v0, v1, some (tx nm), some (tx [a, b]), some (.ref k4), v5, some (.ref k6), v7, some (.int (0 + (e : Int))), some (tx l), some (tx r), some (.int (0 + (i : Int))), some (.int x), some (tx [f]), some (tx [d]), v15] s2 = .nx ρ' s' /\
    ∃ (l r us' : List Nat) (v11 v12 v13 v14 v15 : Option P), ρ' = [v0, v1, some (tx nm), some (tx [a, b]), some (.ref k4), v5, some (.ref k6), v7, some (.int (0 + (e : Int))), some (tx l), some (tx r), v11, v12, v13, v14, v15] /\ l.length = i + 1 /\ r.length = i + 1 /\ Let l /\ Let r /\ s'[k6]? = some (.lst (us'.map fun c => tx [c])) /\ us'.length <= us.length + (i + 1) /\ YlA k6 st s' := by
    intro s2 f us2 hf t4 t6 tu tk
    try k_in
    rw [ix40 t4 h40 (i := 20 + 9 * (0 + (e : Int)) + (0 + (i : Int))) (by omega) (by omega)]
    generalize ns.getD (20 + 9 * (0 + (e : Int)) + (0 + (i : Int))).toNat 0 = y
    try k_in
    obtain ⟨p, hp, hpl⟩ : ∃ p : Nat, y / 5 % ((r.length : Int) + 1) = (p : Int) /\ p <= r.length := ⟨(y / 5 % ((r.length : Int) + 1)).toNat, by
     have := Int.emod_nonneg (y / 5) (b := (r.length : Int) + 1) (by omega)
     omega, by
     have := Int.emod_lt_of_pos (y / 5) (b := (r.length : Int) + 1) (by omega)
     omega⟩
    rw [hp]
    have tl : (r.take p).length <= 10 := by rw [ZAm]; omega
    have dl : (r.drop p).length <= 10 := by rw [ZBm]; omega
    try k_in
    refine ⟨_, _, rfl, l ++ [f], (r.take p ++ [f]) ++ r.drop p, us2, _, _, _, _, _, rfl, by simp [q2], ?_, q4.app (Let.one hf), ((q5.take p).app (Let.one hf)).app (q5.drop p), t6, tu, tk⟩
    simp only [List.length_append, List.length_take, List.length_drop, List.length_singleton]
    omega
   by_cases h5 : x % 8 < 5
   ·rw [ZAa h5]
    try k_in
    rw [YcG (q := .ref k6) (show Yl4 (.ref k6) s = _ from Yg q6) rfl (YeF us')]
    try k_in
    generalize ((us'.map fun c => tx [c]).any fun y => eqF y (tx [d])) = bb
    cases bb with
    | true =>
     show 24
     exact tail s c us' (.inl hcl) g4 q6 (by omega) q8
    | false =>
     try k_in
     rw [Zb q6]
     try k_in
     rw [Zm q6 (by rw [ZAK]; omega)]
     show 24
     exact tail _ d (us' ++ [d]) (.inr hdu) (by rw [ZAL (ZAs hne)]; exact g4) (by rw [ZAR hks, ZAU]; rfl) (by rw [ZAJ, ZAg]; omega) (q8.trans YlA.set)
   ·rw [ZAS h5]
    show 24
    exact tail s c us' (.inl hcl) g4 q6 (by omega) q8)
 rw [ZA4] at f3 f4 f8
 exact ⟨l, r, us', v11', v12', v13', v14', v15', s', by rw [f1, f2], f3, f4, f5, f6, f7, f8, f9⟩
end
theorem Yc7 (xs : List Mk) : ∀ d ∈ firsts xs, d ∈ xs := by
 have key : ∀ (xs ds : List Mk), ∀ d ∈ xs.foldl fst1 ds, d ∈ xs \/ d ∈ ds := by
  intro xs
  induction xs with
  | nil => intro ds d h; exact .inr h
  | cons x xs ih =>
   intro ds d h
   rcases ih _ d h with z | z
   ·exact .inl (ZAQ _ z)
   ·unfold fst1 at z
    split at z
    ·exact .inr z
    ·rcases ZAh.mp z with y | y
     ·exact .inr y
     ·rw [ZAd.mp y]; exact .inl (ZAM ..)
 intro d h
 rcases key xs [] d h with z | z
 ·exact z
 ·cases z
theorem YgT {l r : Rp} {ps : List (Mk × Mk)} (g : Gd r) (cr : Con r ps) (ur : Uni r ps) (cl : Con l ps) (ul : Uni l ps) : YoR (marks len N) N len l = told len N r := by
 have hi : ∀ a b, (∃ x, a = r x) -> (∃ x, b = r x) -> l a = l b -> a = b := fun a b ⟨x, hx⟩ ⟨y, hy⟩ h => by
  subst hx; subst hy
  exact Yio g cr ul h
 have hs : ∀ a, (∃ x, a = r x) -> (l a).isS = a.isS := fun a ⟨x, hx⟩ => by
  subst hx
  exact YiF g cr cl ul x
 have hr : ∀ a ∈ (marks len N).map r, ∃ x, a = r x := fun a ha => by
  obtain ⟨x, _, rfl⟩ := ZAY.mp ha
  exact ⟨x, rfl⟩
 have e1 : (marks len N).map l = ((marks len N).map r).map l := by
  rw [ZA3]
  exact ZBZ fun x _ => (Yfu ur cl x).symm
 have e2 : firsts ((marks len N).map l) = (firsts ((marks len N).map r)).map l := by
  rw [e1]
  exact YcF hi hs _ [] hr (fun a h => (by cases h))
 unfold YoR told
 rw [e2]
 refine ZBI P.tup (ZBZ fun u _ => ZBI P.tup (ZBZ fun x _ => ?_))
 rw [<- Yfu ur cl x]
 have hx : ∃ y, r x = r y := ⟨x, rfl⟩
 have h1 := hs _ hx
 unfold shw Yod
 rw [h1]
 cases e : (r x).isS with
 | true =>
  rw [ZAF rfl, ZAF rfl]
  obtain ⟨c, hc⟩ := isS_iff.mp e
  rw [hc, cl.sg]
  rfl
 | false =>
  rw [if_neg (by simp), if_neg (by simp), YdJ hi (fun a ha => hr a (Yc7 _ a ha)) hx]
theorem JK {N : List Nat} {len : Nat -> Nat} {r : Rp} (x : Mk) (ds : List Mk) : (∃ c, shw ds x = tx c) \/ ∃ k : Nat, shw ds x = .int k := by
 unfold shw
 cases e : x.isS with
 | true =>
  rw [ZAF rfl]
  obtain ⟨c, hc⟩ := isS_iff.mp e
  exact .inl ⟨[c], by rw [hc]; rfl⟩
 | false => exact .inr ⟨_, by rw [if_neg (by simp)]⟩
theorem YeQ {r : Rp} : YlW 8 (told len N r) = true := by
 unfold told
 have key : ∀ (f : Nat -> List Mk) (ds : List Mk), (N.map fun u => P.tup ((f u).map fun x => shw ds (r x))).all (YlW 7) = true := fun f ds => by
  rw [ZA7]
  intro p hp
  obtain ⟨u, _, rfl⟩ := ZAY.mp hp
  show ((f u).map fun x => shw ds (r x)).all (YlW 6) = true
  rw [ZA7]
  intro q hq
  obtain ⟨x, _, rfl⟩ := ZAY.mp hq
  rcases JK (N := N) (len := len) (r := r) (r x) ds with ⟨c, hc⟩ | ⟨k, hk⟩
  ·rw [hc]; rfl
  ·rw [hk]; rfl
 exact key (fun u => (List.range (len u)).map (Mk.pl u)) _
theorem Yjx {ρ0 ρ1 : Option P} {xs : List P} (h : ∀ p ∈ xs, (∃ c, p = tx c) \/ ∃ k : Nat, p = .int k) : ∃ w2, Ymb (Ym3 xs) (Ylp 2) YQ xs.length 0 [ρ0, ρ1, v2] st = .nx [ρ0, ρ1, w2] st := by
 obtain ⟨ρ', s', f1, w2, f2, f3⟩ := YH (src := Ym3 xs) (g := Ylp 2) (m := YQ) (N := xs.length) (ρ := [ρ0, ρ1, v2]) (st := st) xs (fun p => p)
  (fun i ρ s => ∃ w2, ρ = [ρ0, ρ1, w2] /\ s = st) rfl (fun i ρ s hi _ => by rw [Ybn]; simp) ⟨v2, rfl, rfl⟩
  (fun i hi ρ s ⟨w2, q1, q2⟩ => by
   subst q1; subst q2
   show 180
   unfold YQ
   rcases h xs[i] (ZAb hi) with ⟨c, hc⟩ | ⟨k, hk⟩
   ·rw [hc]
    try k_in
    exact ⟨_, _, rfl, _, rfl, rfl⟩
   ·rw [hk]
    try k_in
    exact ⟨_, _, rfl, _, rfl, rfl⟩)
 exact ⟨w2, by rw [f1, f2, f3]⟩
theorem Ye9 {rows : List (List P)} (h : ∀ xs ∈ rows, ∀ p ∈ xs, (∃ c, p = tx c) \/ ∃ k : Nat, p = .int k) : Yr [.tup (rows.map P.tup)] st = .ok (.bl true) st := by
 unfold Yr Zs
 generalize hT : (sFor _ _ _ : MS) = T
 show 115
 obtain ⟨ρ', s', f1, w1, w2, f2, f3⟩ := YH (src := Ym3 (rows.map P.tup)) (g := Ylp 1) (m := l2__law_is_places) (N := (rows.map P.tup).length) (ρ := [some (.tup (rows.map P.tup)), none, none]) (st := st) rows P.tup
  (fun i ρ s => ∃ w1 w2, ρ = [some (.tup (rows.map P.tup)), w1, w2] /\ s = st) (by rw [ZAK]) (fun i ρ s hi _ => nxL) ⟨none, none, rfl, rfl⟩
  (fun i hi ρ s ⟨w1, w2, q1, q2⟩ => by
   subst q1; subst q2
   show 180
   unfold l2__law_is_places
   generalize hT : (sFor _ _ _ : MS) = T
   show 115
   obtain ⟨w, hw⟩ := Yjx (ρ0 := some (.tup (rows.map P.tup))) (ρ1 := some (.tup rows[i])) (st := s) (v2 := w2) (h rows[i] (ZAb hi))
   rw [hw]
   exact ⟨_, _, rfl, _, _, rfl, rfl⟩)
 rw [f1, f2, f3]
 try k_in
theorem Yh2 {r : Rp} : Yr [told len N r] st = .ok (.bl true) st := by
 have e : told len N r = .tup ((N.map fun u => ((List.range (len u)).map (Mk.pl u)).map fun x => shw (firsts ((marks len N).map r)) (r x)).map P.tup) := by
  unfold told
  rw [ZA3]
  rfl
 rw [e]
 refine Ye9 fun xs hx p hp => ?_
 obtain ⟨u, _, rfl⟩ := ZAY.mp hx
 obtain ⟨x, _, rfl⟩ := ZAY.mp hp
 exact JK (N := N) (len := len) (r := r) _ _
def up26 : List Nat := (List.range 26).map (65 + ·)
theorem standing {tb : Sys} (h : (Ymf tb).length <= 63) (h6 : tb.length <= 50) : ∃ N : List Nat, YB [.tup (tb.map YlN)] st = .ok (.ref st.length) (st ++ [.lst (N.map fun c => tx [c])]) /\ Ynh N /\ (∀ c, c ∈ N ↔ c ∈ Ymf tb /\ isUp c = true) /\ N.length <= 26 := by
 unfold YB ZE
 simp only [WD, Yf7]
 generalize hT : (sRet _ : MS) = T
 try k_in
 rw [ZAK, Wi tb YlN (fun e => tx (e.1 ++ e.2)) rfl (fun i _ => nxL) (by omega) (fun e he => ⟨[some (tx e.1), some (tx e.2)], rfl, by
  have := YbZ he
  k_in⟩)]
 try k_in
 rw [show (tb.map fun e => tx (e.1 ++ e.2)) = (tb.map fun e => e.1 ++ e.2).map tx by rw [ZA3]; rfl]
 have e2 : (tb.map fun e => e.1 ++ e.2).flatten = Ymf tb := by unfold Ymf; rw [List.flatMap_def]
 rw [Jc (by rw [e2]; omega), e2]
 show 115
 have eU : (List.map (fun x => 65 + x) (List.range 26)) = up26 := rfl
 rw [eU]
 rw [JH up26 (fun c => tx [c]) (fun c => decide (c ∈ Ymf tb)) (fun c => tx [c]) (by simp [up26]) (fun i hi => nxS hi) (by simp [up26]) (fun c hc => ⟨_, rfl, by
  try k_in
  rw [YfX]
  try k_in, fun _ => by try k_in⟩)]
 try k_in
 refine ⟨up26.filter fun c => decide (c ∈ Ymf tb), rfl, ?_, fun c => ?_, ?_⟩
 ·exact List.Pairwise.filter _ (by unfold up26; decide +kernel)
 ·rw [ZCO, ZCB, J7]
  have : c ∈ up26 ↔ 65 <= c /\ c <= 90 := by
   unfold up26
   rw [ZAY]
   constructor
   ·rintro ⟨k, hk, rfl⟩
    have := ZBG.mp hk
    omega
   ·intro ⟨a, b⟩
    exact ⟨c - 65, ZBG.mpr (by omega), by omega⟩
  show 164
  exact And.comm
 ·exact Nat.le_trans (List.length_filter_le _ _) (by simp [up26])
structure OkS (tb : Sys) : Prop where
 each : ∀ e ∈ tb, e.1.length <= 10 /\ e.2.length <= 10
 lets : ∀ e ∈ tb, Let e.1 /\ Let e.2
theorem OkS.snoc {tb : Sys} (h : OkS tb) {l r : List Nat} (hl : l.length <= 10) (hr : r.length <= 10) (al : Let l) (ar : Let r) : OkS (tb ++ [(l, r)]) := ⟨fun e he => by
 rcases ZAh.mp he with z | z
 ·exact h.each e z
 ·rw [ZAd.mp z]; exact ⟨hl, hr⟩, fun e he => by
 rcases ZAh.mp he with z | z
 ·exact h.lets e z
 ·rw [ZAd.mp z]; exact ⟨al, ar⟩⟩
theorem ix2 {a b : Nat} {s : Ylo} : ixP (tx [a, b]) (.int 0) s = some (tx [a], s) /\ ixP (tx [a, b]) (.int 1) s = some (tx [b], s) := by
 obtain ⟨c, c1, c2⟩ := WS (l := [a, b]) (st := s) (i := 0) (by omega) (by simp) (by simp)
 obtain ⟨d, d1, d2⟩ := WS (l := [a, b]) (st := s) (i := 1) (by omega) (by simp) (by simp)
 have e1 : c = a := by simpa using c1.symm
 have e2 : d = b := by simpa using d1.symm
 subst e1; subst e2
 exact ⟨c2, d2⟩
theorem Ygo {k4 : Nat} (hk : st[k]? = some (.ro (cs.map P.int))) (h40 : ns.length = 40) (h4 : st[k4]? = some (.lst (ns.map P.int))) (hne : k ≠ k4) (hn : n <= 18) (hc : n = 0 \/ n + 10 <= cs.length) :
 ∃ (ns' : List Int) (v5 : Option P) (s' : Ylo), Ymb (Ymy 0 n) (Ylp 5) Zi n 0 ([some (.ref k), v1, v2, v3, some (.ref k4), none] ++ tl) st = .nx ([some (.ref k), v1, v2, v3, some (.ref k4), v5] ++ tl) s' /\ ns'.length = 40 /\ s'[k4]? = some (.lst (ns'.map P.int)) /\ YlA k4 st s' := by
 obtain ⟨ρ', s', f1, ns', v5, f2, f3, f4, f5⟩ := YH (src := Ymy 0 n) (g := Ylp 5) (m := Zi) (N := n) (ρ := [some (.ref k), v1, v2, v3, some (.ref k4), none] ++ tl) (st := st) (List.range n) (fun (k : Nat) => P.int (0 + k))
  (fun i ρ s => ∃ (ns' : List Int) (v5 : Option P), ρ = [some (.ref k), v1, v2, v3, some (.ref k4), v5] ++ tl /\ ns'.length = 40 /\ s[k4]? = some (.lst (ns'.map P.int)) /\ YlA k4 st s) (by simp) (fun i ρ s hi _ => nxR)
  ⟨ns, none, rfl, h40, h4, YlA.refl⟩
  (fun i hi ρ s ⟨ns', v5, q1, q2, q3, q4⟩ => by
   show 67
   rw [ei]
   show 180
   have gk := q4 k _ hne hk
   have hks : k4 < s.length := (ZAB.mp q3).1
   have hci : 10 + i < cs.length := by omega
   unfold Zi
   try k_in
   rw [Yd0 gk (i := 10 + (0 + (i : Int))) (by omega) (p := .int cs[10 + i]) (by
    rw [show (10 + (0 + (i : Int))).toNat = 10 + i by omega, ZAZ, ZAT hci]; rfl)]
   try k_in
   rw [Ya1 q3 (by omega) (by rw [ZAK]; omega)]
   refine ⟨_, _, rfl, ns'.set (0 + (i : Int)).toNat (cs[10 + i] % 2147483647), _, rfl, by rw [ZBw, q2], ?_, q4.trans YlA.set⟩
   rw [ZAR hks, List.map_set])
 exact ⟨ns', v5, s', by rw [f1, f2], f3, f4, f5⟩
section
variable {nm : List Nat} {a b : Nat} {k4 k6 k7 : Nat} {first : Int}
theorem Yhd (h40 : ns.length = 40) (hnm : nm.length = 6) (hup : ∀ c ∈ nm, isUp c = true) (ha : YlE a = true) (hb : YlE b = true) (h4 : st[k4]? = some (.lst (ns.map P.int))) (h6 : st[k6]? = some (.lst [])) (h7 : st[k7]? = some (.lst [])) (h46 : k4 ≠ k6) (h47 : k4 ≠ k7) (h67 : k6 ≠ k7) (hn : n <= 2) :
 ∃ (tb : Sys) (ρ' : Rho) (s' : Ylo) (o : Option P), Ymb (Ymy 0 n) (Ylp 8) Zn n 0 [v0, some (.int first), some (tx nm), some (tx [a, b]), some (.ref k4), v5, some (.ref k6), some (.ref k7), none, none, none, none, none, none, none, none] st =
  .nx ρ' s' /\ ρ'[7]? = some (some (.ref k7)) /\ OkS tb /\ tb.length = n /\ s'[k7]? = some (.lst (tb.map YlN)) /\ (∀ j o, j ≠ k6 -> j ≠ k7 -> st[j]? = some o -> s'[j]? = some o) := by
 obtain ⟨ρ', s', f1, tb, us, v8, v9, v10, v11, v12, v13, v14, v15, f2, f3, f4, f5, f6, f7, f8⟩ := YH (src := Ymy 0 n) (g := Ylp 8) (m := Zn) (N := n) (ρ := [v0, some (.int first), some (tx nm), some (tx [a, b]), some (.ref k4), v5, some (.ref k6), some (.ref k7), none, none, none, none, none, none, none, none]) (st := st) (List.range n) (fun (k : Nat) => P.int (0 + k))
  (fun i ρ s => ∃ (tb : Sys) (us : List Nat) (v8 v9 v10 v11 v12 v13 v14 v15 : Option P), ρ = [v0, some (.int first), some (tx nm), some (tx [a, b]), some (.ref k4), v5, some (.ref k6), some (.ref k7), v8, v9, v10, v11, v12, v13, v14, v15] /\ OkS tb /\ tb.length = i /\ us.length <= 9 * i /\ s[k6]? = some (.lst (us.map fun c => tx [c])) /\ s[k7]? = some (.lst (tb.map YlN)) /\ (∀ j o, j ≠ k6 -> j ≠ k7 -> st[j]? = some o -> s[j]? = some o)) (by simp) (fun i ρ s hi _ => nxR)
  ⟨[], [], none, none, none, none, none, none, none, none, rfl, ⟨fun e h => (by cases h), fun e h => (by cases h)⟩, rfl, by simp, h6, h7, fun j o _ _ h => h⟩
  (fun i hi ρ s ⟨tb, us, v8, v9, v10, v11, v12, v13, v14, v15, q1, q2, q3, q4, q5, q6, q7⟩ => by
   show 67
   rw [ei]
   show 180
   unfold Zn
   simp only [s_e]
   generalize hU : (Ylt (sIf _ _ _) _ : MS) = U
   try k_in
   have hs : s.length = s.length := rfl
   obtain ⟨d, hd0, hd1, hix⟩ : ∃ d : Int, 0 < d /\ d <= 18 /\ ixP (.ref s.length) (.int (0 + (i : Int))) (s ++ [.lst [.int 2, .int 18]]) = some (.int d, s ++ [.lst [.int 2, .int 18]]) := by
    have hi2 : i = 0 \/ i = 1 := by omega
    rcases hi2 with rfl | rfl
    ·exact ⟨2, by omega, by omega, ZB Yq (by omega) rfl⟩
    ·exact ⟨18, by omega, by omega, ZB Yq (by omega) rfl⟩
   rw [hix]
   try k_in
   obtain ⟨m, hm, hm9⟩ : ∃ m : Nat, 1 + first / d % 9 = (m : Int) /\ m <= 9 := ⟨(1 + first / d % 9).toNat, by omega, by omega⟩
   rw [hm]
   try k_in
   try rw [ZA0]
   have hg : Ylx s (s ++ [.lst [.int 2, .int 18]]) := Ylx.one
   obtain ⟨l, r, us', w11, w12, w13, w14, w15, s2, t1, t2, t3, t4, t5, t6, t7, t8⟩ := YhR (ns := ns) (nm := nm) (a := a) (b := b) (k4 := k4) (k6 := k6) (v0 := v0) (v1 := some (.int first)) (v5 := v5) (v7 := some (.ref k7)) (e := i) (n := m) (st := s ++ [.lst [.int 2, .int 18]]) (us := us) (v11 := v11) (v12 := v12) (v13 := v13) (v14 := v14) (v15 := v15) h40 hnm hup ha hb (by omega) hm9 (hg.get (q7 k4 _ h46 h47 h4)) (hg.get q5) h46 (by omega)
   rw [t1]
   try k_in
   subst hU
   have g4 := t8 k4 _ h46 (hg.get (q7 k4 _ h46 h47 h4))
   have g7 := t8 k7 _ (ZAs h67) (hg.get q6)
   have hk7 : k7 < s2.length := (ZAB.mp g7).1
   have tail : ∀ (r2 : List Nat), Let r2 -> r2.length <= 10 -> ∃ ρ' s', (sDrop (eM Ymq Yl5 (Yll 7) (Ylm (Yob (Ylm (Yll 9) (Ylm (Yll 10) Yls))) Yls)) : MS) [v0, some (.int first), some (tx nm), some (tx [a, b]), some (.ref k4), v5, some (.ref k6), some (.ref k7), some (.int (0 + (i : Int))), some (tx l), some (tx r2), w11, w12, w13, w14, w15] s2 = .nx ρ' s' /\
    ∃ (tb : Sys) (us : List Nat) (v8 v9 v10 v11 v12 v13 v14 v15 : Option P), ρ' = [v0, some (.int first), some (tx nm), some (tx [a, b]), some (.ref k4), v5, some (.ref k6), some (.ref k7), v8, v9, v10, v11, v12, v13, v14, v15] /\ OkS tb /\ tb.length = i + 1 /\ us.length <= 9 * (i + 1) /\ s'[k6]? = some (.lst (us.map fun c => tx [c])) /\ s'[k7]? = some (.lst (tb.map YlN)) /\ (∀ j o, j ≠ k6 -> j ≠ k7 -> st[j]? = some o -> s'[j]? = some o) := by
    intro r2 hr2 hrl
    try k_in
    rw [Zb g7]
    try k_in
    rw [Zm g7 (by rw [ZAK]; omega)]
    try k_in
    refine ⟨_, _, rfl, tb ++ [(l, r2)], us', _, _, _, _, _, _, _, _, rfl, q2.snoc (by omega) hrl t4 hr2, by rw [ZAJ, q3]; rfl, by omega, by rw [ZAL (ZAs h67)]; exact t6, by rw [ZAR hk7, ZAU]; rfl, fun j o j6 j7 hj => ?_⟩
    rw [ZAL (ZAs j7)]
    exact t8 j o j6 (hg.get (q7 j o j6 j7 hj))
   generalize hV : (sDrop _ : MS) = V at tail ⊢
   have two : ∀ (r2 : List Nat), Let r2 -> r2.length <= 10 -> ∃ ρ' s', (Ylt (sIf (Yl0 (Ylq eqP (Ylq Yms (Ylq ixP (Yll 4) (eC (.int 39))) (eC (.int 8))) (eC (.int 2))))
    (YlB 10 (Ylq Yl1 (Ylq ixP (Yll 3) (eC (.int 1))) (eSl (Yll 10) (Ym8 (eC (.int 1))) Ym7)))
    Yl8) V : MS) [v0, some (.int first), some (tx nm), some (tx [a, b]), some (.ref k4), v5, some (.ref k6), some (.ref k7), some (.int (0 + (i : Int))), some (tx l), some (tx r2), w11, w12, w13, w14, w15] s2 = .nx ρ' s' /\
    ∃ (tb : Sys) (us : List Nat) (v8 v9 v10 v11 v12 v13 v14 v15 : Option P), ρ' = [v0, some (.int first), some (tx nm), some (tx [a, b]), some (.ref k4), v5, some (.ref k6), some (.ref k7), v8, v9, v10, v11, v12, v13, v14, v15] /\ OkS tb /\ tb.length = i + 1 /\ us.length <= 9 * (i + 1) /\ s'[k6]? = some (.lst (us.map fun c => tx [c])) /\ s'[k7]? = some (.lst (tb.map YlN)) /\ (∀ j o, j ≠ k6 -> j ≠ k7 -> st[j]? = some o -> s'[j]? = some o) := by
    intro r2 hr2 hrl
    try k_in
    rw [ix40 g4 h40 (i := 39) (by omega) (by omega)]
    generalize ns.getD (39 : Int).toNat 0 = x
    try k_in
    generalize (x % 8 == 2) = q
    cases q with
    | false =>
     try k_in
     exact tail r2 hr2 hrl
    | true =>
     try k_in
     rw [ix2.2]
     try k_in
     have hsl : slP (tx r2) (some 1) none s2 = some (tx (r2.drop 1), s2) := Ya4 (a := 1) (by omega)
     rw [hsl]
     have dl : (r2.drop 1).length <= 9 := by rw [ZBm]; omega
     try k_in
     exact tail (b :: r2.drop 1) ((Let.one (.inl hb)).app (hr2.drop 1)) (by rw [ZA2]; omega)
   generalize hW : (Ylt (sIf _ _ _) V : MS) = W at two ⊢
   try k_in
   rw [ix40 g4 h40 (i := 39) (by omega) (by omega)]
   generalize ns.getD (39 : Int).toNat 0 = x
   try k_in
   generalize (x % 8 == 1) = q
   cases q with
   | false =>
    try k_in
    exact two r t5 (by omega)
   | true =>
    try k_in
    rw [ix2.1]
    try k_in
    exact two (r ++ [a]) (t5.app (Let.one (.inl ha))) (by rw [ZAJ, ZAg]; omega))
 rw [ZA4] at f4
 exact ⟨tb, ρ', s', none, f1, by rw [f2]; rfl, f3, f4, f7, f8⟩
end
theorem YcO (hk : st[k]? = some (.ro (cs.map P.int))) (hcs : cs.length <= 63) : ∃ (tb : Sys) (s' : Ylo), YL [.ref k] st = .ok (.tup (tb.map YlN)) s' /\ OkS tb /\ tb.length <= 2 /\ s'[k]? = some (.ro (cs.map P.int)) := by
 have hkl : k < st.length := (ZAB.mp hk).1
 unfold YL Z6
 generalize hT : (Ylt (sFor _ _ _) _ : MS) = T
 try k_in
 rw [show Ym [.ref k, .int 0] st = _ from Vk 0 hk]
 try k_in
 rw [show Ym [.ref k, .int 1] st = _ from Vk 1 hk]
 try k_in
 generalize cs.getD 0 0 = first
 generalize cs.getD 1 0 = sec
 obtain ⟨nm, s1, a1, a2, a3, a4⟩ := names6 (cell := sec) (st := st)
 rw [a1]
 try k_in
 have hk1 := a2.get hk
 rw [show Ym [.ref k, .int 1] s1 = _ from Vk 1 hk1]
 try k_in
 obtain ⟨a, b, b1, b2, b3⟩ := two (cell := cs.getD 1 0 / 312) (st := s1)
 rw [b1]
 try k_in
 rw [show Ym [.ref k, .int 2] s1 = _ from Vk 2 hk1]
 try k_in
 obtain ⟨ns, c1, c2⟩ := mixed (cell := cs.getD 2 0) (st := s1)
 rw [c1]
 show 24
 have hk2 : (s1 ++ [O.lst (ns.map P.int)])[k]? = some (.ro (cs.map P.int)) := Ylx.one.get hk1
 have h1l := a2.len
 generalize hT : (Ylt (YlB 6 _) _ : MS) = T
 try k_in
 rw [YbW hk2]
 try k_in
 obtain ⟨n, hn, hn18, hnc⟩ : ∃ n : Nat, (if (18 : Int) < ((cs.map P.int).length : Int) - 10 then (18 : Int) else ((cs.map P.int).length : Int) - 10).toNat = n /\ n <= 18 /\ (n = 0 \/ n + 10 <= cs.length) := ⟨_, rfl, by split <;> omega, by rw [ZAK]; split <;> omega⟩
 rw [hn]
 obtain ⟨ns', v5, s2, d1, d2, d3, d4⟩ := Ygo (k := k) (cs := cs) (ns := ns) (v1 := some (.int first)) (v2 := some (tx nm)) (v3 := some (tx [a, b])) (k4 := s1.length) (tl := [none, none, none, none, none, none, none, none, none, none]) (st := s1 ++ [O.lst (ns.map P.int)]) hk2 c2 Yq (by omega) hn18 hnc
 rw [show ([some (.ref k), some (.int first), some (tx nm), some (tx [a, b]), some (.ref s1.length), none, none, none, none, none, none, none, none, none, none, none] : Rho) = [some (.ref k), some (.int first), some (tx nm), some (tx [a, b]), some (.ref s1.length), none] ++ [none, none, none, none, none, none, none, none, none, none] from rfl, d1]
 show 24
 have hk3 := d4 k _ (by omega) hk2
 have k4l : s1.length < s2.length := (ZAB.mp d3).1
 have k0l : k < s2.length := (ZAB.mp hk3).1
 generalize hT : (sRet _ : MS) = T
 try k_in
 obtain ⟨m, hm, hm2⟩ : ∃ m : Nat, 1 + first % 2 = (m : Int) /\ m <= 2 := ⟨(1 + first % 2).toNat, by omega, by omega⟩
 rw [hm]
 try k_in
 try rw [ZA0]
 have gB : Ylx s2 (s2 ++ [.lst []] ++ [.lst []]) := Ylx.one.trans Ylx.one
 obtain ⟨tb, ρ', s3, _, e1, e2, e3, e4, e5, e6⟩ := Yhd (ns := ns') (nm := nm) (a := a) (b := b) (k4 := s1.length) (k6 := s2.length) (k7 := (s2 ++ [O.lst []]).length) (v0 := some (.ref k)) (v5 := v5) (first := first) (st := s2 ++ [.lst []] ++ [.lst []]) d2 a3 a4 b2 b3 (gB.get d3) (Ylx.one.get Yq) Yq (by omega) (by rw [ZAJ]; omega) (by rw [ZAJ]; show s2.length ≠ s2.length + 1; omega) hm2
 rw [e1]
 subst hT
 have lk : ρ'[7]?.join = some (.ref (s2 ++ [O.lst []]).length) := by rw [e2]; rfl
 refine ⟨tb, s3, ?_, e3, by omega, e6 k _ (by omega) (by rw [ZAJ]; omega) (gB.get hk3)⟩
 simp only [Yht, x_eB, Jw, Ybw, VZ, e2, RS.seq_nx, R.bind_ok, Option.join_some, YcD, ZS (Yg e5), Ymd, RS.ofE_ok, YdR]
theorem YeH (cs : List Int) : Yna (cs.map P.int) = some cs := by
 induction cs with
 | nil => rfl
 | cons a r ih => show (Yna (r.map P.int)).map (a :: ·) = _; rw [ih]; rfl
theorem YjM (h : st[k]? = some (.lst (cs.map P.int))) : Yow [.ref k] st = some (.int cs.sum, st) := by
 show Yor k st = _
 unfold Yor
 rw [Yg h]
 show 145
 rw [YeH]
 rfl
theorem Yfr : ∀ (N ls : List Nat), N.Nodup -> ls.length = N.length -> (∀ x ∈ ls, x <= 20) -> ∃ len : Nat -> Nat, (∀ u, len u <= 20) /\ N.map len = ls
 | [], [], _, _, _ => ⟨fun _ => 0, fun _ => ZBN _, rfl⟩
 | [], _ :: _, _, h, _ => by cases h
 | _ :: _, [], _, h, _ => by cases h
 | u :: N, x :: ls, nd, h, hx => by
  obtain ⟨n1, n2⟩ := ZBv.mp nd
  obtain ⟨len, l1, l2⟩ := Yfr N ls n2 (by simpa using h) (fun y hy => hx y (List.mem_cons_of_mem _ hy))
  refine ⟨fun v => if v = u then x else len v, fun v => ?_, ?_⟩
  ·show (if v = u then x else len v) <= 20
   split
   ·exact hx x (ZAM ..)
   ·exact l1 v
  ·rw [ZAX, ZAF rfl, <- l2]
   refine ZBI _ (ZBZ fun v hv => ?_)
   rw [ZAE]
   intro z
   rw [z] at hv
   exact n1 hv
abbrev Yn2 (ls : List Nat) : List P := (ls.map fun (x : Nat) => (x : Int)).map P.int
theorem lens {k3 : Nat} (hk : st[0]? = some (.ro (cs.map P.int))) (h3 : st[k3]? = some (.lst [])) (hn : n <= 26) :
 ∃ (ls : List Nat) (v4 : Option P) (s' : Ylo), Ymb (Ymy 0 n) (Ylp 4) YbB n 0 [some (.ref 0), v1, v2, some (.ref k3), none, v5, v6] st = .nx [some (.ref 0), v1, v2, some (.ref k3), v4, v5, v6] s' /\ ls.length = n /\ (∀ x ∈ ls, x <= 20) /\ s'[k3]? = some (.lst (Yn2 ls)) /\ YlA k3 st s' := by
 have h03 : 0 ≠ k3 := fun z => by rw [<- z, hk] at h3; cases h3
 obtain ⟨ρ', s', f1, ls, v4, f2, f3, f4, f5, f6, f7, f8⟩ := YH (src := Ymy 0 n) (g := Ylp 4) (m := YbB) (N := n) (ρ := [some (.ref 0), v1, v2, some (.ref k3), none, v5, v6]) (st := st) (List.range n) (fun (k : Nat) => P.int (0 + k))
  (fun i ρ s => ∃ (ls : List Nat) (v4 : Option P), ρ = [some (.ref 0), v1, v2, some (.ref k3), v4, v5, v6] /\ ls.length = i /\ (∀ x ∈ ls, x <= 20) /\ s[k3]? = some (.lst (Yn2 ls)) /\ YlA k3 st s /\ 0 <= (ls.map fun (x : Nat) => (x : Int)).sum /\ (ls.map fun (x : Nat) => (x : Int)).sum <= 60) (by simp) (fun i ρ s hi _ => nxR)
  ⟨[], none, rfl, rfl, fun x h => (by cases h), h3, YlA.refl, by simp, by simp⟩
  (fun i hi ρ s ⟨ls, v4, q1, q2, q3, q4, q5, q6, q7⟩ => by
   show 67
   rw [ei]
   show 180
   have hk' := q5 0 _ h03 hk
   have hks : k3 < s.length := (ZAB.mp q4).1
   unfold YbB
   try k_in
   rw [Zb q4]
   try k_in
   have c := Vk (k := 0) (3 + i) hk'
   rw [show (((3 + i : Nat)) : Int) = 3 + (0 + (i : Int)) by omega] at c
   rw [c]
   generalize cs.getD (3 + i) 0 = y
   try k_in
   rw [YjM q4]
   try k_in
   generalize hS : (ls.map fun (x : Nat) => (x : Int)).sum = S at q6 q7
   obtain ⟨m, hm, hm20, hmS⟩ : ∃ m : Nat, (if 60 - S < y % 20 then 60 - S else y % 20) = (m : Int) /\ m <= 20 /\ (m : Int) <= 60 - S := ⟨(if 60 - S < y % 20 then 60 - S else y % 20).toNat, by split <;> omega, by split <;> omega, by split <;> omega⟩
   try rw [hS]
   rw [hm, Zm q4 (by rw [ZAK, ZAK]; omega)]
   try k_in
   refine ⟨_, _, rfl, ls ++ [m], _, rfl, by rw [ZAJ, q2]; rfl, fun x hx => ?_, ?_, q5.trans YlA.set, ?_, ?_⟩
   ·rcases ZAh.mp hx with z | z
    ·exact q3 x z
    ·rw [ZAd.mp z]; exact hm20
   ·rw [ZAR hks]
    unfold Yn2
    rw [ZAU, ZAU]
    rfl
   ·rw [ZAU, List.sum_append, hS]
    simp
    omega
   ·rw [ZAU, List.sum_append, hS]
    simp
    omega)
 rw [ZA4] at f3
 exact ⟨ls, v4, s', by rw [f1, f2], f3, f4, f5, f6⟩
theorem holds : Law 63 Ycm := fun cs hl => by
 unfold Ycm Yf1
 generalize hT : (Ylt (YlB 3 _) _ : MS) = T
 k_in
 generalize hst0 : [O.ro (cs.map P.int)] = st0
 have k0 : st0[0]? = some (.ro (cs.map P.int)) := by rw [<- hst0]; rfl
 obtain ⟨tb, s1, a1, a2, a3, a4⟩ := YcO (k := 0) (cs := cs) (st := st0) k0 (by omega)
 show 45
 have hall : (Ymf tb).length <= 63 := by
  have key : ∀ tb : Sys, (∀ e ∈ tb, e.1.length <= 10 /\ e.2.length <= 10) -> (Ymf tb).length <= 20 * tb.length := by
   intro tb
   induction tb with
   | nil => intro _; simp [Ymf]
   | cons e tb ih =>
    intro h
    have a := ih fun d hd => h d (ZAQ _ hd)
    have b := h e (ZAM ..)
    unfold Ymf at a ⊢
    rw [ZBk, ZAJ, ZAJ, ZA2]
    omega
  have := key tb a2.each
  omega
 have hlet : ∀ c ∈ Ymf tb, YlE c = true \/ isUp c = true := fun c hc => by
  obtain ⟨e, he, hce⟩ := mem_allL.mp hc
  rcases hce with z | z
  ·exact (a2.lets e he).1 c z
  ·exact (a2.lets e he).2 c z
 obtain ⟨N, b1, b2, b3, b4⟩ := standing (tb := tb) (st := s1) hall (by omega)
 rw [b1]
 k_in
 have nd : N.Nodup := b2.imp fun h => ZAN h
 have hlow : ∀ u ∈ N, YlE u = false := fun u hu => by
  have := ((b3 u).mp hu).2
  cases e : YlE u with
  | false => rfl
  | true => rw [Yal e] at this; cases this
 have inN : ∀ e ∈ tb, ∀ c, (c ∈ e.1 \/ c ∈ e.2) -> YlE c = false -> c ∈ N := fun e he c hc hlw => by
  have hm := mem_allL.mpr ⟨e, he, hc⟩
  rcases hlet c hm with z | z
  ·rw [z] at hlw; cases hlw
  ·exact (b3 c).mpr ⟨hm, z⟩
 generalize hB : s1 ++ [O.lst (N.map fun c => tx [c])] = B
 have gB : Ylx s1 B := by rw [<- hB]; exact Ylx.one
 have kB : B[s1.length]? = some (.lst (N.map fun c => tx [c])) := by rw [<- hB]; exact Yq
 have gC : Ylx B (B ++ [O.lst []]) := Ylx.one
 have hsB : s1.length < B.length := (ZAB.mp kB).1
 subst hT
 generalize hT : (Ylt (YlB 5 _) _ : MS) = T
 k_in
 rw [ZH (gC.get kB)]
 show 39
 try k_in
 try rw [WA (by omega) (by omega)]
 try k_in
 rw [ZA0]
 obtain ⟨ls, v4, s2, c1, c2, c3, c4, c5⟩ := lens (cs := cs) (v1 := some (.tup (tb.map YlN))) (v2 := some (.ref s1.length)) (v5 := none) (v6 := none) (k3 := B.length) (st := B ++ [O.lst []]) (n := N.length) (gC.get (gB.get a4)) Yq b4
 rw [c1]
 obtain ⟨len, l1, l2⟩ := Yfr N ls nd c2 c3
 have k2 : s2[s1.length]? = some (.lst (N.map fun u => tx [u])) := c5 _ _ (by omega) (gC.get kB)
 have k3 : s2[B.length]? = some (.lst (N.map fun u => .int (len u : Nat))) := by
  rw [c4, <- l2]
  unfold Yn2
  rw [ZA3, ZA3]
  rfl
 subst hT
 generalize hT : (Ylt (YlB 6 _) _ : MS) = T
 k_in
 have fin : ∀ (d : P) (s3 : Ylo), Ym1 s2 s3 -> (∃ (t : P), (∀ s, ∃ s', WJ [.tup (tb.map YlN), .tup (N.map fun u => .int (len u : Nat))] s = .ok t s') /\ ((t = .non /\ d = .non) \/ (t = d /\ isP d .non = (fun s => some (.bl false, s)) /\ (∀ s, Yr [t] s = .ok (.bl true) s) /\ YlW 8 t = true))) ->
  ∃ s', Yn8 ((Ylt (YlB 6 (YlK 2 WJ (Ylm (Yll 1) (Ylm (eB Ymd (Ylm (Yll 3) Yls)) Yls))))
 (Ylt (sIf (Yl0 (Ylq isP (Yll 5) (eC .non)))
 (sRet (Ylq isP (Yll 6) (eC .non)))
 Yl8)
 (sRet (YoB (YlK 1 Yr (Ylm (Yll 6) Yls)) (Ylq eqP (Yll 6) (Yll 5))))) : MS) [some (.ref 0), some (.tup (tb.map YlN)), some (.ref s1.length), some (.ref B.length), v4, some d, none] s3) = .ok (.bl true) s' := by
  intro d s3 K ⟨t, ht, hd⟩
  have k4 := K _ _ k3
  k_in
  rw [show Ymd [.ref B.length] s3 = _ from ZS (Yg k4)]
  k_in
  obtain ⟨s4, e4⟩ := ht s3
  rw [e4]
  k_in
  rcases hd with ⟨rfl, rfl⟩ | ⟨rfl, h1, h2, h3⟩
  ·k_in
   exact ⟨_, rfl⟩
  ·rw [h1]
   k_in
   rw [h2]
   k_in
   rw [Yfd h3]
   k_in
   exact ⟨_, rfl⟩
 have htd := fun s => tied (st := s) l1 a3 a2.each b2 b3 hlet b4
 rcases Yhy (st := s2) (kn := s1.length) (kl := B.length) nd l1 a3 a2.each inN hlow b4 k2 k3 with ⟨s3, d1, d2, d3⟩ | ⟨l, s3, d1, d2, d3, d4, d5, d6⟩
 ·rw [d1]
  show 97
  refine fin .non s3 d3 ⟨.non, fun s => ?_, .inl ⟨rfl, rfl⟩⟩
  obtain ⟨s', e⟩ := htd s
  refine ⟨s', ?_⟩
  rw [e]
  rcases d2 with z | z
  ·rw [ZAE z]
  ·cases er : Yl6 (fun x => x) (pairsOf (Ylr len tb)) with
   | none => split <;> rfl
   | some r =>
    have := JF _ YfQ Ydz Yc8 er
    rw [ZB7] at this
    exact absurd this.2.1 (z r)
 ·rw [d1]
  show 97
  cases er : Yl6 (fun x => x) (pairsOf (Ylr len tb)) with
  | none =>
   have := Ycp _ YfQ Ydz Yc8 er l
   rw [ZB7] at this
   exact absurd d5 this
  | some r =>
   have hr := JF _ YfQ Ydz Yc8 er
   rw [ZB7] at hr
   have et := YgT (N := N) (len := len) hr.1 hr.2.1 hr.2.2 d5 d4
   rw [et]
   refine fin _ s3 d6 ⟨told len N r, fun s => ?_, .inr ⟨rfl, rfl, fun s => Yh2, YeQ⟩⟩
   obtain ⟨s', e⟩ := htd s
   exact ⟨s', by rw [e, ZAF d2, er]⟩
end G
end
def PySem.W.Fast.tw1990754187203060561 : Unit := ()
def PySem.W.Fast.tw3629829072392986947 : Unit := ()
def PySem.W.Fast.tw17513600816461937324 : Unit := ()
def PySem.W.Fast.tw12189988187494442753 : Unit := ()
def PySem.W.Fast.tw8723076954884804630 : Unit := ()
def PySem.W.Fast.tw11191725031403843719 : Unit := ()
def PySem.W.Fast.tw3928302808095484520 : Unit := ()
def PySem.W.Fast.tw12087390989498239557 : Unit := ()
def PySem.W.Fast.tw8809175811613196632 : Unit := ()
def PySem.W.Fast.tw5528356761449277843 : Unit := ()
def PySem.W.Fast.tw2970003707454723385 : Unit := ()
def PySem.W.Fast.tw4124949258559719315 : Unit := ()
def PySem.W.Fast.tw12713758139396429492 : Unit := ()
def PySem.W.Fast.tw17577640621493202644 : Unit := ()
def PySem.W.Fast.tw7343982661000857951 : Unit := ()
def PySem.W.Fast.tw15840175354491318537 : Unit := ()
def PySem.W.Fast.tw15395671156767602691 : Unit := ()
def PySem.W.Fast.tw9293973400017641593 : Unit := ()
def PySem.W.Fast.tw9963085981683367258 : Unit := ()
def PySem.W.Fast.tw18128624342370351821 : Unit := ()
def PySem.W.Fast.tw16830963076615249396 : Unit := ()
def PySem.W.Fast.tw13828616921297179715 : Unit := ()
def PySem.W.Fast.tw12135057085183561533 : Unit := ()
def PySem.W.Fast.tw9704062448752693863 : Unit := ()
def PySem.W.Fast.tw1524795912694860265 : Unit := ()
def PySem.W.Fast.tw16011140186030993476 : Unit := ()
def PySem.W.Fast.tw6410703132121471816 : Unit := ()
def PySem.W.Fast.tw18136590760380593382 : Unit := ()
def PySem.W.Fast.tw10863522641820842432 : Unit := ()
def PySem.W.Fast.tw12597444534237460421 : Unit := ()
def PySem.W.Fast.tw4124845139436556125 : Unit := ()
def PySem.W.Fast.tw12540335961273744109 : Unit := ()
def PySem.W.Fast.tw12651883355408525889 : Unit := ()
def PySem.W.Fast.tw589737312278286946 : Unit := ()
def PySem.W.Fast.tw11800886775196967722 : Unit := ()
def PySem.W.Fast.tw17607450721876197660 : Unit := ()
def PySem.W.Fast.tw10798250428516425855 : Unit := ()
def PySem.W.Fast.tw5137196181312043984 : Unit := ()
def PySem.W.Fast.tw12154360522992926188 : Unit := ()
open PySem PySem.W PyProof.Rows
set_option maxRecDepth 100000 in
set_option maxHeartbeats 0 in
theorem PySem.Challenge.cw_gapwords_k51_places_tied_holds : PySem.Challenge.rw_gapwords_k51_places_tied.Holds := by
 w_on; o_law; k_head; (case hw => w_witness2)
 k_fill
 refine G.walk rfl rfl (fun w h Y => PySem.W.kIn_of Y) (fun w => ?S) G.holds
 case S =>
  refine' ⟨(Mi.Ylu.of ?_ ?_ ?_ ?_), (Mi.Ylu.of ?_ ?_ ?_ ?_), (Mi.Ylu.of ?_ ?_ ?_ ?_), (Mi.Ylu.of ?_ ?_ ?_ ?_), (Mi.Ylu.of ?_ ?_ ?_ ?_), (Mi.Ylu.of ?_ ?_ ?_ ?_), (Mi.Ylu.of ?_ ?_ ?_ ?_), (Mi.Ylu.of ?_ ?_ ?_ ?_), (Mi.Ylu.of ?_ ?_ ?_ ?_), (Mi.Ylu.of ?_ ?_ ?_ ?_), (Mi.Ylu.of ?_ ?_ ?_ ?_), (Mi.Ylu.of ?_ ?_ ?_ ?_), (Mi.Ylu.of ?_ ?_ ?_ ?_), (Mi.Ylu.of ?_ ?_ ?_ ?_), (Mi.Ylu.of ?_ ?_ ?_ ?_), (Mi.Ylu.of ?_ ?_ ?_ ?_), (Mi.Ylu.of ?_ ?_ ?_ ?_), (Mi.Ylu.of ?_ ?_ ?_ ?_), (Mi.Ylu.of ?_ ?_ ?_ ?_), (Mi.Ylu.of ?_ ?_ ?_ ?_), (Mi.Ylu.of ?_ ?_ ?_ ?_), (Mi.Ylu.of ?_ ?_ ?_ ?_), (Mi.Ylu.of ?_ ?_ ?_ ?_), ?_, ?_, ?_, ?_, ?_, ?_, ?_, ?_, ?_, ?_, ?_, ?_, ?_, ?_⟩
  any_goals (first | k_is | k_exc | kit_is)
  all_goals kernel_rfl
#print axioms PySem.Challenge.cw_gapwords_k51_places_tied_holds
