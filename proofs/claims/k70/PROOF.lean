import PyProof.Rows.All
import Wide.All
import OpenK.AllK
import Wide.FinOn
import PyProof.EqAt
import PyProof.EqKinds
import PyProof.TupleCall
import Lean
import PySem.Challenge.RW_gapwords_k70_fillings_that_fit
set_option Elab.async false
set_option linter.all false
set_option maxRecDepth 100000
section
set_option hygiene false
local macro_rules
|`(tactic|show 150)=>`(tactic|try walk_at "ev")
|`(tactic|show 151)=>`(tactic|walk_at "ev")
|`(tactic|show 152)=>`(tactic|exact h.elim)
|`(tactic|show 153)=>`(tactic|rfl)
|`(tactic|show 154)=>`(tactic|dsimp only)
|`(tactic|show 155)=>`(tactic|cases h)
|`(tactic|show 156)=>`(tactic|refine Ya ?_ ?_)
|`(tactic|show 157)=>`(tactic|exact Yd)
|`(tactic|show 158)=>`(tactic|exact rfl)
|`(tactic|show 159)=>`(tactic|exact (jv 0))
|`(tactic|show 160)=>`(tactic|exact (jv 1))
|`(tactic|show 161)=>`(tactic|exact ⟨rfl, rfl, rfl, by decide +kernel, rfl, by decide +kernel, by decide +kernel⟩)
|`(tactic|show 162)=>`(tactic|exact Yb)
|`(tactic|show 163)=>`(tactic|exact (jv 3))
|`(tactic|show 164)=>`(tactic|rw [q] at h; exact h)
|`(tactic|show 165)=>`(tactic|subst e)
|`(tactic|show 166)=>`(tactic|exact (jv 4))
|`(tactic|show 167)=>`(tactic|rw [q] at h)
|`(tactic|show 168)=>`(tactic|intro pins s σ H Q I h)
|`(tactic|show 169)=>`(tactic|rw [e])
local macro_rules
|`(tactic|show 170)=>`(tactic|cases rx)
|`(tactic|show 171)=>`(tactic|exact (jv 2))
|`(tactic|show 172)=>`(tactic|refine Yc ?_ ?_)
|`(tactic|show 173)=>`(tactic|exact h1.elim)
|`(tactic|show 174)=>`(tactic|exact h'.elim)
|`(tactic|show 175)=>`(tactic|exact YW)
|`(tactic|show 176)=>`(tactic|refine ZAA ?_)
|`(tactic|show 177)=>`(tactic|refine Yg ?_)
|`(tactic|show 178)=>`(tactic|refine Y4 ?_)
|`(tactic|show 179)=>`(tactic|exact (jv 5))
|`(tactic|show 180)=>`(tactic|rw [q] at h; cases h)
|`(tactic|show 181)=>`(tactic|obtain ⟨t, rfl⟩ := rx)
|`(tactic|show 182)=>`(tactic|exact (jv 6))
|`(tactic|show 183)=>`(tactic|refine Yv ?_ ?_ ?_ ?_)
|`(tactic|show 184)=>`(tactic|subst hP hw hK)
|`(tactic|show 185)=>`(tactic|exact (fun _ _ => rfl))
|`(tactic|show 186)=>`(tactic|intro pins s σ H D I h)
|`(tactic|show 187)=>`(tactic|exact q)
|`(tactic|show 188)=>`(tactic|exact (nomark _))
|`(tactic|show 189)=>`(tactic|refine ⟨_, rfl, ?_⟩)
local macro_rules
|`(tactic|show 190)=>`(tactic|have hl := rv.length)
|`(tactic|show 191)=>`(tactic|rw [this])
|`(tactic|show 192)=>`(tactic|simpa using this)
|`(tactic|show 193)=>`(tactic|dsimp only at h1)
|`(tactic|show 194)=>`(tactic|intro pins s σ H x y v u Q I rx ry h)
|`(tactic|show 195)=>`(tactic|rw [q] at h; exact h.elim)
|`(tactic|show 196)=>`(tactic|obtain ⟨vs, h1, h2⟩ := ob)
|`(tactic|show 197)=>`(tactic|refine YL ?_ ?_ ?_)
|`(tactic|show 198)=>`(tactic|obtain ⟨f0, f1, f2, f3, f4, f5⟩ := hf it (by simp))
|`(tactic|show 199)=>`(tactic|exact XOk.ext x h)
|`(tactic|show 200)=>`(tactic|cases ry)
|`(tactic|show 201)=>`(tactic|exact YK)
|`(tactic|show 202)=>`(tactic|refine YJ ?_)
|`(tactic|show 203)=>`(tactic|by_cases e : p.1 = k)
|`(tactic|show 204)=>`(tactic|rw [z] at h; cases h)
|`(tactic|show 205)=>`(tactic|rw [ZAJ (by decide)])
|`(tactic|show 206)=>`(tactic|subst q1; subst q2)
|`(tactic|show 207)=>`(tactic|obtain ⟨o', e1⟩ := I.base.there b o e hx)
|`(tactic|show 208)=>`(tactic|rw [ZAJ z] at h'; exact h'.elim)
|`(tactic|show 209)=>`(tactic|rw [q] at e; cases e)
local macro_rules
|`(tactic|show 210)=>`(tactic|repeat (any_goals (first | assumption | wp_step)))
|`(tactic|show 211)=>`(tactic|exact False.elim hq)
|`(tactic|show 212)=>`(tactic|obtain ⟨t, rfl⟩ := r; rfl)
|`(tactic|show 213)=>`(tactic|have hn := line63)
|`(tactic|show 214)=>`(tactic|by_cases hb : b = a)
|`(tactic|show 215)=>`(tactic|exact (show False from r).elim)
|`(tactic|show 216)=>`(tactic|rw [q] at h'; exact h'.elim)
|`(tactic|show 217)=>`(tactic|exact hu)
|`(tactic|show 218)=>`(tactic|rw [q2] at h2; exact h2)
|`(tactic|show 219)=>`(tactic|obtain ⟨sl, e1⟩ := I.base.slot b o e n hb hx)
|`(tactic|show 220)=>`(tactic|have z_len := O.z_len)
|`(tactic|show 221)=>`(tactic|exact (fun _ => rfl))
|`(tactic|show 222)=>`(tactic|exact (VG hu8))
|`(tactic|show 223)=>`(tactic|refine Zy ?_)
|`(tactic|show 224)=>`(tactic|intro pins s σ H xs us Q I r h)
|`(tactic|show 225)=>`(tactic|obtain ⟨t, rfl⟩ := r1)
|`(tactic|show 226)=>`(tactic|intro pins s σ H R I ⟨as, ρ, st, en, rp, h⟩)
|`(tactic|show 227)=>`(tactic|obtain ⟨e, n, ne, nf, d⟩ := I.pin p hp)
|`(tactic|show 228)=>`(tactic|exact Zr)
|`(tactic|show 229)=>`(tactic|simp only [z] at h'; exact h'.elim)
local macro_rules
|`(tactic|show 230)=>`(tactic|exact PySem.F.plainAttrs_str)
|`(tactic|show 231)=>`(tactic|obtain ⟨os, hos, hcs, hds⟩ := id hs)
|`(tactic|show 232)=>`(tactic|exact (jv 8))
|`(tactic|show 233)=>`(tactic|rcases hq with hq | hq)
|`(tactic|show 234)=>`(tactic|exact hQ h' s.toks fun b o hb e => b' b o (fun z => hb (by simp [z])) e)
|`(tactic|show 235)=>`(tactic|rw [ZAn])
|`(tactic|show 236)=>`(tactic|rw [h1] at k1; cases k1; rw [h2] at k2; exact absurd k2 (by decide))
|`(tactic|show 237)=>`(tactic|intro value slice pins s σ H x y v u Q I rx ry h hs)
|`(tactic|show 238)=>`(tactic|refine ZAA (ZAA (ZB7 ?_)))
|`(tactic|show 239)=>`(tactic|obtain ⟨t1, t2, t3, t4⟩ := tr e; exact hk _ v t1 t2 t3 t4 q)
|`(tactic|show 240)=>`(tactic|have z_tuple := O.z_tuple)
|`(tactic|show 241)=>`(tactic|have gB : YkP A B := by rw [<- hB]; exact YkP.one)
|`(tactic|show 242)=>`(tactic|refine Zj ?_ ?_ ?_)
|`(tactic|show 243)=>`(tactic|refine Ye ?_ ?_ ?_)
|`(tactic|show 244)=>`(tactic|obtain ⟨t, rfl⟩ := r)
|`(tactic|show 245)=>`(tactic|obtain ⟨h1, h2⟩ := h)
|`(tactic|show 246)=>`(tactic|rcases g with ⟨kvs, k, e, ey, l⟩ | ⟨kvs, k, b, e, ey, eb, l⟩)
|`(tactic|show 247)=>`(tactic|simp only [List.mem_cons, List.not_mem_nil, or_false, not_or] at hc; exact hc)
|`(tactic|show 248)=>`(tactic|exact absurd (show false = true from fx) ZAQ)
|`(tactic|show 249)=>`(tactic|intro pins s σ H x v R I rx h)
local macro_rules
|`(tactic|show 250)=>`(tactic|rcases hc with rfl | hc)
|`(tactic|show 251)=>`(tactic|exact h' as H _ Ext.refl rp .bl)
|`(tactic|show 252)=>`(tactic|rw [e2])
|`(tactic|show 253)=>`(tactic|obtain ⟨as, ρ, st, en, rp, h⟩ := h)
|`(tactic|show 254)=>`(tactic|rcases hc' with rfl | z1)
|`(tactic|show 255)=>`(tactic|rw [q1] at e'; cases e')
|`(tactic|show 256)=>`(tactic|intro pins s σ H Q I ⟨as, ρ, st, en, rp, h⟩)
|`(tactic|show 257)=>`(tactic|refine YcD (T := "tuple") ?_ ?_ ?_ ?_ ?_)
|`(tactic|show 258)=>`(tactic|rw [w] at h'; exact h'.elim)
|`(tactic|show 259)=>`(tactic|exact Option.some.inj h1)
|`(tactic|show 260)=>`(tactic|simp only [List.mem_cons, List.not_mem_nil, or_false] at hm)
|`(tactic|show 261)=>`(tactic|intro wh pins s σ H Q I h)
|`(tactic|show 262)=>`(tactic|intro pins s σ H x v vl vu lo hi sl Q I rx hs pl pu h)
|`(tactic|show 263)=>`(tactic|rw [r1, r2] at ez; cases ez)
|`(tactic|show 264)=>`(tactic|simp only [List.mem_cons, List.not_mem_nil, or_false] at hb)
|`(tactic|show 265)=>`(tactic|rw [q1, q2] at e'; cases e')
|`(tactic|show 266)=>`(tactic|exact (jv 12))
|`(tactic|show 267)=>`(tactic|have fz := hf z (by simp))
|`(tactic|show 268)=>`(tactic|simp only [s_e])
|`(tactic|show 269)=>`(tactic|refine Ym ?_ ?_ ?_)
local macro_rules
|`(tactic|show 270)=>`(tactic|rw [c2])
|`(tactic|show 271)=>`(tactic|simp only [List.mem_cons, List.not_mem_nil, or_false] at hc)
|`(tactic|show 272)=>`(tactic|obtain ⟨t', rfl⟩ := ry)
|`(tactic|show 273)=>`(tactic|exact PassesOwn.never)
|`(tactic|show 274)=>`(tactic|cases (show u = Value.ref b from ry))
|`(tactic|show 275)=>`(tactic|exact Zq)
|`(tactic|show 276)=>`(tactic|subst ey)
|`(tactic|show 277)=>`(tactic|refine W5 ?_)
|`(tactic|show 278)=>`(tactic|exact (jv 13))
|`(tactic|show 279)=>`(tactic|exact WX)
|`(tactic|show 280)=>`(tactic|obtain ⟨z, hd, vs, rel, dd⟩ := Jd I.hok e)
|`(tactic|show 281)=>`(tactic|refine Zw ?_ ?_ ?_ ?_ ?_)
|`(tactic|show 282)=>`(tactic|refine V6 ?_ ?_)
|`(tactic|show 283)=>`(tactic|exact (Y0 Zg))
|`(tactic|show 284)=>`(tactic|refine wpAny_bind (wpAny_setField_rec hI (by simp) fun h1 g1 b1 => ?_))
|`(tactic|show 285)=>`(tactic|refine L2.PW.pt ?_)
|`(tactic|show 286)=>`(tactic|have z_range := O.z_range)
|`(tactic|show 287)=>`(tactic|rw [r1])
|`(tactic|show 288)=>`(tactic|refine Yx (ps := ["_law_cell", "_law_k"]) (k := 1) ?_ ?_ ?_ ?_)
|`(tactic|show 289)=>`(tactic|refine YY ?_ ?_)
local macro_rules
|`(tactic|show 290)=>`(tactic|obtain ⟨i, j, rfl, rfl, q⟩ := h)
|`(tactic|show 291)=>`(tactic|refine ⟨?_, ?_, ?_⟩)
|`(tactic|show 292)=>`(tactic|exact PySem.F.plainAttrs_list)
|`(tactic|show 293)=>`(tactic|have hu := YX hr)
|`(tactic|show 294)=>`(tactic|exact YU)
|`(tactic|show 295)=>`(tactic|have fTO := hf TO (by simp))
|`(tactic|show 296)=>`(tactic|refine je_M (T := "list") (id := "list.append") ?_ ?_ ?_ ?_ ?_ ?_ ?_)
|`(tactic|show 297)=>`(tactic|exact (hr.mono (by decide)))
|`(tactic|show 298)=>`(tactic|rw [show its.toArray.any (eqU x) = its.any (eqU x) by simp, VB r fs])
|`(tactic|show 299)=>`(tactic|exact z_range)
|`(tactic|show 300)=>`(tactic|first | exact Or.inl rfl | exact Or.inr rfl)
|`(tactic|show 301)=>`(tactic|intro X hP hw hK hc i pins s σ H E I hf st hg)
|`(tactic|show 302)=>`(tactic|refine Yx (ps := ["_law_script", "_law_k"]) (k := 1) ?_ ?_ ?_ ?_)
|`(tactic|show 303)=>`(tactic|rcases hc with rfl | rfl | rfl | rfl <;> assumption)
|`(tactic|show 304)=>`(tactic|refine Zb ?_ ?_ ?_ ?_)
|`(tactic|show 305)=>`(tactic|exact z_len)
|`(tactic|show 306)=>`(tactic|exact Yj)
|`(tactic|show 307)=>`(tactic|exact sc.nd)
|`(tactic|show 308)=>`(tactic|exact (Yy (by decide)))
|`(tactic|show 309)=>`(tactic|have : its.toArray.size = i := by simp; omega)
local macro_rules
|`(tactic|show 310)=>`(tactic|exact F__law_cell_at)
|`(tactic|show 311)=>`(tactic|refine Wl ?_)
|`(tactic|show 312)=>`(tactic|exact YE)
|`(tactic|show 313)=>`(tactic|obtain ⟨o, e, c, d⟩ := st)
|`(tactic|show 314)=>`(tactic|exact ⟨o, e, fun v z => by rw [d] at z; cases z⟩)
|`(tactic|show 315)=>`(tactic|have f1 := hf i1 (by simp))
|`(tactic|show 316)=>`(tactic|refine Yt ?_)
|`(tactic|show 317)=>`(tactic|refine je_B (id := "len") ?_ ?_ ?_ ?_ ?_)
|`(tactic|show 318)=>`(tactic|exact PySem.F.type_list_append)
|`(tactic|show 319)=>`(tactic|have hu8 := Yz hr)
|`(tactic|show 320)=>`(tactic|exact ZY)
|`(tactic|show 321)=>`(tactic|intro C s₀ H₀ ex)
|`(tactic|show 322)=>`(tactic|intro f cdv A outer s H E hr)
|`(tactic|show 323)=>`(tactic|have f2 := hf i2 (by simp))
|`(tactic|show 324)=>`(tactic|refine Yr ?_ ?_ ?_ ?_)
|`(tactic|show 325)=>`(tactic|refine Yi ?_ ?_ ?_ ?_)
|`(tactic|show 326)=>`(tactic|rcases hc with rfl | rfl | rfl | rfl | rfl)
|`(tactic|show 327)=>`(tactic|refine VQ ?_ ?_)
|`(tactic|show 328)=>`(tactic|exact Yu)
|`(tactic|show 329)=>`(tactic|refine WT ?_)
local macro_rules
|`(tactic|show 330)=>`(tactic|exact Wh)
|`(tactic|show 331)=>`(tactic|have e : b = it := by simpa using hb)
|`(tactic|show 332)=>`(tactic|refine ZT ?_)
|`(tactic|show 333)=>`(tactic|exact z_tuple)
|`(tactic|show 334)=>`(tactic|have e : p = (s2.heap.objs.size, { cls := .type "list", data := .seq its.toArray m }) := by simpa using hp)
|`(tactic|show 335)=>`(tactic|obtain ⟨h1, h2, ⟨u0, v0, h3⟩, h4, h5⟩ := st)
|`(tactic|show 336)=>`(tactic|have e : b = s.heap.objs.size := by simpa using hb)
|`(tactic|show 337)=>`(tactic|exact PySem.F.slot_list_append)
|`(tactic|show 338)=>`(tactic|obtain ⟨z, hd, xs, rel, dd⟩ := JM I.hok e)
|`(tactic|show 339)=>`(tactic|exact YV)
|`(tactic|show 340)=>`(tactic|exact Yag)
|`(tactic|show 341)=>`(tactic|exact I.fpOk (ZAE _) (I.hok.fresh (ZAE _)))
local macro_rules|`(tactic|show $n:num)=>do
 let some l:=("322 139;243 306;297 91;172 138;177 316;243 328;308 140 269;324 217;162 185;269 90;52 8;157 3;332 156;5 51;159 157;301 184;162 53;317 294 158 305 339 156;93 1;270 151;156 171;197 159;158 158;171 162;4 340;2 35;90 158;34 275;157 157;172 141;181 272;2 159;1 162;158 333 320;158 300;160 156;156 162;157 185;172 92;304 142 156;162 17;287 150;169 153;202 162;282 183;194 290 30;201 4;3 175;94 183;7 278;29 178;243 312;7 159;162 188;223 329;179 156;243 330;156 163;276 280;268 151;271 326;271 303;298 187;177 146;156 32;220 286;334 165;336 165 341;309 191;228 202;157 156;157 283;201 3;292 337 318;159 185;155 196;295 315 323;5 288;276 274 338;147 296;95 313 314;56 162;39 17;37 4;7 163;7 160;28 283;1 166;15 335;15 198;307 34;158 156;242 183;177 138;34 311;331 165;302 310;54 157;38 222;31 36;150 235;206 189;252 150;156 166;156 55;156 35;202 1;157 201;162 228;160 157;159 162;154 284;170 200;98 13;96 99;3 97;3 13;57 157;2 232;2 55;2 14;40 182 37;16 18;7 171;7 179 8;36 11;1 171;1 1;10 162;35 14;140 145 143;145 144 144 279;156 266 157;156 179 28;149 188;148 13;34 143;34 279 275;325 90;293 319;321 291;281 273 158;158 299;289 269;289 9;327 158;242 285;177 277;7 182;17 14".splitOn ";")[n.getNat]?|Lean.Macro.throwUnsupported
 let a:=(l.splitOn " ").toArray.map fun s=>Lean.Syntax.mkNumLit s
 `(tactic|($[show $a:num];*))
set_option hygiene true
abbrev VSP := PySem.Value -> PySem.Shared -> Prop
abbrev LAO := List (PySem.Addr × PySem.Obj)
abbrev SOV := PySem.Str -> Option PySem.Value
open PySem.W (Frag fnOf nsIn)
section
open PySem PySem.Spec PyProof.Rows
def ZAA := @wpAny_bind
def ZAB := @Heap.get?_push_of_some
def ZAC := @wpAny_pure
def ZAD := @Heap.lt_size
def ZAE := @Nat.le_refl
def ZAF := @Heap.get?_push_size
def ZAG := @List.getElem?_eq_some_iff
def ZAH := @Nat.le_trans
def ZAI := @if_pos
def ZAJ := @if_neg
def ZAK := @List.length_append
def ZAL := @Nat.ne_of_lt
def ZAM := @decide_eq_false
def ZAN := @Nat.lt_of_lt_of_le
def ZAO := @List.length_map
def ZAP := @List.mem_append_right
def ZAQ := @Bool.false_ne_true
def ZAR := @List.getElem?_eq_getElem
def ZAS := @decide_eq_true
def ZAT := @Heap.get?_update_other
def ZAU := @List.mem_cons_self
def ZAV := @List.mem_cons
def ZAW := @List.length_singleton
def ZAX := @List.mem_singleton
def ZAY := @List.mem_append
def ZAZ := @List.size_toArray
def ZAa := @Heap.size_push
def ZAb := @wpAny_newObj_type
def ZAc := @List.take_of_length_le
def ZAd := @List.mem_cons_of_mem
def ZAe := @List.map_cons
def ZAf := @List.map_append
def ZAg := @wpAny_field
def ZAh := @List.getElem?_set_self
def ZAi := @List.length_drop
def ZAj := @List.getElem?_map
def ZAk := @List.getElem?_eq_none_iff
def ZAl := @wpAny_call_entry
def ZAm := @List.take_succ_eq_append_getElem
def ZAn := @Int.toNat_natCast
def ZAo := @List.mem_append_left
def ZAq := @Bool.and_eq_true
def ZAr := @List.getElem_mem
def ZAs := @of_decide_eq_true
def ZAt := @List.getElem?_append_left
def ZAu := @List.length_take
def ZAv := @List.all_eq_true
def ZAw := @wpAny_mono
def ZAx := @Heap.get?_update_self
def ZAy := @List.getElem?_set_ne
def ZAz := @Nat.lt_succ_self
def ZA0 := @List.drop_of_length_le
def ZA1 := @Ne.symm
def ZA2 := @List.getElem?_eq_none
def ZA3 := @Int.emod_lt_of_pos
def ZA4 := @Nat.min_eq_right
def ZA5 := @Nat.lt_irrefl
def ZA6 := @wpAny_holding
def ZA7 := @Int.emod_nonneg
def ZA8 := @List.mem_map
def ZA9 := @List.take_length
def ZBA := @List.map_map
def ZBB := @List.mem_of_getElem?
def ZBC := @wpAny_seqItems
def ZBD := @Nat.lt_succ_of_lt
def ZBE := @Nat.ne_of_gt
def ZBF := @Array.getElem?_eq_some_iff
def ZBG := @List.lookup_cons
def ZBH := @List.mem_filterMap
def ZBI := @wpAny_Call_Name_kw
def ZBJ := @List.length_filter_le
def ZBK := @Bool.and_eq_true_iff
def ZBL := @Nat.min_eq_left
def ZBM := @List.any_cons
def ZBN := @List.mem_filter
def ZBO := @wpAny_passesOwn
def ZBP := @Array.getElem?_toList
def ZBQ := @List.getElem?_append_right
def ZBR := @wpAny_setState_of
def ZBS := @List.mem_of_mem_take
def ZBT := @wpAny_askSetting
def ZBU := @List.filterMap_cons_none
def ZBV := @List.filterMap_cons_some
def ZBW := @List.append_nil
def ZBX := @List.length_set
def ZBY := @List.find?_eq_none
def ZBZ := @Nat.zero_le
def ZBa := @Array.getElem?_eq_none
def ZBb := @wpAny_truthy_bool
def ZBc := @wpAny_pyIter_list
def ZBd := @List.take_add_one
def ZBe := @List.length_range
def ZBf := @Nat.le_of_lt
def ZBg := @wpAny_typeOf
def ZBh := @List.map_nil
def ZBi := @List.set_append_right
def ZBj := @congrArg
def ZBk := @List.length_cons
def ZBl := @List.all_cons
def ZBm := @wpAny_attempt
def ZBn := @List.getD_eq_getElem?_getD
def ZBo := @Value.isStrOf_shape
def ZBp := @wpAny_execs_nil
def ZBq := @wpAny_Constant_int
def ZBr := @List.reverse_cons
def ZBs := @Bool.eq_false_iff
def ZBt := @List.filter_cons
def ZBu := @wpAny_pyIter_zip
def ZBv := @wpAny_isInstance
def ZBw := @List.of_mem_zip
def ZBx := @wpAny_rule
def ZBy := @wpAny_updateSeq_pair
def ZBz := @List.eq_nil_of_length_eq_zero
def ZB0 := @wpAny_runValue
def ZB1 := @wpAny_setField
def ZB2 := @List.dropLast_concat_getLast
def ZB3 := @Nat.le_succ
def ZB4 := @Nat.lt_of_le_of_lt
def ZB5 := @List.idxOf_lt_length_of_mem
def ZB6 := @List.length_eraseIdx_of_lt
def ZB7 := @wpAny_onRaise
def ZB8 := @List.map_take
def ZB9 := @List.take_nil
def ZCA := @List.nodup_iff_pairwise_ne
def ZCB := @wpAny_sequenceKey
def ZCC := @Option.isSome_map
def ZCD := @List.nodup_append
def ZCE := @List.pairwise_map
def ZCF := @List.flatMap_cons
def ZCG := @wpAny_load
def ZCH := @wpAny_letOwnedTupleGo_zip
def ZCI := @Array.getElem?_eq_getElem
def ZCJ := @List.drop_eq_getElem_cons
def ZCK := @List.mem_of_find?_eq_some
def ZCL := @List.set_eq_of_length_le
def ZCM := @wpAny_comprehension_free
def ZCN := @List.length_eq_zero_iff
def ZCO := @Nat.add_sub_cancel_left
def ZCP := @List.nodup_cons
def ZCQ := @List.foldl_cons
def ZCR := @wpAny_ite_split
def ZCS := @wpAny_Slice
def ZCT := @Option.map_eq_some_iff
def ZCU := @List.range_succ_eq_map
def ZCV := @List.filterMap_append
def ZCW := @List.drop_zero
def ZCX := @List.take_append_drop
def ZCY := @List.mem_range
def ZCZ := @List.set_getElem_self
def ZCa := @Heap.get?_none_of_le
def ZCb := @wpAny_call
def ZCc := @Nat.not_lt
def ZCd := @Array.toArray_toList
def ZCe := @List.mem_of_mem_drop
def ZCf := @Bool.false_or
def ZCg := @wpAny_standAt
def ZCh := @Nat.sub_self
end
set_option Elab.async false
set_option linter.all false
set_option maxRecDepth 100000
namespace L2
open PySem PySem.Spec PyProof.Rows
abbrev Key := Sum Int Str
def Ymy : Key -> Value -> Bool
 | .inl k, v => Value.isInt k v
 | .inr x, v => Value.isStrOf x v
def YoQ (w : World) : Key -> Int
 | .inl k => hashInt k
 | .inr x => hashStr w x
theorem YC : ∀ {k : Key} {v : Value}, Ymy k v = true -> (∃ i t, k = Sum.inl i /\ v = Value.int i t) \/ (∃ x t, k = Sum.inr x /\ v = Value.str x t)
 | .inl i, v, h => by
  obtain ⟨t, e⟩ := Value.isInt_shape (k := i) (v := v) h
  exact .inl ⟨i, t, rfl, e⟩
 | .inr x, v, h => by
  obtain ⟨t, e⟩ := ZBo (x := x) (v := v) h
  exact .inr ⟨x, t, rfl, e⟩
theorem Yd9 (i : Int) (t : Tok) : Ymy (.inl i) (.int i t) = true := by simp [Ymy, Value.isInt]
theorem YdX (x : Str) (t : Tok) : Ymy (.inr x) (.str x t) = true := by simp [Ymy, Value.isStrOf]
theorem YiI (a b : Int) : decide ((Sum.inl a : Key) = Sum.inl b) = (a == b) := by
 by_cases e : a = b
 ·subst e; simp
 ·have h : ¬ (Sum.inl a : Key) = Sum.inl b := fun q => e (Sum.inl.inj q)
  rw [ZAM h]
  exact (beq_eq_false_iff_ne.mpr e).symm
theorem Yix (a b : Str) : decide ((Sum.inr a : Key) = Sum.inr b) = decide (a = b) := by
 by_cases e : a = b
 ·subst e; simp
 ·have h : ¬ (Sum.inr a : Key) = Sum.inr b := fun q => e (Sum.inr.inj q)
  rw [ZAM h, ZAM e]
theorem Yi0 (a : Int) (b : Str) : decide ((Sum.inl a : Key) = Sum.inr b) = false := ZAM (fun q => nomatch q)
theorem YjK (a : Str) (b : Int) : decide ((Sum.inr a : Key) = Sum.inl b) = false := ZAM (fun q => nomatch q)
def Yk6 (prog : Program) (w : World) : PySem.KeyKind prog w Key where
 is := Ymy
 hash := YoQ w
 inj := fun v a b ha hb => by
  rcases YC ha with ⟨i, t, rfl, rfl⟩ | ⟨x, t, rfl, rfl⟩
  ·rcases YC hb with ⟨j, u, rfl, e⟩ | ⟨y, u, rfl, e⟩
   ·injection e with e1 _; rw [e1]
   ·exact nomatch e
  ·rcases YC hb with ⟨j, u, rfl, e⟩ | ⟨y, u, rfl, e⟩
   ·exact nomatch e
   ·injection e with e1 _; rw [e1]
 byValue := fun k v h => by
  rcases YC h with ⟨i, t, rfl, rfl⟩ | ⟨x, t, rfl, rfl⟩ <;> rfl
 pyHash := fun hv h => by
  rcases YC hv with ⟨i, t, rfl, rfl⟩ | ⟨x, t, rfl, rfl⟩
  ·exact wpAny_pyHash_int h
  ·exact wpAny_pyHash_str h
 eqBool := fun hu hv h => by
  rcases YC hu with ⟨i, t, rfl, rfl⟩ | ⟨x, t, rfl, rfl⟩
  ·rcases YC hv with ⟨j, u, rfl, rfl⟩ | ⟨y, u, rfl, rfl⟩
   ·rw [YiI] at h; exact wpAny_eqBool_int h
   ·rw [Yi0] at h; exact SeqAt.EqAt.int_str i t y u _ _ _ _ h
  ·rcases YC hv with ⟨j, u, rfl, rfl⟩ | ⟨y, u, rfl, rfl⟩
   ·rw [YjK] at h; exact SeqAt.EqAt.str_int x t j u _ _ _ _ h
   ·rw [Yix] at h; exact wpAny_eqBool_str h
 «strs» := fun k x t v h => by
  rcases YC h with ⟨i, u, rfl, e⟩ | ⟨y, u, rfl, e⟩
  ·exact nomatch e
  ·injection e with e1 _
   subst e1
   cases v <;> rfl
theorem YbT (prog : Program) (w : World) (i : Int) (t : Tok) : (Yk6 prog w).is (.inl i) (.int i t) = true := Yd9 i t
theorem Yb0 (prog : Program) (w : World) (x : Str) (t : Tok) : (Yk6 prog w).is (.inr x) (.str x t) = true := YdX x t
end L2
namespace L2
open PySem PySem.Spec PyProof.Rows
inductive V where
 | non | bl (b : Bool) | int (i : Int) | str (x : Str) | byt (b : Array UInt8) | flt (b : UInt64) | ref (a : Addr) | ty (n : String)
 deriving DecidableEq
def RelV : V -> Value -> Prop
 | .non, u => u = Value.none
 | .bl b, u => u = Value.bool b
 | .int i, u => ∃ t, u = Value.int i t
 | .str x, u => ∃ t, u = Value.str x t
 | .byt b, u => ∃ t, u = Value.bytes b t
 | .flt b, u => ∃ t, u = Value.float b t
 | .ref a, u => u = Value.ref a
 | .ty n, u => u = Value.type n
abbrev Vals : List V -> List Value -> Prop := Paired RelV
theorem Vals.length {xs : List V} {us : List Value} (r : Vals xs us) : xs.length = us.length := Paired.length r
theorem Vals.get : ∀ {xs : List V} {us : List Value} {i : Nat} {x : V}, Vals xs us -> xs[i]? = some x -> ∃ u, us[i]? = some u /\ RelV x u
 | _, _, _, _, .nil, e => by simp at e
 | _, _, 0, _, .cons r _, e => by simp at e; subst e; exact ⟨_, rfl, r⟩
 | _, _, i + 1, x, .cons _ t, e => by
  obtain ⟨u, h1, h2⟩ := Vals.get (i := i) (x := x) t (by simpa using e)
  exact ⟨u, by simpa using h1, h2⟩
theorem Vals.set {x : V} {u : Value} (r : RelV x u) : ∀ {xs : List V} {us : List Value} (i : Nat), Vals xs us -> Vals (xs.set i x) (us.set i u)
 | _, _, _, .nil => .nil
 | _, _, 0, .cons _ t => .cons r t
 | _, _, i + 1, .cons q t => .cons q (Vals.set r i t)
theorem Vals.append : ∀ {xs ys : List V} {us ws : List Value}, Vals xs us -> Vals ys ws -> Vals (xs ++ ys) (us ++ ws)
 | _, _, _, _, .nil, s => s
 | _, _, _, _, .cons r t, s => .cons r (Vals.append t s)
theorem Vals.take : ∀ {xs : List V} {us : List Value} (n : Nat), Vals xs us -> Vals (xs.take n) (us.take n)
 | _, _, 0, _ => .nil
 | _, _, _ + 1, .nil => .nil
 | _, _, n + 1, .cons r t => .cons r (Vals.take n t)
theorem Vals.drop : ∀ {xs : List V} {us : List Value} (n : Nat), Vals xs us -> Vals (xs.drop n) (us.drop n)
 | _, _, 0, r => r
 | _, _, _ + 1, .nil => .nil
 | _, _, n + 1, .cons _ t => Vals.drop n t
def Ymo : Option V -> Option Value -> Prop
 | some v, some u => RelV v u
 | none, none => True
 | _, _ => False
def KV {κ : Type} : List (κ × V) -> List (κ × Value) -> Prop := Paired fun (p : κ × V) (q : κ × Value) => p.1 = q.1 /\ RelV p.2 q.2
def kV : Key -> V
 | .inl i => .int i
 | .inr x => .str x
inductive HO where
 /-- a list -/
 | lst (xs : List V)
 /-- a tuple (never changes) -/
 | tup (xs : List V)
 /-- a dict whose keys are ints and texts; one whose keys are tuples of ints and texts (the empty one is both) -/
 | dK (kvs : List (Key × V)) | dT (kvs : List (List Key × V))
 /-- a set of ints: its members, its size -/
 | set (S : Int -> Bool) (n : Nat)
 /-- an instance of the class at C, its dict at dx, its attributes -/
 | ins (C dx : Addr) (fs : List (Str × V))
 /-- the dict of the instance at x -/
 | own (x : Addr)
 /-- the dict of an exception -/
 | xd (fs : List (Str × V))
 /-- a bound method, f of x -/
 | met (f x : Addr)
 /-- a range object lo, lo + 1, .. below hi -/
 | rng (lo hi : Int)
 /-- a thing that is known to the object (the script; a dict while a loop walks it): read, never written while it is so -/
 | frz (o : Obj) (u : HO)
 /-- a code object's table -/
 | tbl (ps : Array Value)
 /-- any other thing, by what is true of its one object (a def of one's own: SetO a S n := HO.ext fun h => ..) -/
 | ext (φ : Heap -> Prop)
abbrev Hp := Addr -> Option HO
def upd (H : Hp) (a : Addr) (o : HO) : Hp := fun b => if b = a then some o else H b
theorem Yl {H : Hp} {a : Addr} {o : HO} : upd H a o a = some o := by unfold upd; rw [if_pos rfl]
theorem Yh {H : Hp} {a b : Addr} {o : HO} (h : b ≠ a) : upd H a o b = H b := by unfold upd; rw [if_neg h]
theorem Yka {H : Hp} {a b : Addr} {o u : HO} (h : H a = some o) (h' : H b = some u) (d : o ≠ u) : a ≠ b := by
 intro e; subst e; rw [h] at h'; exact d (Option.some.inj h')
theorem Yf {H : Hp} {a b : Addr} {o : HO} (h : H a = some o) (h' : H b = none) : a ≠ b := by
 intro e; subst e; rw [h] at h'; cases h'
section
variable (P : Program) (w : World)
def Ylk (H : Hp) (h : Heap) (a : Addr) : HO -> Prop
 | .lst xs => xs.length <= sizeLine /\ ∃ (its : List Value) (n : Nat), Vals xs its /\ h.get? a = some { cls := .type "list", data := .seq its.toArray n }
 | .tup xs => xs.length <= sizeLine /\ ∃ its : List Value, Vals xs its /\ IsTup h a its.toArray
 | .dK kvs => kvs.length <= sizeLine /\ (a == sysModules) = false /\ ∃ vs, KV kvs vs /\ h.DictOf (Yk6 P w) a vs
 | .dT kvs => kvs.length <= sizeLine /\ (a == sysModules) = false /\ ∃ xs : List (List Key × Addr × Value),
  Paired (fun (p : List Key × V) (q : List Key × Addr × Value) => p.1 = q.1 /\ H q.2.1 = some (.tup (p.1.map kV)) /\ RelV p.2 q.2.2) kvs xs /\
  ∃ o es ep, h.get? a = some o /\ o.ExactDict /\ o.data = .dict es ep /\ es.toList = xs.map (entryOfKey (tupleKind (Yk6 P w))) /\ (xs.map (·.1)).Nodup
 | .set S n => h.SetOf (intKind P w) a S n
 | .ins C dx fs => H dx = some (.own a) /\ fs.length <= 1000 /\ dx ≠ a /\ h.get? a = some (PySem.W.instObj C dx) /\
  ∃ mA, h.Ns1 dx mA /\ (∀ f, Ymo (fs.lookup f) (mA f)) /\ PySem.Within mA (fs.map (·.1))
 | .own _ => ∃ o, h.get? a = some o
 | .xd fs => ∃ mA, h.Ns1 a mA /\ ∀ f, Ymo (fs.lookup f) (mA f)
 | .rng lo hi => ∃ t u v, h.get? a = some { cls := .type "range", data := .fields #[.int lo t, .int hi u, .int 1 v] }
 | .frz o u => h.get? a = some o /\ Ylk H h a u
 | .tbl ps => h.get? a = some { cls := .none, data := .fields ps }
 | .met f x => h.get? a = some (PySem.W.methodObj (.ref f) (.ref x))
 | .ext φ => φ h /\ (∃ o, h.get? a = some o) /\ ∀ h1 h2 : Heap, φ h1 -> (∀ o, h1.get? a = some o -> h2.get? a = some o) -> φ h2
def HOk (H : Hp) (h : Heap) : Prop := ∀ a o, H a = some o -> Ylk P w H h a o
end
section
variable {P : Program} {w : World} {H H' : Hp} {h h' : Heap} {a : Addr} {o : HO}
theorem Ylk.lt (x : Ylk P w H h a o) : a < h.objs.size := by
 cases o with
 | lst xs => obtain ⟨_, _, _, _, e⟩ := x; exact ZAD e
 | tup xs => obtain ⟨_, _, _, p⟩ := x; exact p.lt
 | dK kvs => obtain ⟨_, _, _, _, o, _, _, e, _⟩ := x; exact ZAD e
 | dT kvs => obtain ⟨_, _, _, _, o, _, _, e, _⟩ := x; exact ZAD e
 | set S n => obtain ⟨o, _, _, _, e, _⟩ := x; exact ZAD e
 | ins C dx fs => obtain ⟨_, _, _, e, _⟩ := x; exact ZAD e
 | own y => obtain ⟨_, e⟩ := x; exact ZAD e
 | xd fs => obtain ⟨_, ⟨_, _, _, e, _⟩, _⟩ := x; exact ZAD e
 | rng lo hi => obtain ⟨_, _, _, e⟩ := x; exact ZAD e
 | frz ob u => obtain ⟨e, _⟩ := x; exact ZAD e
 | tbl ps => exact ZAD (show h.get? a = some _ from x)
 | met f y => exact ZAD (show h.get? a = some _ from x)
 | ext φ => obtain ⟨_, ⟨_, e⟩, _⟩ := x; exact ZAD e
theorem Paired.mapP {α β : Type} {F G : α -> β -> Prop} : ∀ {l₁ : List α} {l₂ : List β}, Paired F l₁ l₂ -> (∀ a b, F a b -> G a b) -> Paired G l₁ l₂
 | _, _, .nil, _ => .nil
 | _, _, .cons r t, f => .cons (f _ _ r) (Paired.mapP t f)
theorem Ylk.stay (x : Ylk P w H h a o) (k : ∀ b u, (b = a \/ H b = some (.own a)) -> h.get? b = some u -> h'.get? b = some u)
 (ho : ∀ b, H b = some (.own a) -> H' b = some (.own a)) (ht : ∀ b xs, H b = some (.tup xs) -> H' b = some (.tup xs)) : Ylk P w H' h' a o := by
 induction o with
 | lst xs => obtain ⟨z, its, n, r, e⟩ := x; exact ⟨z, its, n, r, k _ _ (.inl rfl) e⟩
 | tup xs => obtain ⟨z, its, r, ob, e, c⟩ := x; exact ⟨z, its, r, ob, k _ _ (.inl rfl) e, c⟩
 | dK kvs => obtain ⟨z, y, vs, r, ob, es, ep, e, c⟩ := x; exact ⟨z, y, vs, r, ob, es, ep, k _ _ (.inl rfl) e, c⟩
 | dT kvs =>
  obtain ⟨z, y, xs, r, ob, es, ep, e, c⟩ := x
  exact ⟨z, y, xs, Paired.mapP r fun p q z => ⟨z.1, ht _ _ z.2.1, z.2.2⟩, ob, es, ep, k _ _ (.inl rfl) e, c⟩
 | set S n => obtain ⟨ob, es, ep, t, e, c⟩ := x; exact ⟨ob, es, ep, t, k _ _ (.inl rfl) e, c⟩
 | ins C dx fs =>
  obtain ⟨d, z, ne, e, mA, ⟨od, es, ep, e2, c⟩, r⟩ := x
  exact ⟨ho _ d, z, ne, k _ _ (.inl rfl) e, mA, ⟨od, es, ep, k _ _ (.inr d) e2, c⟩, r⟩
 | own y => obtain ⟨ob, e⟩ := x; exact ⟨ob, k _ _ (.inl rfl) e⟩
 | xd fs => obtain ⟨mA, ⟨od, es, ep, e, c⟩, r⟩ := x; exact ⟨mA, ⟨od, es, ep, k _ _ (.inl rfl) e, c⟩, r⟩
 | rng lo hi => obtain ⟨t, u, v, e⟩ := x; exact ⟨t, u, v, k _ _ (.inl rfl) e⟩
 | frz ob u ih => obtain ⟨e, q⟩ := x; exact ⟨k _ _ (.inl rfl) e, ih q⟩
 | tbl ps =>
  have e : h.get? a = some { cls := .none, data := .fields ps } := x
  show h'.get? a = some { cls := .none, data := .fields ps }
  exact k a _ (.inl rfl) e
 | met f y =>
  have e : h.get? a = some (PySem.W.methodObj (.ref f) (.ref y)) := x
  show h'.get? a = some (PySem.W.methodObj (.ref f) (.ref y))
  exact k a _ (.inl rfl) e
 | ext φ => obtain ⟨p, ⟨o, e⟩, st⟩ := x; exact ⟨st _ _ p fun o q => k _ _ (.inl rfl) q, ⟨o, k _ _ (.inl rfl) e⟩, st⟩
theorem HOk.lt (x : HOk P w H h) (e : H a = some o) : a < h.objs.size := (x a o e).lt
theorem HOk.fresh (x : HOk P w H h) (e : h.objs.size <= a) : H a = none := by
 cases q : H a with
 | none => rfl
 | some u => exact absurd (ZAN (x.lt q) e) (ZA5 _)
theorem HOk.kept (x : HOk P w H h) (k : ∀ b u, h.get? b = some u -> h'.get? b = some u) : HOk P w H h' := fun a o e =>
 (x a o e).stay (fun b u _ q => k b u q) (fun _ q => q) fun _ _ q => q
theorem HOk.laid (x : HOk P w H h) (k : ∀ b u, h.get? b = some u -> h'.get? b = some u) (hp : h.objs.size <= a) (new : Ylk P w (upd H a o) h' a o) : HOk P w (upd H a o) h' := fun b u e => by
 have hn := x.fresh hp
 show 214
 ·subst hb; rw [Yl] at e; cases e; exact new
 ·rw [Yh hb] at e
  exact (x b u e).stay (fun c v _ q => k c v q) (fun c q => by rw [Yh (Yf q hn)]; exact q) fun c xs q => by rw [Yh (Yf q hn)]; exact q
end
def Rd (H : Hp) (a : Addr) (u : HO) : Prop := H a = some u \/ ∃ o, H a = some (.frz o u)
theorem Rd.ok {P : Program} {w : World} {H : Hp} {h : Heap} {a : Addr} {u : HO} (r : Rd H a u) (x : HOk P w H h) : Ylk P w H h a u := by
 rcases r with r | ⟨o, r⟩
 ·exact x a u r
 ·obtain ⟨_, q⟩ := x a _ r
  exact q
def Mut : Option HO -> Prop
 | some (.lst _) => True
 | some (.dK _) => True
 | some (.dT _) => True
 | some (.set _ _) => True
 | some (.ins _ _ _) => True
 | some (.ext _) => True
 | _ => False
section
variable {P : Program} {w : World} {H : Hp} {h h' : Heap} {x e : Addr} {o' : HO}
theorem HOk.write (ok : HOk P w H h) (mu : Mut (H x)) (he : e = x \/ H e = some (.own x)) (k : ∀ b u, b ≠ e -> h.get? b = some u -> h'.get? b = some u) (heo : ∃ u, h'.get? e = some u)
 (new : Ylk P w (upd H x o') h' x o') : HOk P w (upd H x o') h' := fun b u q => by
 have nown : ∀ c y, H c = some (.own y) -> c ≠ x := fun c y r z => by subst z; rw [r] at mu; exact mu
 have ntup : ∀ c xs, H c = some (.tup xs) -> c ≠ x := fun c xs r z => by subst z; rw [r] at mu; exact mu
 by_cases hb : b = x
 ·subst hb; rw [Yl] at q; cases q; exact new
 ·rw [Yh hb] at q
  by_cases hbe : b = e
  ·have q' : H b = some (.own x) := by
    rcases he with z | z
    ·exact absurd (hbe.trans z) hb
    ·rw [hbe]; exact z
   rw [q] at q'; cases q'
   obtain ⟨v, hv⟩ := heo
   exact ⟨v, by rw [hbe]; exact hv⟩
  ·refine (ok b u q).stay (fun c v hc r => k c v ?_ r) (fun c r => by rw [Yh (nown c b r)]; exact r) fun c xs r => by rw [Yh (ntup c xs r)]; exact r
   show 250
   ·exact hbe
   ·rintro rfl
    rcases he with z | z
    ·exact nown c b hc z
    ·rw [hc] at z; cases z; exact hb rfl
end
structure Un (fs ex : List Addr) (H H' : Hp) (h h' : Heap) : Prop where
 keep : ∀ b o, h.get? b = some o -> H b = none -> b ∉ fs -> b ∉ ex -> h'.get? b = some o
 slot : ∀ b o, h.get? b = some o -> H b = none -> b ∈ fs -> b ∉ ex -> ∃ sl, h'.get? b = some { o with slots := sl }
 free : ∀ b o, h.get? b = some o -> H b = none -> b ∉ ex -> H' b = none
 there : ∀ b o, h.get? b = some o -> b ∉ ex -> ∃ o', h'.get? b = some o'
 tups : ∀ b xs, H b = some (.tup xs) -> H' b = some (.tup xs)
 frzs : ∀ b o u, H b = some (.frz o u) -> H' b = some (.frz o u)
 tbls : ∀ b ps, H b = some (.tbl ps) -> ∃ more, H' b = some (.tbl (ps ++ more))
section
variable {fs fs' ex ex' : List Addr} {H H1 H2 : Hp} {h h1 h2 h' : Heap} {a x e : Addr} {o : HO}
theorem Un.any (u : Un fs ex H H1 h h1) {b : Addr} {ob : Obj} (q : h.get? b = some ob) (n : H b = none) (hx : b ∉ ex) : ∃ sl, h1.get? b = some { ob with slots := sl } := by
 by_cases hb : b ∈ fs
 ·exact u.slot b ob q n hb hx
 ·exact ⟨ob.slots, u.keep b ob q n hb hx⟩
theorem Un.trans (a : Un fs ex H H1 h h1) (b : Un fs ex H1 H2 h1 h2) : Un fs ex H H2 h h2 where
 keep := fun c ob q n hc hx => b.keep c ob (a.keep c ob q n hc hx) (a.free c ob q n hx) hc hx
 slot := fun c ob q n hc hx => by
  obtain ⟨sl, e1⟩ := a.slot c ob q n hc hx
  obtain ⟨sl', e2⟩ := b.slot c _ e1 (a.free c ob q n hx) hc hx
  exact ⟨sl', e2⟩
 free := fun c ob q n hx => by
  obtain ⟨o', e1⟩ := a.there c ob q hx
  exact b.free c o' e1 (a.free c ob q n hx) hx
 there := fun c ob q hx => by
  obtain ⟨o', e1⟩ := a.there c ob q hx
  exact b.there c o' e1 hx
 tups := fun c xs q => b.tups c xs (a.tups c xs q)
 frzs := fun c ob xs q => b.frzs c ob xs (a.frzs c ob xs q)
 tbls := fun c ps q => by
  obtain ⟨m1, e1⟩ := a.tbls c ps q
  obtain ⟨m2, e2⟩ := b.tbls c _ e1
  exact ⟨m1 ++ m2, by rw [e2, Array.append_assoc]⟩
theorem Un.kept (k : ∀ b u, h.get? b = some u -> h'.get? b = some u) : Un fs ex H H h h' :=
 ⟨fun b ob q _ _ _ => k b ob q, fun b ob q _ _ _ => ⟨ob.slots, k b ob q⟩, fun _ _ _ n _ => n, fun b ob q _ => ⟨ob, k b ob q⟩, fun _ _ q => q, fun _ _ _ q => q, fun _ ps q => ⟨#[], by rw [q]; simp⟩⟩
theorem Un.refl : Un fs ex H H h h := Un.kept fun _ _ q => q
theorem Un.laid (k : ∀ b u, h.get? b = some u -> h'.get? b = some u) (hp : h.objs.size <= a) (hn : H a = none) : Un fs ex H (upd H a o) h h' where
 keep := fun b u q _ _ _ => k b u q
 slot := fun b u q _ _ _ => ⟨u.slots, k b u q⟩
 free := fun b u q n _ => by rw [Yh (ZAL (ZAN (ZAD q) hp))]; exact n
 there := fun b u q _ => ⟨u, k b u q⟩
 tups := fun b xs q => by rw [Yh (Yf q hn)]; exact q
 frzs := fun b u xs q => by rw [Yh (Yf q hn)]; exact q
 tbls := fun b ps q => ⟨#[], by rw [Yh (Yf q hn), q]; simp⟩
theorem Un.write (mu : Mut (H x)) (he : e = x \/ H e = some (.own x)) (k : ∀ b u, b ≠ e -> h.get? b = some u -> h'.get? b = some u) (heo : ∃ u, h'.get? e = some u) : Un fs ex H (upd H x o) h h' := by
 have hx : ∀ b, H b = none -> b ≠ x := fun b n z => by subst z; rw [n] at mu; exact mu
 have hb : ∀ b, H b = none -> b ≠ e := fun b n z => by
  subst z
  rcases he with r | r
  ·exact hx b n r
  ·rw [n] at r; cases r
 have hm : ∀ b u, H b = some u -> ¬ Mut (some u) -> b ≠ x := fun b u q nm z => by subst z; rw [q] at mu; exact nm mu
 refine ⟨fun b u q n _ _ => k b u (hb b n) q, fun b u q n _ _ => ⟨u.slots, k b u (hb b n) q⟩, fun b u q n _ => by rw [Yh (hx b n)]; exact n, fun b u q _ => ?_,
  fun b xs q => by rw [Yh (hm b _ q fun z => z)]; exact q, fun b u xs q => by rw [Yh (hm b _ q fun z => z)]; exact q, fun b ps q => ⟨#[], by rw [Yh (hm b _ q fun z => z), q]; simp⟩⟩
 by_cases hbe : b = e
 ·subst hbe; exact heo
 ·exact ⟨u, k b u hbe q⟩
theorem Un.mono (u : Un fs ex H H1 h h1) (hs : ∀ b ∈ fs, b ∈ fs') (hx : ∀ b ∈ ex, b ∈ ex') : Un fs' ex' H H1 h h1 :=
 ⟨fun b ob q n hb he => u.keep b ob q n (fun z => hb (hs b z)) fun z => he (hx b z), fun _ _ q n _ he => u.any q n fun z => he (hx _ z), fun b ob q n he => u.free b ob q n fun z => he (hx b z), fun b ob q he => u.there b ob q fun z => he (hx b z), u.tups, u.frzs, u.tbls⟩
end
def trk (h : Heap) (H : Hp) : List Addr := (List.range h.objs.size).filter fun a => (H a).isSome
def YmV (h : Heap) (H : Hp) : Heap := PySem.W.hideAll h (trk h H)
theorem Ye0 (h : Heap) (H : Hp) : (YmV h H).objs.size = h.objs.size := PySem.W.hideAll_size _ _
theorem Yfk {h : Heap} {H : Hp} {b : Addr} {o : Obj} (e : h.get? b = some o) (n : H b = none) : (YmV h H).get? b = some o :=
 PySem.W.hideAll_get _ e fun hm => by
  have q : (H b).isSome = true := (ZBN.mp hm).2
  rw [n] at q; simp at q
theorem YhE {h : Heap} {H : Hp} {b : Addr} {o : Obj} (e : (YmV h H).get? b = some o) : h.get? b = some o /\ H b = none := by
 have e' : h.get? b = some o := PySem.W.of_hideAll (trk h H) e
 refine ⟨e', ?_⟩
 cases q : H b with
 | none => rfl
 | some x =>
  have hm : b ∈ trk h H := List.mem_filter.mpr ⟨List.mem_range.mpr (Heap.lt_size e'), by simp [q]⟩
  have z : (YmV h H).get? b = none := PySem.W.hideAll_none (trk h H) hm
  rw [z] at e; cases e
def YnU (g h : Heap) (L : Addr) : List (Addr × Obj) := (List.range h.objs.size).filterMap fun a => if a = L \/ (g.get? a).isSome = true then none else (h.get? a).map fun o => (a, o)
def rest (g h : Heap) (L d : Addr) : List (Addr × Obj) := (YnU g h L).filter fun p => decide (p.1 ≠ d)
end L2
namespace L2
open PySem PySem.Spec PyProof.Rows
structure Mod (K : Frag) (mg : SOV) (base : Heap) : Prop where
 kin : K.In base
 glob : base.Ns mainGlobals mg
 blt : ∃ mb, base.Ns builtinsNs mb /\ ∀ x : Str, x ≠ "__name__" -> mb x = bootBuiltins x
 nolimit : base.NoLimit
structure Cx where
 prog : Program
 w : World
 K : Frag
 mg : Str -> Option Value
 base : Heap
 A : Around
 N : List Str
 s₀ : Shared
 H₀ : Hp
 env : Env
 outer : List Env
 stack : List Env
 ex : List Addr
 fn : Str -> Bool
 calm : Bool
 pn : List (Addr × Obj)
 xe : Value -> Shared -> Prop
def frs (l : List Env) : List Addr := l.filterMap (·.frame)
abbrev Cx.fs (X : Cx) : List Addr := frs X.outer
def Vis (sc : Scope) (x : Str) : Prop := sc.names.lookup x = some .local \/ sc.names.lookup x = some .cell \/ sc.names.lookup x = some .free
def Loc (sc : Scope) (x : Str) : Prop := sc.names.lookup x = some .local \/ sc.names.lookup x = some .cell
def Look (env : Env) (h : Heap) (m : SOV) (x : Str) (u : Value) : Prop :=
 (env.kindOf x = some .local /\ m x = some u) \/ ((env.kindOf x = some .cell \/ env.kindOf x = some .free) /\ ∃ c, env.cells.lookup x = some c /\ h.IsCell c (some u))
structure Cx.Ok (X : Cx) : Prop where
 mod : Mod X.K X.mg X.base
 kind : X.env.scope.kind = .function
 glob : X.env.globals = mainGlobals
 blt : X.env.builtins = builtinsNs
 above : X.s₀.heap.objs.size <= X.env.locals
 inj : ∀ x y c, X.env.cells.lookup x = some c -> X.env.cells.lookup y = some c -> x = y
 has : ∀ x, (X.env.kindOf x = some .cell \/ X.env.kindOf x = some .free) -> ∃ c, X.env.cells.lookup x = some c
 cab : ∀ x c, X.fn x = true -> X.env.cells.lookup x = some c -> X.s₀.heap.objs.size <= c
 hd : X.calm = true -> X.A.handled = none
 frames : X.A.frames = some X.stack
 stk : X.stack = X.outer \/ (X.stack = X.env :: X.outer /\ X.env.frame = some X.env.locals)
 exf : ∀ b ∈ X.ex, b ≠ X.env.locals /\ ∀ x c, X.env.cells.lookup x = some c -> c ≠ b
 bs : ∀ b o, X.base.get? b = some o -> X.s₀.heap.get? b = some o /\ X.H₀ b = none
 bsz : X.base.objs.size <= X.s₀.heap.objs.size
 noex : ∀ b o, X.base.get? b = some o -> b ∉ X.ex
 exfs : ∀ b ∈ X.ex, b ∉ X.fs
 funs : X.s₀.heap.FunFrames X.base X.outer
 frf : ∀ b ∈ X.fs, X.H₀ b = none
structure Inv (X : Cx) (pins : LAO) (σ : List (Option V)) (H : Hp) (s : Shared) : Prop where
 ok : X.Ok
 os : s.os = X.s₀.os
 bare : AllBare s.gens
 base : Un X.fs X.ex X.H₀ H X.s₀.heap s.heap
 loc : ∃ m, s.heap.Ns X.env.locals m /\ ∀ (i : Nat) (x : Str) (v : V), X.N[i]? = some x -> σ[i]? = some (some v) -> Vis X.env.scope x -> ∃ u, RelV v u /\ Look X.env s.heap m x u
 cell : ∀ x c, X.env.cells.lookup x = some c -> ∃ v, s.heap.IsCell c v
 free : H X.env.locals = none
 freeC : ∀ x c, X.env.cells.lookup x = some c -> H c = none
 pin : ∀ p ∈ X.pn ++ pins, s.heap.get? p.1 = some p.2 /\ H p.1 = none /\ p.1 ≠ X.env.locals /\ p.1 ∉ X.fs /\ ∀ v, p.2.data ≠ .cell v
 hok : HOk X.prog X.w H s.heap
 len : σ.length = X.N.length
section
variable {X : Cx} {pins : LAO} {σ : List (Option V)} {H H' : Hp} {s : Shared} {h' : Heap}
theorem Cx.Ok.nofr (ok : X.Ok) {b : Addr} {o : Obj} (e : X.base.get? b = some o) : b ∉ X.fs := fun hb => by
 have := (ok.funs.mem hb).1
 rw [e] at this; cases this
theorem Inv.bs (I : Inv X pins σ H s) : ∀ b o, X.base.get? b = some o -> s.heap.get? b = some o /\ H b = none := fun b o e =>
 ⟨I.base.keep b o (I.ok.bs b o e).1 (I.ok.bs b o e).2 (I.ok.nofr e) (I.ok.noex b o e), I.base.free b o (I.ok.bs b o e).1 (I.ok.bs b o e).2 (I.ok.noex b o e)⟩
theorem Inv.bk (I : Inv X pins σ H s) : ∀ b o, X.base.get? b = some o -> s.heap.get? b = some o := fun b o e => (I.bs b o e).1
theorem Inv.mod (I : Inv X pins σ H s) : Mod X.K X.mg X.base := I.ok.mod
theorem Inv.kIn (I : Inv X pins σ H s) : X.K.In s.heap := I.ok.mod.kin.keeps I.bk
theorem Inv.nolimit (I : Inv X pins σ H s) : s.heap.NoLimit := I.ok.mod.nolimit.keeps I.bk
theorem Inv.lt (I : Inv X pins σ H s) : X.env.locals < s.heap.objs.size := let ⟨_, hn, _⟩ := I.loc; hn.lt
theorem Inv.sz (I : Inv X pins σ H s) : X.s₀.heap.objs.size <= s.heap.objs.size := ZAH I.ok.above (ZBf I.lt)
theorem Inv.nofs (I : Inv X pins σ H s) {a : Addr} (h : s.heap.objs.size <= a) : a ∉ X.fs := fun hb => by
 obtain ⟨_, o, ho, _⟩ := I.ok.funs.mem hb
 exact absurd (ZAN (ZAD ho) (ZAH I.sz h)) (ZA5 _)
theorem Inv.cne (I : Inv X pins σ H s) : ∀ x c, X.env.cells.lookup x = some c -> c ≠ X.env.locals := fun x c e z => by
 obtain ⟨v, o, ho, hd⟩ := I.cell x c e
 obtain ⟨m, ⟨o', es, ep, ho', hd', _⟩, _⟩ := I.loc
 rw [z, ho'] at ho; cases ho; rw [hd'] at hd; cases hd
theorem Inv.funs (I : Inv X pins σ H s) : s.heap.FunFrames X.base X.outer := by
 have all : ∀ (l : List Env), (∀ b ∈ frs l, b ∈ X.fs) -> X.s₀.heap.FunFrames X.base l -> s.heap.FunFrames X.base l := by
  intro l
  induction l with
  | nil => intro _ _; trivial
  | cons env r ih =>
   intro hs hl
   obtain ⟨hk, ⟨L, o, hf, hn, ho, hd⟩, hr⟩ := hl
   have hL : L ∈ X.fs := hs L (by unfold frs; rw [List.filterMap_cons, hf]; exact List.mem_cons_self)
   obtain ⟨sl, e⟩ := I.base.slot L o ho (I.ok.frf L hL) hL fun z => I.ok.exfs L z hL
   exact ⟨hk, ⟨L, _, hf, hn, e, hd⟩, ih (fun b hb => hs b (by unfold frs; rw [List.filterMap_cons, hf]; exact List.mem_cons_of_mem _ hb)) hr⟩
 exact all X.outer (fun _ hb => hb) I.ok.funs
theorem Inv.stack (I : Inv X pins σ H s) : s.heap.FunFrames X.base X.stack := by
 rcases I.ok.stk with e | ⟨e, hf⟩
 ·rw [e]; exact I.funs
 ·rw [e]
  obtain ⟨m, hn, _⟩ := I.loc
  refine .cons (by rw [I.ok.kind]; decide) hf hn ?_ I.funs
  exact ZCa (ZAH I.ok.bsz I.ok.above)
theorem Inv.stkSub (I : Inv X pins σ H s) : ∀ b ∈ frs X.stack, b ∈ X.env.locals :: X.fs := fun b hb => by
 rcases I.ok.stk with e | ⟨e, hf⟩
 ·rw [e] at hb; exact ZAd _ hb
 ·rw [e] at hb
  unfold frs at hb
  rw [List.filterMap_cons, hf] at hb
  exact hb
theorem Inv.stkFree (I : Inv X pins σ H s) : ∀ b ∈ frs X.stack, H b = none := fun b hb => by
 rcases ZAV.mp (I.stkSub b hb) with e | hb
 ·rw [e]; exact I.free
 ·obtain ⟨_, o, ho, _⟩ := I.ok.funs.mem hb
  exact I.base.free b o ho (I.ok.frf b hb) fun z => I.ok.exfs b z hb
theorem Inv.step {g' : Array GenState} {t' : Nat} {d' : Drawn} {ch : List Addr} (I : Inv X pins σ H s)
 (hch : ∀ b ∈ ch, (b ∈ X.ex \/ X.s₀.heap.objs.size <= b) /\ b ≠ X.env.locals /\ (∀ x c, X.env.cells.lookup x = some c -> c ≠ b) /\ ∀ p ∈ X.pn ++ pins, p.1 ≠ b)
 (keep : ∀ b o, b ≠ X.env.locals -> b ∉ X.fs -> b ∉ ch -> s.heap.get? b = some o -> H b = none -> h'.get? b = some o)
 (slot : ∀ b o, b ≠ X.env.locals -> b ∈ X.fs -> b ∉ ch -> s.heap.get? b = some o -> H b = none -> ∃ sl, h'.get? b = some { o with slots := sl }) (free : ∀ b o, b ∉ ch -> s.heap.get? b = some o -> H b = none -> H' b = none)
 (there : ∀ b o, b ∉ ch -> s.heap.get? b = some o -> ∃ o', h'.get? b = some o')
 (tups : ∀ b xs, H b = some (.tup xs) -> H' b = some (.tup xs)) (frzs : ∀ b o u, H b = some (.frz o u) -> H' b = some (.frz o u)) (tbls : ∀ b ps, H b = some (.tbl ps) -> ∃ more, H' b = some (.tbl (ps ++ more)))
 (ns : ∀ m, s.heap.Ns X.env.locals m -> h'.Ns X.env.locals m) (hok : HOk X.prog X.w H' h') (hg : AllBare g') :
 Inv X pins σ H' { s with heap := h', gens := g', drawn := d', toks := t' } := by
 have neL : ∀ b o, X.s₀.heap.get? b = some o -> b ≠ X.env.locals := fun b o e => ZAL (ZAN (ZAD e) I.ok.above)
 have neC : ∀ b o, X.s₀.heap.get? b = some o -> b ∉ X.ex -> b ∉ ch := fun b o e hx hb => by
  rcases (hch b hb).1 with z | z
  ·exact hx z
  ·exact absurd (ZAN (ZAD e) z) (ZA5 _)
 have cellK : ∀ x c, X.env.cells.lookup x = some c -> ∀ v, s.heap.IsCell c v -> h'.IsCell c v := fun x c e v ⟨o, ho, hd⟩ => by
  have nch : c ∉ ch := fun z => (hch c z).2.2.1 x c e rfl
  by_cases hc : c ∈ X.fs
  ·obtain ⟨sl, q⟩ := slot c o (I.cne x c e) hc nch ho (I.freeC x c e)
   exact ⟨_, q, hd⟩
  ·exact ⟨o, keep c o (I.cne x c e) hc nch ho (I.freeC x c e), hd⟩
 refine ⟨I.ok, I.os, hg, ⟨fun b o e n hb hx => ?_, fun b o e n hb hx => ?_, fun b o e n hx => ?_, fun b o e hx => ?_, fun b xs e => tups b xs (I.base.tups b xs e), fun b o xs e => frzs b o xs (I.base.frzs b o xs e), fun b ps e => ?_⟩, ?_, fun x c e => ?_, ?_, fun x c e => ?_, fun p hp => ?_, hok, I.len⟩
 ·exact keep b o (neL b o e) hb (neC b o e hx) (I.base.keep b o e n hb hx) (I.base.free b o e n hx)
 ·show 219
  obtain ⟨sl', e2⟩ := slot b _ (neL b o e) hb (neC b o e hx) e1 (I.base.free b o e n hx)
  exact ⟨sl', e2⟩
 ·show 207
  exact free b o' (neC b o e hx) e1 (I.base.free b o e n hx)
 ·show 207
  exact there b o' (neC b o e hx) e1
 ·obtain ⟨m1, e1⟩ := I.base.tbls b ps e
  obtain ⟨m2, e2⟩ := tbls b _ e1
  exact ⟨m1 ++ m2, by rw [e2, Array.append_assoc]⟩
 ·obtain ⟨m, hn, hl⟩ := I.loc
  refine ⟨m, ns m hn, fun i x v e1 e2 e3 => ?_⟩
  obtain ⟨u, r, l⟩ := hl i x v e1 e2 e3
  refine ⟨u, r, ?_⟩
  rcases l with l | ⟨k, c, e, z⟩
  ·exact .inl l
  ·exact .inr ⟨k, c, e, cellK x c e _ z⟩
 ·obtain ⟨v, z⟩ := I.cell x c e
  exact ⟨v, cellK x c e v z⟩
 ·obtain ⟨m, ⟨o, _, _, ho, _⟩, _⟩ := I.loc
  exact free _ o (fun z => (hch _ z).2.1 rfl) ho I.free
 ·obtain ⟨v, o, ho, hd⟩ := I.cell x c e
  exact free c o (fun z => (hch c z).2.2.1 x c e rfl) ho (I.freeC x c e)
 ·show 227
  have nch : p.1 ∉ ch := fun z => (hch p.1 z).2.2.2 p hp rfl
  exact ⟨keep p.1 p.2 ne nf nch e n, free p.1 p.2 nch e n, ne, nf, d⟩
theorem Inv.un {t' : Nat} (I : Inv X pins σ H s) (u : Un X.fs [] H H' s.heap h') (hok : HOk X.prog X.w H' h') : Inv X pins σ H' { s with heap := h', toks := t' } := by
 obtain ⟨m, ⟨o, es, ep, ho, r⟩, _⟩ := id I.loc
 obtain ⟨sl, hL⟩ := u.any ho I.free (by simp)
 exact I.step (g' := s.gens) (d' := s.drawn) (ch := []) (fun _ z => nomatch z) (fun b o _ hb _ e n => u.keep b o e n hb (by simp)) (fun b o _ hb _ e n => u.slot b o e n hb (by simp)) (fun b o _ e n => u.free b o e n (by simp)) (fun b o _ e => u.there b o e (by simp)) u.tups u.frzs u.tbls (fun m' hm => by
  obtain ⟨o', es', ep', ho', r'⟩ := hm
  rw [ho] at ho'; cases ho'
  exact ⟨_, es', ep', hL, r'⟩) hok I.bare
theorem Inv.call {g' : Array GenState} {t' : Nat} {d' : Drawn} {ch : List Addr} (I : Inv X pins σ H s) (u : Un (frs X.stack) ch H H' s.heap h') (hok : HOk X.prog X.w H' h') (hg : AllBare g')
 (hch : ∀ b ∈ ch, (b ∈ X.ex \/ X.s₀.heap.objs.size <= b) /\ b ≠ X.env.locals /\ (∀ x c, X.env.cells.lookup x = some c -> c ≠ b) /\ ∀ p ∈ X.pn ++ pins, p.1 ≠ b) :
 Inv X pins σ H' { s with heap := h', gens := g', drawn := d', toks := t' } := by
 obtain ⟨m, ⟨o, es, ep, ho, r⟩, _⟩ := id I.loc
 obtain ⟨sl, hL⟩ := u.any ho I.free fun z => (hch _ z).2.1 rfl
 exact I.step (ch := ch) hch (fun b o hL hb hc e n => u.keep b o e n (fun z => (ZAV.mp (I.stkSub b z)).elim hL hb) hc) (fun b o _ _ hc e n => u.any e n hc) (fun b o hc e n => u.free b o e n hc) (fun b o hc e => u.there b o e hc) u.tups u.frzs u.tbls (fun m' hm => by
  obtain ⟨o', es', ep', ho', r'⟩ := hm
  rw [ho] at ho'; cases ho'
  exact ⟨_, es', ep', hL, r'⟩) hok hg
theorem Inv.turned {t' : Nat} {it : Addr} (I : Inv X pins σ H s) (k : ∀ b o, b ≠ it -> s.heap.get? b = some o -> h'.get? b = some o) (hn : H it = none) (hL : it ≠ X.env.locals)
 (h1 : it ∈ X.ex \/ X.s₀.heap.objs.size <= it) (h2 : ∀ x c, X.env.cells.lookup x = some c -> c ≠ it) (h3 : ∀ p ∈ X.pn ++ pins, p.1 ≠ it) : Inv X pins σ H { s with heap := h', toks := t' } := by
 have nit : ∀ b u, H b = some u -> b ≠ it := fun b u e z => by rw [z, hn] at e; cases e
 refine I.step (g' := s.gens) (d' := s.drawn) (ch := [it]) (fun b hb => ?_) (fun b o _ _ hc e _ => k b o (fun z => hc (by simp [z])) e) (fun b o _ _ hc e _ => ⟨o.slots, k b o (fun z => hc (by simp [z])) e⟩) (fun _ _ _ _ n => n)
  (fun b o hc e => ⟨o, k b o (fun z => hc (by simp [z])) e⟩) (fun _ _ e => e) (fun _ _ _ e => e) (fun b ps e => ⟨#[], by rw [e]; simp⟩) (fun m hm => ?_) (fun b u e => ?_) I.bare
 ·show 95
  exact ⟨h1, hL, h2, h3⟩
 ·obtain ⟨o, es, ep, ho, r⟩ := hm
  exact ⟨o, es, ep, k _ o (ZA1 hL) ho, r⟩
 ·refine (I.hok b u e).stay (fun c v hc q => k c v ?_ q) (fun _ q => q) fun _ _ q => q
  rcases hc with z | z
  ·rw [z]; exact nit b u e
  ·exact nit c _ z
theorem Inv.tok (I : Inv X pins σ H s) (t : Nat) : Inv X pins σ H { s with toks := t } := I.un (h' := s.heap) (t' := t) Un.refl I.hok
theorem Inv.kept {t' : Nat} (I : Inv X pins σ H s) (k : ∀ b u, s.heap.get? b = some u -> h'.get? b = some u) : Inv X pins σ H { s with heap := h', toks := t' } := I.un (Un.kept k) (I.hok.kept k)
theorem Inv.laid {a : Addr} {o : HO} {t' : Nat} (I : Inv X pins σ H s) (k : ∀ b u, s.heap.get? b = some u -> h'.get? b = some u) (hp : s.heap.objs.size <= a) (new : Ylk X.prog X.w (upd H a o) h' a o) :
 Inv X pins σ (upd H a o) { s with heap := h', toks := t' } := I.un (Un.laid k hp (I.hok.fresh hp)) (I.hok.laid k hp new)
theorem Inv.write {x e : Addr} {o : HO} {t' : Nat} (I : Inv X pins σ H s) (mu : Mut (H x)) (he : e = x \/ H e = some (.own x)) (k : ∀ b u, b ≠ e -> s.heap.get? b = some u -> h'.get? b = some u) (heo : ∃ u, h'.get? e = some u)
 (new : Ylk X.prog X.w (upd H x o) h' x o) : Inv X pins σ (upd H x o) { s with heap := h', toks := t' } := I.un (Un.write mu he k heo) (I.hok.write mu he k heo new)
theorem Inv.pins_of {pins' : LAO} (I : Inv X pins σ H s) (h : ∀ p ∈ pins', s.heap.get? p.1 = some p.2 /\ H p.1 = none /\ p.1 ≠ X.env.locals /\ p.1 ∉ X.fs /\ ∀ v, p.2.data ≠ .cell v) : Inv X pins' σ H s :=
 ⟨I.ok, I.os, I.bare, I.base, I.loc, I.cell, I.free, I.freeC, fun p hp => (ZAY.mp hp).elim (fun z => I.pin p (ZAo _ z)) (h p), I.hok, I.len⟩
theorem JU {N : List Str} (hN : N.Nodup) {i j : Nat} {x : Str} (a : N[i]? = some x) (b : N[j]? = some x) : i = j := by
 obtain ⟨h1, e1⟩ := ZAG.mp a
 obtain ⟨h2, e2⟩ := ZAG.mp b
 exact (List.getElem_inj hN).mp (e1.trans e2.symm)
theorem Ybe {M : Model} {A : Around} {E : VSP} {i : Nat} {x : Str} {v : V} {u : Value} {Q : Unit -> Shared -> Prop} (I : Inv X pins σ H s) (hN : X.N.Nodup) (hi : X.N[i]? = some x) (hx : Loc X.env.scope x) (r : RelV v u)
 (h : ∀ s', Inv X pins (σ.set i (some v)) H s' -> (∃ a, Heap.SameBut a s.heap s'.heap /\ (a = X.env.locals \/ X.env.cells.lookup x = some a)) -> Q () s') (hf : X.fn x = true \/ X.env.scope.names.lookup x = some .local := by first | exact .inl rfl | exact .inr rfl | assumption) : wpAny M A (storeName X.env x u) Q E s := by
 obtain ⟨m, hn, hl⟩ := id I.loc
 have hcls : (X.env.scope.kind == .class || (X.env.scope.kind == .module && X.env.locals != X.env.globals)) = false := by rw [I.ok.kind]; rfl
 have hiσ : i < σ.length := by rw [I.len]; exact (ZAG.mp hi).1
 have cne := I.cne
 have tracked : ∀ {a : Addr} {h' : Heap}, (∃ o, s.heap.get? a = some o /\ H a = none) -> Heap.SameBut a s.heap h' -> HOk X.prog X.w H h' := fun {a h'} ha hs b ob e => by
  obtain ⟨_, _, hfree⟩ := ha
  refine (I.hok b ob e).stay (fun c w' hc q => (hs.2 c ?_).trans q) (fun _ q => q) fun _ _ q => q
  rintro rfl
  show 250
  ·rw [hfree] at e; cases e
  ·rw [hfree] at hc; cases hc
 rcases hx with hk | hk
 ·refine wpAny_storeName_local hk hn (fun h' hn' hs => ?_) hcls
  obtain ⟨oL, _, _, hoL, _⟩ := id hn
  refine h _ ⟨I.ok, I.os, I.bare, ⟨fun b o e n hb hx => ?_, fun b o e n hb hx => ?_, I.base.free, fun b o e hx => ?_, I.base.tups, I.base.frzs, I.base.tbls⟩, ⟨_, hn', fun j y v' e1 e2 e3 => ?_⟩, fun y c e => ?_, I.free, I.freeC, fun p hp => ?_, tracked ⟨oL, hoL, I.free⟩ hs, by simpa using I.len⟩ ⟨_, hs, .inl rfl⟩
  ·exact (hs.2 b (ZAL (ZAN (ZAD e) I.ok.above))).trans (I.base.keep b o e n hb hx)
  ·show 219
   exact ⟨sl, (hs.2 b (ZAL (ZAN (ZAD e) I.ok.above))).trans e1⟩
  ·show 207
   exact ⟨o', (hs.2 b (ZAL (ZAN (ZAD e) I.ok.above))).trans e1⟩
  ·by_cases hj : j = i
   ·subst hj
    rw [hi] at e1; cases e1
    rw [ZAh hiσ] at e2
    cases e2
    exact ⟨u, r, .inl ⟨hk, by simp⟩⟩
   ·rw [ZAy (ZA1 hj)] at e2
    obtain ⟨u', r', q⟩ := hl j y v' e1 e2 e3
    refine ⟨u', r', ?_⟩
    rcases q with ⟨k, e⟩ | ⟨k, c, e, z⟩
    ·refine .inl ⟨k, ?_⟩
     have : y ≠ x := fun e => hj (JU hN e1 (e ▸ hi))
     simp [this, e]
    ·exact .inr ⟨k, c, e, z.sameBut hs (cne y c e)⟩
  ·obtain ⟨w', z⟩ := I.cell y c e
   exact ⟨w', z.sameBut hs (cne y c e)⟩
  ·show 227
   exact ⟨(hs.2 p.1 ne).trans e, n, ne, nf, d⟩
 ·have hfn : X.fn x = true := by
   rcases hf with z | z
   ·exact z
   ·rw [z] at hk; cases hk
  obtain ⟨c, hc⟩ := I.ok.has x (.inl hk)
  obtain ⟨w', z⟩ := I.cell x c hc
  refine wpAny_storeName_cell I.ok.kind hk hc z (fun h' hc' hs => ?_)
  obtain ⟨oc, hoc, hocd⟩ := id z
  refine h { s with heap := h' } ⟨I.ok, I.os, I.bare, ⟨fun b o e n hb hx => ?_, fun b o e n hb hx => ?_, I.base.free, fun b o e hx => ?_, I.base.tups, I.base.frzs, I.base.tbls⟩, ⟨m, hn.sameBut hs (Ne.symm (cne x c hc)), fun j y v' e1 e2 e3 => ?_⟩, fun y c' e => ?_, I.free, I.freeC, fun p hp => ?_, tracked ⟨oc, hoc, I.freeC x c hc⟩ hs, by simpa using I.len⟩ ⟨c, hs, .inr hc⟩
  ·exact (hs.2 b (ZAL (ZAN (ZAD e) (I.ok.cab x c hfn hc)))).trans (I.base.keep b o e n hb hx)
  ·show 219
   exact ⟨sl, (hs.2 b (ZAL (ZAN (ZAD e) (I.ok.cab x c hfn hc)))).trans e1⟩
  ·show 207
   exact ⟨o', (hs.2 b (ZAL (ZAN (ZAD e) (I.ok.cab x c hfn hc)))).trans e1⟩
  ·by_cases hj : j = i
   ·subst hj
    rw [hi] at e1; cases e1
    rw [ZAh hiσ] at e2
    cases e2
    exact ⟨u, r, .inr ⟨.inl hk, c, hc, hc'⟩⟩
   ·rw [ZAy (ZA1 hj)] at e2
    obtain ⟨u', r', q⟩ := hl j y v' e1 e2 e3
    refine ⟨u', r', ?_⟩
    rcases q with q | ⟨k, c', e, z'⟩
    ·exact .inl q
    ·refine .inr ⟨k, c', e, z'.sameBut hs ?_⟩
     rintro rfl
     exact hj (JU hN e1 (I.ok.inj _ _ _ e hc ▸ hi))
  ·by_cases hcc : c' = c
   ·subst hcc; exact ⟨_, hc'⟩
   ·obtain ⟨w2, z2⟩ := I.cell y c' e
    exact ⟨w2, z2.sameBut hs hcc⟩
  ·show 227
   refine ⟨(hs.2 p.1 ?_).trans e, n, ne, nf, d⟩
   intro q
   rw [q, hoc] at e
   have q' : oc = p.2 := Option.some.inj e
   exact d w' (by rw [<- q']; exact hocd)
theorem YcI {M : Model} {A : Around} {E : VSP} {i : Nat} {x : Str} {v : V} {u : Value} {Q : Unit -> Shared -> Prop} (I : Inv X pins σ H s) (hN : X.N.Nodup) (hi : X.N[i]? = some x) (hx : Loc X.env.scope x) (r : RelV v u)
 (h : ∀ s', Inv X pins (σ.set i (some v)) H s' -> Q () s') (hf : X.fn x = true \/ X.env.scope.names.lookup x = some .local := by first | exact .inl rfl | exact .inr rfl | assumption) : wpAny M A (storeName X.env x u) Q E s :=
 Ybe I hN hi hx r (fun s' I' _ => h s' I') hf
theorem Inv.call' {s' : Shared} {ch : List Addr} (I : Inv X pins σ H s) (ho : s'.os = s.os) (u : Un (frs X.stack) ch H H' s.heap s'.heap) (hok : HOk X.prog X.w H' s'.heap) (hg : AllBare s'.gens)
 (hch : ∀ b ∈ ch, (b ∈ X.ex \/ X.s₀.heap.objs.size <= b) /\ b ≠ X.env.locals /\ (∀ x c, X.env.cells.lookup x = some c -> c ≠ b) /\ ∀ p ∈ X.pn ++ pins, p.1 ≠ b) : Inv X pins σ H' s' := by
 obtain ⟨h', g', d', t', o'⟩ := s'
 have e : o' = s.os := ho
 subst e
 exact I.call (g' := g') (t' := t') (d' := d') u hok hg hch
end
abbrev XK := Value -> Option Addr -> Hp -> Prop
abbrev St := List (Option V)
abbrev VK := V -> Hp -> Prop
abbrev TE := St -> Hp -> VK -> Prop
abbrev TT := St -> Hp -> (Bool -> Hp -> Prop) -> Prop
abbrev TA := St -> Hp -> (List V -> Hp -> Prop) -> Prop
structure Ends where
 nx : St -> Hp -> Prop
 rt : VK
 bk : St -> Hp -> Prop := fun _ _ => False
 ct : St -> Hp -> Prop := fun _ _ => False
abbrev TS := Ends -> St -> Hp -> Prop
def EP (X : Cx) (pins : LAO) (σ : St) (Q : VK) (u : Value) (s' : Shared) : Prop := ∃ v H', Inv X pins σ H' s' /\ RelV v u /\ Q v H'
def TP (X : Cx) (pins : LAO) (σ : St) (Q : Bool -> Hp -> Prop) (b : Bool) (s' : Shared) : Prop := ∃ H', Inv X pins σ H' s' /\ Q b H'
def AP (X : Cx) (pins : LAO) (σ : St) (Q : List V -> Hp -> Prop) (us : List Value) (s' : Shared) : Prop := ∃ vs H', Inv X pins σ H' s' /\ Vals vs us /\ Q vs H'
def SP (X : Cx) (pins : LAO) (D : Ends) (f : Flow) (s' : Shared) : Prop :=
 match f with
 | .next => ∃ σ' H', Inv X pins σ' H' s' /\ D.nx σ' H'
 | .brk => ∃ σ' H', Inv X pins σ' H' s' /\ D.bk σ' H'
 | .cont => ∃ σ' H', Inv X pins σ' H' s' /\ D.ct σ' H'
 | .ret u => ∃ v σ' H', Inv X pins σ' H' s' /\ RelV v u /\ D.rt v H'
def PE (X : Cx) (e : Expr) (t : TE) : Prop :=
 ∀ (pins : LAO) (s : Shared) (σ : St) (H : Hp) (Q : VK), Inv X pins σ H s -> t σ H Q -> wpAny (model X.prog X.w) X.A (eval e X.env) (EP X pins σ Q) X.xe s
def PT (X : Cx) (e : Expr) (t : TT) : Prop :=
 ∀ (pins : LAO) (s : Shared) (σ : St) (H : Hp) (Q : Bool -> Hp -> Prop), Inv X pins σ H s -> t σ H Q -> wpAny (model X.prog X.w) X.A (isTrue e X.env (eval e X.env)) (TP X pins σ Q) X.xe s
def PW (X : Cx) (e : Expr) (t : TT) : Prop :=
 ∀ (whole : Sem Value) (pins : LAO) (s : Shared) (σ : St) (H : Hp) (Q : Bool -> Hp -> Prop), Inv X pins σ H s -> t σ H Q -> wpAny (model X.prog X.w) X.A (isTrue e X.env whole) (TP X pins σ Q) X.xe s
theorem PW.pt {X : Cx} {e : Expr} {t : TT} (h : PW X e t) : PT X e t := h _
def PA (X : Cx) (es : List Expr) (t : TA) : Prop :=
 ∀ (pos : Pos) (pins : LAO) (s : Shared) (σ : St) (H : Hp) (Q : List V -> Hp -> Prop), Inv X pins σ H s -> t σ H Q -> wpAny (model X.prog X.w) X.A (spliced (backTo pos (starEach es X.env))) (AP X pins σ Q) X.xe s
def PS (X : Cx) (st : Stmt) (t : TS) : Prop :=
 ∀ (pins : LAO) (s : Shared) (σ : St) (H : Hp) (D : Ends), Inv X pins σ H s -> t D σ H -> wpAny (model X.prog X.w) X.A (exec st X.env) (SP X pins D) X.xe s
def PSs (X : Cx) (st : List Stmt) (t : TS) : Prop :=
 ∀ (pins : LAO) (s : Shared) (σ : St) (H : Hp) (D : Ends), Inv X pins σ H s -> t D σ H -> wpAny (model X.prog X.w) X.A (execs st X.env) (SP X pins D) X.xe s
theorem thn {α : Type} {t : Sem α} {Q Q' : α -> Shared -> Prop} {M : Model} {A : Around} {E : VSP} {s : Shared} (h : wpAny M A t Q E s) (hQ : ∀ a s, Q a s -> Q' a s) : wpAny M A t Q' E s := ZAw h hQ fun _ _ x => x
end L2
namespace L2
open PySem PySem.Spec PyProof.Rows
section
variable {X : Cx}
theorem bin {a b : Expr} {ta tb : TE} (ha : PE X a ta) (hb : PE X b tb) {pins : LAO} {s : Shared} {σ : St} {H : Hp} {R : V -> V -> Hp -> Prop} (I : Inv X pins σ H s) (h : ta σ H fun x H1 => tb σ H1 fun y H2 => R x y H2)
 {α : Type} {Q : α -> Shared -> Prop} {f : Value -> Value -> Sem α}
 (hf : ∀ v u s2 x y H2, Inv X pins σ H2 s2 -> RelV x v -> RelV y u -> R x y H2 -> wpAny (model X.prog X.w) X.A (f v u) Q X.xe s2) :
 wpAny (model X.prog X.w) X.A (eval a X.env) (fun v s₁ => wpAny (model X.prog X.w) X.A (eval b X.env) (fun u s₂ => wpAny (model X.prog X.w) X.A (f v u) Q X.xe s₂) X.xe s₁) X.xe s := by
 refine thn (ha pins s σ H _ I h) fun v s1 ⟨x, H1, I1, r1, q1⟩ => ?_
 refine thn (hb pins s1 σ H1 _ I1 q1) fun u s2 ⟨y, H2, I2, r2, q2⟩ => ?_
 exact hf v u s2 x y H2 I2 r1 r2 q2
def Yn6 (i : Nat) : TE := fun σ H Q => ∃ v, σ[i]? = some (some v) /\ Q v H
def tC (v : V) : TE := fun _ H Q => Q v H
theorem Ygn {i : Nat} {x : Str} {pos : Pos} (hN : X.N[i]? = some x) (hv : Vis X.env.scope x) (hd : (x == ("__debug__" : Str)) = false := by decide) (hcd : (x == ("__classdict__" : Str)) = false := by decide) : PE X (.Name x pos) (Yn6 i) := by
 show 168
 obtain ⟨v, e, h⟩ := h
 obtain ⟨m, hn, hl⟩ := I.loc
 obtain ⟨u, r, l⟩ := hl i x v hN e hv
 have fin : EP X pins σ Q u s := ⟨v, H, I, r, h⟩
 rcases l with ⟨hk, hm⟩ | ⟨hk, c, hc, hcell⟩
 ·exact wpAny_Name (wpAny_loadName_local I.ok.kind hk hn hm fin) hd
 ·rcases hk with hk | hk
  ·exact wpAny_Name (wpAny_loadName_cell I.ok.kind hk hc hcell fin) hd
  ·exact wpAny_Name (wpAny_loadName_free I.ok.kind hk hc hcell fin hcd) hd
theorem YiC {i j pos} : PE X (.Constant (.int i) j pos) (tC (.int i)) := fun _ _ _ H _ I h => ZBq ⟨.int i, H, I.tok _, ⟨_, rfl⟩, h⟩
theorem Ykc {b j pos} : PE X (.Constant (.bool b) j pos) (tC (.bl b)) := fun _ _ _ H _ I h => Constant_bool ⟨.bl b, H, I, rfl, h⟩
theorem Yjn {x j pos} : PE X (.Constant (.str x) j pos) (tC (.str x)) := fun _ _ _ H _ I h => Calls.Constant_str ⟨.str x, H, I.tok _, ⟨_, rfl⟩, h⟩
def Gl (X : Cx) (x : Str) : Prop := X.env.kindOf x = some .globalImplicit
theorem JD {E : VSP} {pins : LAO} {s : Shared} {σ : St} {H : Hp} {x : Str} {u : Value} {pos : Pos} {Q : VSP} (I : Inv X pins σ H s) (hg : Gl X x) (hm : X.mg x = some u) (h : Q u s)
 (hd : (x == ("__debug__" : Str)) = false := by decide) : wpAny (model X.prog X.w) X.A (eval (.Name x pos) X.env) Q E s :=
 Calls.Name_function_global I.ok.kind hg (Calls.loadGlobal_global (by rw [I.ok.glob]; exact I.mod.glob.keeps I.bk) hm h) hd
theorem Wt {E : VSP} {pins : LAO} {s : Shared} {σ : St} {H : Hp} {x : Str} {u : Value} {pos : Pos} {Q : VSP} (I : Inv X pins σ H s) (hg : Gl X x) (hm : X.mg x = none) (hv : bootBuiltins x = some u) (h : Q u s)
 (hn : x ≠ "__name__" := by decide) (hd : (x == ("__debug__" : Str)) = false := by decide) : wpAny (model X.prog X.w) X.A (eval (.Name x pos) X.env) Q E s := by
 obtain ⟨mb, h1, h2⟩ := I.mod.blt
 exact Calls.Name_function_global I.ok.kind hg (Calls.loadGlobal_builtin (by rw [I.ok.glob]; exact I.mod.glob.keeps I.bk) hm (by rw [I.ok.blt]; exact h1.keeps I.bk) ((h2 x hn).trans hv) h) hd
theorem Yg6 {x : Str} {v : V} {u : Value} {pos : Pos} (hg : Gl X x) (hm : X.mg x = none) (hv : bootBuiltins x = some u) (r : RelV v u) (hn : x ≠ "__name__" := by decide) (hd : (x == ("__debug__" : Str)) = false := by decide) : PE X (.Name x pos) (tC v) :=
 fun _ _ _ H _ I h => Wt I hg hm hv ⟨v, H, I, r, h⟩ hn hd
variable {a b : Expr} {ta tb : TE} {pos : Pos}
variable {tA tB' : TT} {rest : List Expr}
def Ypg (t u : TT) : TT := fun σ H Q => t σ H fun c H1 => if c = true then u σ H1 Q else Q false H1
def tOr (t u : TT) : TT := fun σ H Q => t σ H fun c H1 => if c = true then Q true H1 else u σ H1 Q
def Ypc (t : TT) : TT := fun σ H Q => t σ H fun c H1 => Q (!c) H1
theorem Yhc (ha : PT X a tA) : PW X (.BoolOp .And [a] pos) tA := by
 show 261
 refine isTrue_and (thn (ha pins s σ H Q I h) fun c s1 e => ?_)
 cases c with
 | true => exact isTrue_and_nil e
 | false => exact e
theorem YiF (ha : PT X a tA) : PW X (.BoolOp .Or [a] pos) tA := by
 show 261
 refine isTrue_or (thn (ha pins s σ H Q I h) fun c s1 e => ?_)
 cases c with
 | false => exact isTrue_or_nil e
 | true => exact e
theorem Yjh (ha : PT X a tA) (hb : PW X (.BoolOp .And (b :: rest) pos) tB') : PW X (.BoolOp .And (a :: b :: rest) pos) (Ypg tA tB') := by
 show 261
 refine isTrue_and (thn (ha pins s σ H _ I h) fun c s1 ⟨H1, I1, q1⟩ => ?_)
 cases c with
 | true => exact hb wh pins s1 σ H1 Q I1 q1
 | false => exact ⟨H1, I1, q1⟩
theorem Yke (ha : PT X a tA) (hb : PW X (.BoolOp .Or (b :: rest) pos) tB') : PW X (.BoolOp .Or (a :: b :: rest) pos) (tOr tA tB') := by
 show 261
 refine isTrue_or (thn (ha pins s σ H _ I h) fun c s1 ⟨H1, I1, q1⟩ => ?_)
 cases c with
 | true => exact ⟨H1, I1, q1⟩
 | false => exact hb wh pins s1 σ H1 Q I1 q1
theorem Yja (ha : PT X a tA) : PT X (.UnaryOp .Not a pos) (Ypc tA) := by
 show 168
 exact isTrue_not (ha pins s σ H (fun c H1 => Q (!c) H1) I h)
def YoF (ta tb : TE) : TE := fun σ H Q => ta σ H fun x H1 => ∃ c, x = .bl c /\ if c = true then tb σ H1 Q else Q (.bl false) H1
theorem Yjk {op} {t : TE} (h : PE X a t) : PE X (.BoolOp op [a] pos) t := fun pins s σ H Q I hw => BoolOp_one (h pins s σ H Q I hw)
theorem Yi8 (ha : PE X a ta) (hb : PE X (.BoolOp .And (b :: rest) pos) tb) : PE X (.BoolOp .And (a :: b :: rest) pos) (YoF ta tb) := by
 show 168
 refine BoolOp_and (thn (ha pins s σ H _ I h) fun v s1 ⟨x, H1, I1, r1, q1⟩ => ?_)
 obtain ⟨c, rfl, q1⟩ := q1
 cases r1
 refine ZBb ?_
 cases c with
 | true => exact hb pins s1 σ H1 Q I1 q1
 | false => exact ⟨.bl false, H1, I1, rfl, q1⟩
end
end L2
namespace L2
open PySem PySem.Spec PyProof.Rows
def SqL (K : Frag) (H : Hp) (a : Addr) (xs : List V) : Prop :=
 Rd H a (.lst xs) \/
  ∃ (o : Obj) (its : Array Value) (n : Nat), K.lookup a = some o /\ o.cls = .type "list" /\ o.dict = none /\ o.data = .seq its n /\ its.size <= sizeLine /\ Vals xs its.toList
def SqT (K : Frag) (H : Hp) (a : Addr) (xs : List V) : Prop :=
 Rd H a (.tup xs) \/
  ∃ (o : Obj) (its : Array Value) (n : Nat), K.lookup a = some o /\ o.cls = .type "tuple" /\ o.data = .seq its n /\ its.size <= sizeLine /\ Vals xs its.toList
def YoX : Value -> Option V
 | .none => some .non
 | .bool b => some (.bl b)
 | .int i _ => some (.int i)
 | .str x _ => some (.str x)
 | .bytes b _ => some (.byt b)
 | .float b _ => some (.flt b)
 | .ref a => some (.ref a)
 | .type n => some (.ty n)
 | _ => none
theorem RelV.abs {x : V} {u : Value} (r : RelV x u) : YoX u = some x := by
 cases x with
 | non => cases r; rfl
 | bl _ => cases r; rfl
 | int _ => show 212
 | str _ => show 212
 | byt _ => show 212
 | flt _ => show 212
 | ref _ => cases r; rfl
 | ty _ => cases r; rfl
theorem RelV.inj {x y : V} {u : Value} (r : RelV x u) (q : RelV y u) : x = y := Option.some.inj (r.abs.symm.trans q.abs)
theorem Vals.inj : ∀ {xs ys : List V} {us : List Value}, Vals xs us -> Vals ys us -> xs = ys
 | _, _, _, .nil, .nil => rfl
 | _, _, _, .cons r t, .cons r' t' => by rw [r.inj r', Vals.inj t t']
section
variable {X : Cx} {pins : LAO} {σ : St} {H : Hp} {s : Shared} {a : Addr} {xs ys : List V}
theorem SqL.of {K : Frag} (h : H a = some (.lst xs)) : SqL K H a xs := .inl (.inl h)
theorem SqT.of {K : Frag} (h : H a = some (.tup xs)) : SqT K H a xs := .inl (.inl h)
theorem Inv.list (I : Inv X pins σ H s) (h : SqL X.K H a xs) : ∃ its : List Value, Vals xs its /\ PlainL s.heap a its.toArray /\ xs.length <= sizeLine := by
 rcases h with h | ⟨o, its, n, hk, hc, hd, hs, hz, r⟩
 ·obtain ⟨z, its, n, r, e⟩ := h.ok I.hok
  exact ⟨its, r, ⟨_, n, e, rfl, rfl, rfl⟩, z⟩
 ·refine ⟨its.toList, r, ⟨o, n, I.kIn a o hk, hc, hd, by simpa using hs⟩, ?_⟩
  have e := r.length
  simp only [Array.length_toList] at e
  omega
theorem Inv.tuple (I : Inv X pins σ H s) (h : SqT X.K H a xs) : ∃ its : List Value, Vals xs its /\ IsTup s.heap a its.toArray /\ xs.length <= sizeLine := by
 rcases h with h | ⟨o, its, n, hk, hc, hs, hz, r⟩
 ·obtain ⟨z, its, r, p⟩ := h.ok I.hok
  exact ⟨its, r, p, z⟩
 ·refine ⟨its.toList, r, ⟨o, I.kIn a o hk, hc, n, by simpa using hs⟩, ?_⟩
  have e := r.length
  simp only [Array.length_toList] at e
  omega
theorem Inv.list_inj (I : Inv X pins σ H s) (h : SqL X.K H a xs) (h' : SqL X.K H a ys) : xs = ys := by
 obtain ⟨its, r, ⟨o, n, e, _, _, d⟩, _⟩ := I.list h
 obtain ⟨its', r', ⟨o', n', e', _, _, d'⟩, _⟩ := I.list h'
 rw [e] at e'; cases e'
 rw [d] at d'
 injection d' with d1 _
 have : its = its' := by simpa using congrArg Array.toList d1
 subst this
 exact r.inj r'
theorem Inv.tuple_inj (I : Inv X pins σ H s) (h : SqT X.K H a xs) (h' : SqT X.K H a ys) : xs = ys := by
 obtain ⟨its, r, ⟨o, e, _, n, d⟩, _⟩ := I.tuple h
 obtain ⟨its', r', ⟨o', e', _, n', d'⟩, _⟩ := I.tuple h'
 rw [e] at e'; cases e'
 rw [d] at d'
 injection d' with d1 _
 have : its = its' := by simpa using congrArg Array.toList d1
 subst this
 exact r.inj r'
end
abbrev Cx.wish (X : Cx) (E : VSP) : Cx := { X with xe := E }
abbrev Cx.nox (X : Cx) : Cx := X.wish fun _ _ => False
theorem Cx.Ok.wish {X : Cx} (ok : X.Ok) (E : VSP) : (X.wish E).Ok :=
 ⟨ok.mod, ok.kind, ok.glob, ok.blt, ok.above, ok.inj, ok.has, ok.cab, ok.hd, ok.frames, ok.stk, ok.exf, ok.bs, ok.bsz, ok.noex, ok.exfs, ok.funs, ok.frf⟩
theorem Cx.Ok.unwish {X : Cx} {E : VSP} (ok : (X.wish E).Ok) : X.Ok :=
 ⟨ok.mod, ok.kind, ok.glob, ok.blt, ok.above, ok.inj, ok.has, ok.cab, ok.hd, ok.frames, ok.stk, ok.exf, ok.bs, ok.bsz, ok.noex, ok.exfs, ok.funs, ok.frf⟩
section
variable {X : Cx} {pins : LAO} {σ : St} {H : Hp} {s : Shared} {E : VSP}
theorem Inv.wish (I : Inv X pins σ H s) (E : VSP) : Inv (X.wish E) pins σ H s := ⟨I.ok.wish E, I.os, I.bare, I.base, I.loc, I.cell, I.free, I.freeC, I.pin, I.hok, I.len⟩
theorem Inv.unwish (I : Inv (X.wish E) pins σ H s) : Inv X pins σ H s := ⟨I.ok.unwish, I.os, I.bare, I.base, I.loc, I.cell, I.free, I.freeC, I.pin, I.hok, I.len⟩
theorem SP.unwish {D : Ends} {f : Flow} {s' : Shared} (h : SP (X.wish E) pins D f s') : SP X pins D f s' := by
 cases f with
 | next => obtain ⟨σ', H', I, q⟩ := h; exact ⟨σ', H', I.unwish, q⟩
 | brk => obtain ⟨σ', H', I, q⟩ := h; exact ⟨σ', H', I.unwish, q⟩
 | cont => obtain ⟨σ', H', I, q⟩ := h; exact ⟨σ', H', I.unwish, q⟩
 | ret u => obtain ⟨v, σ', H', I, r, q⟩ := h; exact ⟨v, σ', H', I.unwish, r, q⟩
theorem PSs.nox {st : List Stmt} {t : TS} (h : PSs X.nox st t) : PSs X st t := fun pins s σ H D I hw =>
 ZAw (h pins s σ H D (I.wish _) hw) (fun _ _ q => q.unwish) fun _ _ z => False.elim z
end
section
variable {X : Cx} {st : Stmt} {rest : List Stmt} {t u : TS} {e : Expr} {te : TE} {pos : Pos}
def Yop : TS := fun D σ H => D.nx σ H
def Yo9 (t u : TS) : TS := fun D σ H => t { D with nx := u D } σ H
theorem YhV : PSs X [] Yop := fun _ _ σ H _ I h => ZBp ⟨σ, H, I, h⟩
theorem Yf5 (h1 : PS X st t) (h2 : PSs X rest u) : PSs X (st :: rest) (Yo9 t u) := by
 show 186
 refine wpAny_execs_cons (thn (h1 pins s σ H { D with nx := u D } I h) fun f s1 q => ?_)
 cases f with
 | next =>
  obtain ⟨σ', H', I', q⟩ := q
  exact h2 pins s1 σ' H' D I' q
 | ret v => exact q
 | brk => exact q
 | cont => exact q
theorem YhQ (h1 : PS X st t) : PSs X [st] t := by
 show 186
 refine wpAny_execs_cons (thn (h1 pins s σ H D I h) fun f s1 q => ?_)
 cases f with
 | next => exact ZBp q
 | ret v => exact q
 | brk => exact q
 | cont => exact q
theorem Inv.quiet {pins : LAO} {σ : St} {H : Hp} {s : Shared} (I : Inv X pins σ H s) : interactive X.env = false := by simp [interactive, I.ok.kind]
def YoJ (te : TE) : TS := fun D σ H => te σ H fun _ H1 => D.nx σ H1
theorem YgY (he : PE X e te) (hs : swapsWith e none pos.line X.env = pure false := by rfl) : PS X (.Expr e pos) (YoJ te) := by
 show 186
 exact wpAny_Expr_any (thn (he pins s σ H _ I h) fun v s1 ⟨x, H1, I1, r1, q1⟩ => ⟨σ, H1, I1, q1⟩) I.quiet hs
def Ypf (te : TE) : TS := fun D σ H => te σ H D.rt
theorem Yit (he : PE X e te) : PS X (.Return (some e) pos) (Ypf te) := by
 show 186
 exact wpAny_Return_some (thn (he pins s σ H _ I h) fun v s1 ⟨x, H1, I1, r1, q1⟩ => ⟨x, σ, H1, I1, r1, q1⟩)
def YoV (c : TT) (t u : TS) : TS := fun D σ H => c σ H fun b H1 => if b = true then t D σ H1 else u D σ H1
theorem Ykk {c : Expr} {a b : List Stmt} {tc : TT} (hc : PT X c tc) (ha : PSs X a t) (hb : PSs X b u) : PS X (.If c a b pos) (YoV tc t u) := by
 show 186
 refine wpAny_If (thn (hc pins s σ H _ I h) fun d s1 ⟨H1, I1, q1⟩ => ?_)
 cases d with
 | true => exact ha pins s1 σ H1 D I1 q1
 | false => exact hb pins s1 σ H1 D I1 q1
end
abbrev TG := V -> St -> Hp -> (St -> Hp -> Prop) -> Prop
abbrev TGs := List V -> St -> Hp -> (St -> Hp -> Prop) -> Prop
def PG (X : Cx) (target : Expr) (t : TG) : Prop :=
 ∀ (pins : LAO) (s : Shared) (σ : St) (H : Hp) (v : V) (u : Value) (Q : St -> Hp -> Prop), Inv X pins σ H s -> RelV v u -> t v σ H Q ->
  wpAny (model X.prog X.w) X.A (assign target X.env u) (fun _ s' => ∃ σ' H', Inv X pins σ' H' s' /\ Q σ' H') X.xe s
def PGs (X : Cx) (ts : List Expr) (t : TGs) : Prop :=
 ∀ (pins : LAO) (s : Shared) (σ : St) (H : Hp) (vs : List V) (us : List Value) (Q : St -> Hp -> Prop), Inv X pins σ H s -> Vals vs us -> t vs σ H Q ->
  wpAny (model X.prog X.w) X.A (assignInOrder ((assignEach ts X.env).map (·.2)) us) (fun _ s' => ∃ σ' H', Inv X pins σ' H' s' /\ Q σ' H') X.xe s
abbrev YoZ := V -> V -> V -> Hp -> (Hp -> Prop) -> Prop
def Yo8 (X : Cx) (t : YoZ) : Prop :=
 ∀ (pins : LAO) (s : Shared) (σ : St) (H : Hp) (o i v : V) (ov iv u : Value) (Q : Hp -> Prop), Inv X pins σ H s -> RelV o ov -> RelV i iv -> RelV v u -> t o i v H Q ->
  wpAny (model X.prog X.w) X.A (setItem ov iv u) (fun _ s' => ∃ H', Inv X pins σ H' s' /\ Q H') X.xe s
section
variable {X : Cx} {pos : Pos}
def YnZ (i : Nat) : TG := fun v σ H Q => Q (σ.set i (some v)) H
theorem Yhb {i : Nat} {x : Str} (hN : X.N.Nodup) (hi : X.N[i]? = some x) (hx : Loc X.env.scope x) (hf : X.fn x = true \/ X.env.scope.names.lookup x = some .local := by first | exact .inl rfl | exact .inr rfl | assumption) : PG X (.Name x pos) (YnZ i) := by
 intro pins s σ H v u Q I r h
 exact wpAny_assign_Name (YcI I hN hi hx r (fun s' I' => ⟨_, H, I', h⟩) hf)
def Ypb : TGs := fun vs σ H Q => vs = [] /\ Q σ H
def Yos (t : TG) (u : TGs) : TGs := fun vs σ H Q => ∃ v r, vs = v :: r /\ t v σ H fun σ' H' => u r σ' H' Q
theorem Yhm : PGs X [] Ypb := by
 intro pins s σ H vs us Q I r h
 obtain ⟨e, h⟩ := h
 subst e
 cases r
 exact assignInOrder_nil ⟨σ, H, I, h⟩
theorem YfX {e : Expr} {es : List Expr} {t : TG} {u : TGs} (h1 : PG X e t) (h2 : PGs X es u)
 (hs : (assignEach (e :: es) X.env).map (·.2) = assign e X.env :: (assignEach es X.env).map (·.2) := by rfl) : PGs X (e :: es) (Yos t u) := by
 intro pins s σ H vs us Q I r h
 obtain ⟨v, vr, e1, h⟩ := h
 subst e1
 cases r with
 | cons r rr =>
  rw [hs]
  refine assignInOrder_cons (thn (h1 pins s σ H _ _ _ I r h) fun _ s1 ⟨σ1, H1, I1, q1⟩ => ?_)
  exact h2 pins s1 σ1 H1 _ _ Q I1 rr q1
def YoT (K : Frag) (n : Nat) (t : TGs) : TG := fun v σ H Q => ∃ a xs, v = .ref a /\ SqT K H a xs /\ xs.length = n /\ t xs σ H Q
theorem YiR {es : List Expr} {k : Nat} {t : TGs} {n : Nat} (hc : X.calm = true) (h : PGs X es t)
 (hn : (assignEach es X.env).length = n := by rfl) (hst : (assignEach es X.env).findIdx? (·.1) = none := by rfl) : PG X (.Tuple es k pos) (YoT X.K n t) := by
 intro pins s σ H v u Q I r hw
 obtain ⟨a, xs, e1, hq, hl, hw⟩ := hw
 subst e1
 cases r
 obtain ⟨its, rv, ht, hz⟩ := I.tuple hq
 refine assign_Tuple_tuple (I.ok.hd hc) ht (by simp [hn, <- hl, rv.length]) hst fun h' hx => ?_
 have I1 : Inv X pins σ H { s with heap := h' } := I.kept (t' := s.toks) fun b o e => hx b o (ZAL (ZAD e)) e
 exact h pins _ σ H xs _ Q I1 (by simpa using rv) hw
def Yot (te : TE) (g : TG) : TS := fun D σ H => te σ H fun x H1 => g x σ H1 D.nx
theorem Yiw {tg e : Expr} {te : TE} {g : TG} (he : PE X e te) (hg : PG X tg g) (hs : swapsWithSole [tg] e pos.line X.env = pure false := by rfl) (hw : swappedStores [tg] e X.env = pure none := by rfl)
 (h1 : (assignEach [tg] X.env).map (·.2) = [assign tg X.env] := by rfl) : PS X (.Assign [tg] e pos) (Yot te g) := by
 show 186
 refine wpAny_Assign_stores (thn (he pins s σ H _ I h) fun v s1 ⟨x, H1, I1, r1, q1⟩ => ?_) hs hw
 rw [h1]
 exact thn (hg pins s1 σ H1 x v _ I1 r1 q1) fun _ s2 q => q
theorem Yir {i : Nat} {x : Str} {e : Expr} {te : TE} {pos' : Pos} (hN : X.N.Nodup) (hi : X.N[i]? = some x) (hx : Loc X.env.scope x) (he : PE X e te) (hs : swapsWith e (some (.Name x pos')) pos.line X.env = pure false := by rfl) (hf : X.fn x = true \/ X.env.scope.names.lookup x = some .local := by first | exact .inl rfl | exact .inr rfl | assumption) :
 PS X (.Assign [.Name x pos'] e pos) (Yot te (YnZ i)) := by
 show 186
 refine wpAny_Assign_Name (thn (he pins s σ H _ I h) fun v s1 ⟨y, H1, I1, r1, q1⟩ => ?_) hs
 exact YcI I1 hN hi hx r1 (fun s2 I2 => ⟨_, H1, I2, q1⟩) hf
end
section
variable {X : Cx} {pos : Pos}
def Yob (c : TT) (tb : TS) : TS := fun D σ H => ∃ W : Nat -> St -> Hp -> Prop, (∃ m, W m σ H) /\ ∀ m σ H, W m σ H ->
 c σ H fun b H1 => if b = true then ∃ N : St -> Hp -> Prop, (∀ σ' H', N σ' H' -> ∃ m', m' < m /\ W m' σ' H') /\ tb { D with nx := N, ct := N, bk := D.nx } σ H1 else D.nx σ H1
theorem Ygs {c : Expr} {body : List Stmt} {tc : TT} {tb : TS} (hp : PassesOwn (model X.prog X.w) X.A X.env X.xe) (hc : PT X c tc) (hb : PSs X body tb) : PS X (.While c body [] pos) (Yob tc tb) := by
 show 186
 obtain ⟨W, ⟨m0, w0⟩, turn⟩ := h
 refine wpAny_While (codeAny_whileLoop (fun n s' => ∃ σ' H', Inv X pins σ' H' s' /\ W n σ' H') ?_ m0 ⟨σ, H, I, w0⟩)
 rintro n s1 ⟨σ1, H1, I1, w1⟩
 refine ZBO hp (thn (hc pins s1 σ1 H1 _ I1 (turn n σ1 H1 w1)) fun b s2 ⟨H2, I2, q2⟩ => ?_)
 cases b with
 | true =>
  obtain ⟨N, hN, q2⟩ := q2
  rw [ZAI rfl]
  refine ZBO hp (thn (hb pins s2 σ1 H2 _ I2 q2) fun f s3 q3 => ?_)
  cases f with
  | next =>
   obtain ⟨σ3, H3, I3, n3⟩ := q3
   obtain ⟨m', hm, w3⟩ := hN σ3 H3 n3
   exact ⟨m', hm, σ3, H3, I3, w3⟩
  | cont =>
   obtain ⟨σ3, H3, I3, n3⟩ := q3
   obtain ⟨m', hm, w3⟩ := hN σ3 H3 n3
   exact ⟨m', hm, σ3, H3, I3, w3⟩
  | brk => exact q3
  | ret v => exact q3
 | false =>
  rw [ZAJ ZAQ]
  exact ZBp ⟨σ1, H2, I2, q2⟩
end
structure It where
 go : Nat -> Hp -> Prop
 yld : Nat -> Hp -> V -> Hp -> Prop
 stop : Nat -> Hp -> Prop
def YlA (X : Cx) (pins : LAO) (H : Hp) (b : Addr) : Prop :=
 H b = none /\ b ≠ X.env.locals /\ b ∉ X.fs /\ (b ∈ X.ex \/ X.s₀.heap.objs.size <= b) /\ (∀ x c, X.env.cells.lookup x = some c -> c ≠ b) /\ ∀ p ∈ X.pn ++ pins, p.1 ≠ b
theorem Inv.fpOk {X : Cx} {pins : LAO} {σ : St} {H H' : Hp} {s : Shared} {b : Addr} (I : Inv X pins σ H s) (hb : s.heap.objs.size <= b) (hn : H' b = none) : YlA X pins H' b := by
 refine ⟨hn, ZBE (ZAN I.lt hb), I.nofs hb, .inr (ZAH I.sz hb), fun x c e z => ?_, fun p hp z => ?_⟩
 ·obtain ⟨v, q⟩ := I.cell x c e
  exact absurd (ZAN q.lt (by rw [z]; exact hb)) (ZA5 _)
 ·exact absurd (ZAN (ZAD (I.pin p hp).1) (by rw [z]; exact hb)) (ZA5 _)
structure Turn (P : Program) (w : World) (K : Frag) (tg : Expr) (J : It) (fp : List Addr) (it : Addr) (tn : Nat -> Heap -> Prop) : Prop where
 mem : it ∈ fp
 obj : ∀ i h, tn i h -> ∀ b ∈ fp, ∃ o, h.get? b = some o /\ ∀ v, o.data ≠ .cell v
 keep : ∀ i h h', tn i h -> (∀ b ∈ fp, ∀ o, h.get? b = some o -> h'.get? b = some o) -> tn i h'
 item : ∀ (X : Cx), X.prog = P -> X.w = w -> X.K = K -> X.calm = true -> ∀ (i : Nat) (pins : LAO) (s : Shared) (σ : St) (H : Hp) (E : VSP), Inv X pins σ H s -> (∀ b ∈ fp, YlA X pins H b) -> tn i s.heap -> J.go i H ->
  wpAny (model P w) X.A (pyNext (.ref it)) (fun r s1 => ∃ u, r = some u /\
   wpAny (model P w) X.A (letOwnedTupleGo tg (.ref it) u) (fun _ s2 => ∃ x H', Inv X pins σ H' s2 /\ RelV x u /\ J.yld i H x H' /\ tn (i + 1) s2.heap /\ ∀ b ∈ fp, H' b = none) E s1) E s
 done : ∀ (X : Cx), X.prog = P -> X.w = w -> X.K = K -> X.calm = true -> ∀ (i : Nat) (pins : LAO) (s : Shared) (σ : St) (H : Hp) (E : VSP), Inv X pins σ H s -> (∀ b ∈ fp, YlA X pins H b) -> tn i s.heap -> J.stop i H ->
  wpAny (model P w) X.A (pyNext (.ref it)) (fun r s1 => r = none /\ Inv X pins σ H s1) E s
 self : ∀ (A : Around) (i : Nat) (s : Shared) (Q : VSP) (E : VSP), tn i s.heap -> Q (.ref it) s -> wpAny (model P w) A (pyIter (.ref it)) Q E s
abbrev TI := St -> Hp -> (It -> Hp -> Prop) -> Prop
def PIE (X : Cx) (pins : LAO) (σ : St) (tg : Expr) (R : It -> Hp -> Prop) (itv : Value) (s2 : Shared) : Prop :=
 ∃ (it : Addr) (fp : List Addr) (tn : Nat -> Heap -> Prop) (J : It) (H' : Hp), itv = .ref it /\ Inv X pins σ H' s2 /\ Turn X.prog X.w X.K tg J fp it tn /\ tn 0 s2.heap /\ (∀ b ∈ fp, YlA X pins H' b) /\ R J H'
def PI (X : Cx) (tg iter : Expr) (wi : TI) : Prop :=
 ∀ (pins : LAO) (s : Shared) (σ : St) (H : Hp) (R : It -> Hp -> Prop), Inv X pins σ H s -> wi σ H R ->
  wpAny (model X.prog X.w) X.A (eval iter X.env) (fun v s1 => wpAny (model X.prog X.w) X.A (pyIter v) (PIE X pins σ tg R) X.xe s1) X.xe s
theorem YcC {M : Model} {A : Around} {E : VSP} {s : Shared} {tg : Expr} {it : Addr} {u : Value} {o : Obj} {n : String} {vs : Array Value} {Q : Unit -> Shared -> Prop} (ho : s.heap.get? it = some o) (hc : o.cls = .type n) (hd : o.data = .fields vs)
 (hn : ["enumerate", "zip", "dict_itemiterator", "dict_reverseitemiterator", "odict_iterator", "itertools.zip_longest", "itertools.pairwise"].contains n = false) (hQ : Q () s) : wpAny M A (letOwnedTupleGo tg (.ref it) u) Q E s := by
 unfold letOwnedTupleGo
 cases tg <;> first
  | exact ZAC hQ
  | (cases u <;> first
   | exact ZAC hQ
   | (refine ZAA (ZCG ho ?_)
      rw [hc, hd]
      show wpAny M A (if (["enumerate", "zip", "dict_itemiterator", "dict_reverseitemiterator", "odict_iterator", "itertools.zip_longest", "itertools.pairwise"].contains n && vs[0]? == some (rawInt _)) = true then _ else _) Q E s
      rw [ZAJ (by intro h; rw [hn, Bool.false_and] at h; cases h)]
      exact ZAC hQ))
def Itl (K : Frag) (a : Addr) : It :=
 ⟨fun i H => ∃ xs x, SqL K H a xs /\ xs[i]? = some x, fun i H x H' => H' = H /\ ∀ xs, SqL K H a xs -> xs[i]? = some x, fun i H => ∃ xs, SqL K H a xs /\ xs.length <= i⟩
def Itt (K : Frag) (a : Addr) : It :=
 ⟨fun i H => ∃ xs x, SqT K H a xs /\ xs[i]? = some x, fun i H x H' => H' = H /\ ∀ xs, SqT K H a xs -> xs[i]? = some x, fun i H => ∃ xs, SqT K H a xs /\ xs.length <= i⟩
def Itr (lo : Int) (n : Nat) : It := ⟨fun i _ => i < n, fun i H x H' => H' = H /\ x = .int (lo + i), fun i _ => n <= i⟩
theorem YeZ {P : Program} {w : World} {K : Frag} {tg : Expr} (a it : Addr) : Turn P w K tg (Itl K a) [it] it (fun i h => h.IsListIter it a i) where
 mem := by simp
 obj := fun i h st b hb => by
  show 80
 keep := fun i h h' st k => st.at fun o e => k it (by simp) o e
 item := by
  show 15
  obtain ⟨xs, x, hq, hx⟩ := hg
  obtain ⟨its, rv, p, hz⟩ := I.list hq
  obtain ⟨u, hu, ru⟩ := rv.get hx
  show 198
  refine wpAny_pyNext_list_item st p.isList (x := u) (by simpa using hu) fun h' st' sb => ?_
  have I1 : Inv X pins σ H { s with heap := h' } := I.turned (t' := s.toks) (fun b o hb e => (sb.2 b hb).trans e) f0 f1 f3 f4 f5
  obtain ⟨o, e, c, d⟩ := id st'
  exact ⟨u, rfl, YcC (s := { s with heap := h' }) e c d (by decide) ⟨x, H, I1, ru, ⟨rfl, fun ys hy => by rw [I.list_inj hy hq]; exact hx⟩, st', fun b hb => (hf b hb).1⟩⟩
 done := by
  show 15
  obtain ⟨xs, hq, hx⟩ := hg
  obtain ⟨its, rv, p, hz⟩ := I.list hq
  show 198
  show 190
  exact wpAny_pyNext_list_end (I.ok.hd hc) st p.isList (by simp; omega) fun h' eb => ⟨rfl, I.turned (t' := s.toks) (fun b o hb e => eb b o hb e) f0 f1 f3 f4 f5⟩
 self := fun _ _ _ _ _ st h => wpAny_pyIter_listiter st h
theorem YcY {P : Program} {w : World} {K : Frag} {tg : Expr} (a it : Addr) : Turn P w K tg (Itt K a) [it] it (fun i h => h.IsTupleIter it a i) where
 mem := by simp
 obj := fun i h st b hb => by
  show 80
 keep := fun i h h' st k => st.at fun o e => k it (by simp) o e
 item := by
  show 15
  obtain ⟨xs, x, hq, hx⟩ := hg
  obtain ⟨its, rv, p, hz⟩ := I.tuple hq
  obtain ⟨u, hu, ru⟩ := rv.get hx
  show 198
  refine wpAny_pyNext_tuple_item st (show s.heap.IsTuple a its.toArray from p) (x := u) (by simpa using hu) fun h' st' sb => ?_
  have I1 : Inv X pins σ H { s with heap := h' } := I.turned (t' := s.toks) (fun b o hb e => (sb.2 b hb).trans e) f0 f1 f3 f4 f5
  obtain ⟨o, e, c, d⟩ := id st'
  exact ⟨u, rfl, YcC (s := { s with heap := h' }) e c d (by decide) ⟨x, H, I1, ru, ⟨rfl, fun ys hy => by rw [I.tuple_inj hy hq]; exact hx⟩, st', fun b hb => (hf b hb).1⟩⟩
 done := by
  show 15
  obtain ⟨xs, hq, hx⟩ := hg
  obtain ⟨its, rv, p, hz⟩ := I.tuple hq
  show 198
  show 190
  exact wpAny_pyNext_tuple_end (I.ok.hd hc) st (show s.heap.IsTuple a its.toArray from p) (by simp; omega) fun h' eb => ⟨rfl, I.turned (t' := s.toks) (fun b o hb e => eb b o hb e) f0 f1 f3 f4 f5⟩
 self := fun _ _ _ _ _ st h => wpAny_pyIter_tupleiter st h
theorem YcT {P : Program} {w : World} {K : Frag} {tg : Expr} (it : Addr) (lo : Int) (n : Nat) : Turn P w K tg (Itr lo n) [it] it (fun i h => IsRangeIter h it (lo + (i : Nat) * 1) ((n : Int) - (i : Nat)) 1) where
 mem := by simp
 obj := fun i h st b hb => by
  show 95
  exact ⟨_, st, fun v z => by
   have z' : Data.fields _ = Data.cell v := z
   cases z'⟩
 keep := fun i h h' st k => k it (by simp) _ st
 item := by
  show 89
  have W := Walks.range (prog := X.prog) (w := X.w) (I.ok.hd hc) it lo 1 n
  refine W.item i s _ _ hg st fun v h' tk hv st' kk => ?_
  obtain ⟨t, rfl⟩ := hv
  have I1 : Inv X pins σ H { s with heap := h', toks := tk } := I.turned (fun b o hb e => kk b o (by simpa using hb) e) f0 f1 f3 f4 f5
  refine ⟨_, rfl, YcC (s := { s with heap := h', toks := tk }) (n := "range_iterator") st' rfl rfl (by decide) ⟨.int (lo + i), H, I1, ⟨t, ?_⟩, ⟨rfl, rfl⟩, st', fun b hb => (hf b hb).1⟩⟩
  rw [Int.mul_one]
 done := by
  show 89
  exact wpAny_pyNext_range_end (I.ok.hd hc) st (by have : n <= i := hg; omega) fun h' eb => ⟨rfl, I.turned (t' := s.toks) (fun b o hb e => eb b o hb e) f0 f1 f3 f4 f5⟩
 self := fun _ _ _ _ _ st h => wpAny_pyIter_rangeiter st h
end L2
namespace L2
open PySem PySem.Spec PyProof.Rows
section
variable {X : Cx} {tg : Expr}
theorem Ycd {pins : LAO} {σ : St} {H : Hp} {s : Shared} {R : It -> Hp -> Prop} {E : VSP} {lo hi : Int} {t u v : Tok} {tk : Nat} (I : Inv X pins σ H s) (h1 : -(2 ^ 62) <= lo) (h2 : lo < 2 ^ 62) (h3 : -(2 ^ 62) <= hi) (h4 : hi < 2 ^ 62)
 (q : R (Itr lo (hi - lo).toNat) H) : wpAny (model X.prog X.w) X.A (pyIter (.ref s.heap.objs.size)) (PIE X pins σ tg R) E { s with heap := s.heap.push { cls := .type "range", data := .fields #[.int lo t, .int hi u, .int 1 v] }, toks := tk } := by
 refine wpAny_pyIter_range (IsRange.new ..) (small_one h1 h2 h3 h4) ?_
 have I1 : Inv X pins σ H { s with heap := s.heap.push { cls := .type "range", data := .fields #[.int lo t, .int hi u, .int 1 v] }, toks := tk } := I.kept fun b o e => ZAB _ e
 refine ⟨(s.heap.push { cls := .type "range", data := .fields #[.int lo t, .int hi u, .int 1 v] }).objs.size, [(s.heap.push { cls := .type "range", data := .fields #[.int lo t, .int hi u, .int 1 v] }).objs.size], _, _, H, rfl,
  I1.kept (t' := tk) fun b o e => ZAB _ e, YcT _ lo (hi - lo).toNat, ?_, fun b hb => ?_, q⟩
 ·have e1 : lo + ((0 : Nat) : Int) * 1 = lo := by simp
  have e2 : (((hi - lo).toNat : Nat) : Int) - ((0 : Nat) : Int) = Builtin.Range.rangeSize lo hi 1 := by rw [rangeSize_one]; split <;> omega
  show IsRangeIter _ _ (lo + ((0 : Nat) : Int) * 1) ((((hi - lo).toNat : Nat) : Int) - ((0 : Nat) : Int)) 1
  rw [e1, e2]
  exact ZAF _ rfl
 ·have e : b = (s.heap.push { cls := .type "range", data := .fields #[.int lo t, .int hi u, .int 1 v] }).objs.size := by simpa using hb
  subst e
  exact I1.fpOk (ZAE _) (I1.hok.fresh (ZAE _))
def YoO (ta : TA) : TI := fun σ H R => ta σ H fun vs H1 => ∃ j : Int, vs = [.int j] /\ -(2 ^ 62) <= j /\ j < 2 ^ 62 /\ R (Itr 0 j.toNat) H1
def Yoq (ta : TA) : TI := fun σ H R => ta σ H fun vs H1 => ∃ i j : Int, vs = [.int i, .int j] /\ (-(2 ^ 62) <= i /\ i < 2 ^ 62 /\ -(2 ^ 62) <= j /\ j < 2 ^ 62) /\ R (Itr i (j - i).toNat) H1
theorem Yet {a : Expr} {ta : TA} {p pos : Pos} (hg : Gl X "range") (hm : X.mg "range" = none) (ha : PA X [a] ta) (hs : starEach [a] X.env = [(false, eval a X.env)] := by rfl) : PI X tg (.Call (.Name "range" p) [a] [] pos) (YoO ta) := by
 intro pins s σ H R I h
 refine Call_ (Wt I hg hm boot_range (PyProof.Rows.callWith_type1 (thn (ha pos pins s σ H _ I h) fun us s1 ⟨vs, H1, I1, r1, q1⟩ => ?_) hs rfl))
 obtain ⟨j, e, q1, q2, q⟩ := q1
 subst e
 cases r1 with
 | cons r rr =>
  cases rr
  show 244
  exact call_range_1 (Ycd I1 (by omega) (by omega) q1 q2 (by simpa using q))
theorem YdY {a b : Expr} {ta : TA} {p pos : Pos} (hg : Gl X "range") (hm : X.mg "range" = none) (ha : PA X [a, b] ta) (hs : starEach [a, b] X.env = [(false, eval a X.env), (false, eval b X.env)] := by rfl) (hs2 : starEach [b] X.env = [(false, eval b X.env)] := by rfl) :
 PI X tg (.Call (.Name "range" p) [a, b] [] pos) (Yoq ta) := by
 intro pins s σ H R I h
 refine Call_ (Wt I hg hm boot_range (PyProof.Rows.callWith_type1 (thn (ha pos pins s σ H _ I h) fun us s1 ⟨vs, H1, I1, r1, q1⟩ => ?_) (by rw [hs, hs2]) (by rw [hs2]; rfl)))
 obtain ⟨i, j, e, ⟨q1, q2, q3, q4⟩, q⟩ := q1
 subst e
 cases r1 with
 | cons r rr =>
  cases rr with
  | cons r' rr =>
   cases rr
   show 244
   obtain ⟨t', rfl⟩ := r'
   exact call_range_2 (Ycd I1 q1 q2 q3 q4 q)
def Yo4 (wi : TI) (g : TG) (tb : TS) : TS := fun D σ H => wi σ H fun J H1 => ∃ W : Nat -> Nat -> St -> Hp -> Prop, (∃ m, W 0 m σ H1) /\ ∀ i m σ H, W i m σ H ->
 (J.stop i H /\ D.nx σ H) \/ (J.go i H /\ ∃ N : St -> Hp -> Prop, (∀ σ' H', N σ' H' -> ∃ m', m' < m /\ W (i + 1) m' σ' H') /\ ∀ x H', J.yld i H x H' -> g x σ H' fun σ2 H2 => tb { D with nx := N, ct := N, bk := D.nx } σ2 H2)
def Ymk (fp : List Addr) (h : Heap) : List (Addr × Obj) := fp.filterMap fun b => (h.get? b).map fun o => (b, o)
theorem Za {fp : List Addr} {h : Heap} {b : Addr} {o : Obj} (hb : b ∈ fp) (e : h.get? b = some o) : (b, o) ∈ Ymk fp h := ZBH.mpr ⟨b, hb, by rw [e]; rfl⟩
theorem YeS {fp : List Addr} {h : Heap} {p : Addr × Obj} (hp : p ∈ Ymk fp h) : p.1 ∈ fp /\ h.get? p.1 = some p.2 := by
 obtain ⟨b, hb, e⟩ := ZBH.mp hp
 cases q : h.get? b with
 | none => show 209
 | some o =>
  rw [q] at e
  have e' : (b, o) = p := Option.some.inj e
  subst e'
  exact ⟨hb, q⟩
theorem Inv.pinned {pins : LAO} {σ : St} {H : Hp} {s : Shared} {fp : List Addr} (I : Inv X pins σ H s) (hf : ∀ b ∈ fp, YlA X pins H b) (ho : ∀ b ∈ fp, ∃ o, s.heap.get? b = some o /\ ∀ v, o.data ≠ .cell v) : Inv X (pins ++ Ymk fp s.heap) σ H s :=
 I.pins_of fun p hp => (ZAY.mp hp).elim (fun z => I.pin p (ZAP _ z)) fun z => by
  obtain ⟨hb, e⟩ := YeS z
  obtain ⟨f0, f1, f2, _⟩ := hf p.1 hb
  obtain ⟨o, e', d⟩ := ho p.1 hb
  rw [e] at e'; cases e'
  exact ⟨e, f0, f1, f2, d⟩
theorem Inv.unpinned {pins pl : LAO} {σ : St} {H : Hp} {s : Shared} (I : Inv X (pins ++ pl) σ H s) : Inv X pins σ H s := I.pins_of fun p hp => I.pin p (ZAP _ (ZAo _ hp))
theorem Yih {iter : Expr} {body : List Stmt} {wi : TI} {g : TG} {tb : TS} {pos : Pos} (hp : PassesOwn (model X.prog X.w) X.A X.env X.xe) (hc : X.calm = true) (hi : PI X tg iter wi) (hg : PG X tg g) (hb : PSs X body tb)
 (hs : ∀ x, foldedSetIterable iter X.env x = pure x := by intro _; rfl) : PS X (.For tg iter body [] pos) (Yo4 wi g tb) := by
 show 186
 refine wpAny_For (thn (hi pins s σ H _ I h) fun v s1 h1 => thn h1 fun itv s2 h2 => ?_) hs
 obtain ⟨it, fp, tn, J, H2, e, I2, T, st2, f2, W, ⟨m0, w0⟩, turn⟩ := h2
 subst e
 have stat : ∀ {H' : Hp}, (∀ b ∈ fp, H' b = none) -> ∀ b ∈ fp, YlA X pins H' b := fun hn b hb => ⟨hn b hb, (f2 b hb).2⟩
 refine codeAny_forLoop_any (fun n s' => ∃ i σ' H', Inv X pins σ' H' s' /\ tn i s'.heap /\ (∀ b ∈ fp, H' b = none) /\ W i n σ' H') ?_ m0 ⟨0, σ, H2, I2, st2, fun b hb => (f2 b hb).1, w0⟩
 rintro n s3 ⟨i, σ3, H3, I3, st3, fr3, w3⟩
 rcases turn i n σ3 H3 w3 with ⟨stop, qn⟩ | ⟨go, N, hN, step⟩
 ·refine ZBO hp (thn (T.done X rfl rfl rfl hc i pins s3 σ3 H3 X.xe I3 (stat fr3) st3 stop) fun r s4 ⟨hr, I4⟩ => ?_)
  subst hr
  exact ZBp ⟨σ3, H3, I4, qn⟩
 ·refine ZBO hp (thn (T.item X rfl rfl rfl hc i pins s3 σ3 H3 X.xe I3 (stat fr3) st3 go) fun r s4 ⟨u, hr, h4⟩ => ?_)
  subst hr
  refine ZBO hp (thn h4 fun _ s5 ⟨x, H5, I5, r5, y5, st5, fr5⟩ => ?_)
  have I5' := I5.pinned (stat fr5) (T.obj _ _ st5)
  refine ZBO hp (thn (hg _ s5 σ3 H5 x u _ I5' r5 (step x H5 y5)) fun _ s6 ⟨σ6, H6, I6, q6⟩ => ?_)
  refine ZBO hp (thn (hb _ s6 σ6 H6 _ I6 q6) fun f s7 q7 => ?_)
  have again : ∀ {σ7 : St} {H7 : Hp}, Inv X (pins ++ Ymk fp s5.heap) σ7 H7 s7 -> N σ7 H7 -> ∃ m, m < n /\ ∃ i σ' H', Inv X pins σ' H' s7 /\ tn i s7.heap /\ (∀ b ∈ fp, H' b = none) /\ W i m σ' H' := fun {σ7 H7} I7 n7 => by
   obtain ⟨m', hm, w7⟩ := hN σ7 H7 n7
   refine ⟨m', hm, i + 1, σ7, H7, I7.unpinned, T.keep _ _ _ st5 fun b hb o e => (I7.pin (b, o) (ZAP _ (ZAP _ (Za hb e)))).1, fun b hb => ?_, w7⟩
   obtain ⟨o, e, d⟩ := T.obj _ _ st5 b hb
   exact (I7.pin (b, o) (ZAP _ (ZAP _ (Za hb e)))).2.1
  cases f with
  | next => obtain ⟨σ7, H7, I7, n7⟩ := q7; exact again I7 n7
  | cont => obtain ⟨σ7, H7, I7, n7⟩ := q7; exact again I7 n7
  | brk => obtain ⟨σ7, H7, I7, q7⟩ := q7; exact ⟨σ7, H7, I7.unpinned, q7⟩
  | ret v => obtain ⟨x7, σ7, H7, I7, r7, q7⟩ := q7; exact ⟨x7, σ7, H7, I7.unpinned, r7, q7⟩
end
end L2
namespace L2
open PySem PySem.Spec PyProof.Rows
abbrev R2 := V -> V -> Hp -> VK -> Prop
def OpR (X : Cx) (f : Value -> Value -> Sem Value) (r : R2) : Prop :=
 ∀ (pins : LAO) (s : Shared) (σ : St) (H : Hp) (x y : V) (v u : Value) (Q : VK), Inv X pins σ H s -> RelV x v -> RelV y u -> r x y H Q ->
  wpAny (model X.prog X.w) X.A (f v u) (EP X pins σ Q) X.xe s
def UnR (X : Cx) (f : Value -> Sem Value) (r : V -> Hp -> VK -> Prop) : Prop :=
 ∀ (pins : LAO) (s : Shared) (σ : St) (H : Hp) (x : V) (v : Value) (Q : VK), Inv X pins σ H s -> RelV x v -> r x H Q ->
  wpAny (model X.prog X.w) X.A (f v) (EP X pins σ Q) X.xe s
def YlD (X : Cx) (f : Value) (r : List V -> Hp -> VK -> Prop) : Prop :=
 ∀ (pins : LAO) (s : Shared) (σ : St) (H : Hp) (xs : List V) (us : List Value) (Q : VK), Inv X pins σ H s -> Vals xs us -> r xs H Q ->
  wpAny (model X.prog X.w) X.A (call f us) (EP X pins σ Q) X.xe s
def YoR (X : Cx) (r : V -> Hp -> (Bool -> Hp -> Prop) -> Prop) : Prop :=
 ∀ (pins : LAO) (s : Shared) (σ : St) (H : Hp) (x : V) (v : Value) (Q : Bool -> Hp -> Prop), Inv X pins σ H s -> RelV x v -> r x H Q ->
  wpAny (model X.prog X.w) X.A (truthy v) (TP X pins σ Q) X.xe s
def tOp (r : R2) (ta tb : TE) : TE := fun σ H Q => ta σ H fun x H1 => tb σ H1 fun y H2 => r x y H2 Q
def tUn (r : V -> Hp -> VK -> Prop) (ta : TE) : TE := fun σ H Q => ta σ H fun x H1 => r x H1 Q
def rI (C : Int -> Int -> Prop) (g : Int -> Int -> V) : R2 := fun x y H Q => ∃ i j, x = .int i /\ y = .int j /\ C i j /\ Q (g i j) H
def rI0 (g : Int -> Int -> V) : R2 := fun x y H Q => ∃ i j, x = .int i /\ y = .int j /\ Q (g i j) H
def rU (g : Int -> V) : V -> Hp -> VK -> Prop := fun x H Q => ∃ i, x = .int i /\ Q (g i) H
section
variable {X : Cx} {a b c : Expr} {ta tb tc : TE} {pos : Pos}
theorem Yoh (ha : PE X a ta) (hb : PE X b tb) {pins : LAO} {s : Shared} {σ : St} {H : Hp} {R : V -> V -> Hp -> Prop} (I : Inv X pins σ H s)
 (h : ta σ H fun x H1 => tb σ H1 fun y H2 => R x y H2) {Q : VSP} {f : Value -> Value -> Sem Value}
 (hf : ∀ v u s2 x y H2, Inv X pins σ H2 s2 -> RelV x v -> RelV y u -> R x y H2 -> wpAny (model X.prog X.w) X.A (f v u) Q X.xe s2) :
 wpAny (model X.prog X.w) X.A (eval a X.env) (fun v s₁ => wpAny (model X.prog X.w) X.A (eval b X.env) (fun u s₂ => wpAny (model X.prog X.w) X.A (f v u) Q X.xe s₂) X.xe s₁) X.xe s := by
 refine thn (ha pins s σ H _ I h) fun v s1 ⟨x, H1, I1, r1, q1⟩ => ?_
 refine thn (hb pins s1 σ H1 _ I1 q1) fun u s2 ⟨y, H2, I2, r2, q2⟩ => ?_
 exact hf v u s2 x y H2 I2 r1 r2 q2
theorem Ykb {op : Operator} {r : R2} (ho : OpR X (binaryOp op) r) (ha : PE X a ta) (hb : PE X b tb) : PE X (.BinOp a op b pos) (tOp r ta tb) := by
 show 168
 exact wpAny_BinOp (Yoh ha hb I h fun v u s2 x y H2 I2 rx ry q => ho pins s2 σ H2 x y v u Q I2 rx ry q)
theorem Ykd {op : UnaryOp} {r : V -> Hp -> VK -> Prop} (ho : UnR X (unaryOp op) r) (ha : PE X a ta) : PE X (.UnaryOp op a pos) (tUn r ta) := by
 show 168
 exact UnaryOp_ (thn (ha pins s σ H _ I h) fun v s1 ⟨x, H1, I1, r1, q1⟩ => ho pins s1 σ H1 x v Q I1 r1 q1)
theorem opI {f : Value -> Value -> Sem Value} {C : Int -> Int -> Prop} {g : Int -> Int -> Int}
 (rule : ∀ (i j : Int) (t u : Tok) (s : Shared) (Q : VSP) (E : VSP), C i j -> Q (.int (g i j) s.toks) { s with toks := s.toks + 1 } -> wpAny (model X.prog X.w) X.A (f (.int i t) (.int j u)) Q E s) :
 OpR X f (rI C fun i j => .int (g i j)) := by
 show 194
 obtain ⟨i, j, rfl, rfl, hc, q⟩ := h
 show 30
 exact rule i j t t' s _ _ hc ⟨.int (g i j), H, I.tok _, ⟨_, rfl⟩, q⟩
theorem YoY {f : Value -> Value -> Sem Value} {g : Int -> Int -> Int}
 (rule : ∀ (i j : Int) (t u : Tok) (s : Shared) (Q : VSP) (E : VSP), Q (.int (g i j) s.toks) { s with toks := s.toks + 1 } -> wpAny (model X.prog X.w) X.A (f (.int i t) (.int j u)) Q E s) :
 OpR X f (rI0 fun i j => .int (g i j)) := by
 show 45
 exact rule i j t t' s _ _ ⟨.int (g i j), H, I.tok _, ⟨_, rfl⟩, q⟩
theorem Yoo {f : Value -> Value -> Sem Value} {g : Int -> Int -> Bool}
 (rule : ∀ (i j : Int) (t u : Tok) (s : Shared) (Q : VSP) (E : VSP), Q (.bool (g i j)) s -> wpAny (model X.prog X.w) X.A (f (.int i t) (.int j u)) Q E s) :
 OpR X f (rI0 fun i j => .bl (g i j)) := by
 show 45
 exact rule i j t t' s _ _ ⟨.bl (g i j), H, I, rfl, q⟩
def Yo0 (i j : Int) : Prop := 0 < j /\ j < 1073741824
def Yoi (i j : Int) : Prop := (-(2 ^ 64) < i /\ i < 2 ^ 64) \/ (-(2 ^ 64) < j /\ j < 2 ^ 64)
theorem Yoi.ok {i j : Int} (h : Yoi i j) : IntMulOk i j := by
 rcases h with ⟨h1, h2⟩ | ⟨h1, h2⟩
 ·exact .of_left (intBits_le_64 h1 h2)
 ·exact .of_right (intBits_le_64 h1 h2)
theorem Yiq : OpR X (binaryOp .Add) (rI0 fun i j => .int (i + j)) := YoY fun _ _ _ _ _ _ _ q => add_int q
theorem Yi2 : OpR X (binaryOp .Mult) (rI Yoi fun i j => .int (i * j)) := opI fun _ _ _ _ _ _ _ hc q => mul_int q hc.ok
theorem Yhr : OpR X (binaryOp .FloorDiv) (rI Yo0 fun i j => .int (i / j)) := opI fun i j _ _ _ _ _ hc q => by
 have h1 : (0 : Int) < j := hc.1
 have h2 : j < 1073741824 := hc.2
 exact floordiv_int (by omega) (by rw [Int.fdiv_eq_ediv_of_nonneg i (by omega)]; exact q) (.inl (PyProof.noPylong_small (by omega)))
theorem YiH : OpR X (binaryOp .Mod) (rI (fun _ j => 0 < j) fun i j => .int (i % j)) := opI fun i j _ _ _ _ _ hc q => by
 have h1 : (0 : Int) < j := hc
 exact mod_int' (by omega) (by rw [Int.fmod_eq_emod_of_nonneg i (by omega)]; exact q)
theorem unI {f : Value -> Sem Value} {g : Int -> Int}
 (rule : ∀ (i : Int) (t : Tok) (s : Shared) (Q : VSP) (E : VSP), Q (.int (g i) s.toks) { s with toks := s.toks + 1 } -> wpAny (model X.prog X.w) X.A (f (.int i t)) Q E s) :
 UnR X f (rU fun i => .int (g i)) := by
 intro pins s σ H x v Q I rx h
 obtain ⟨i, rfl, q⟩ := h
 show 181
 exact rule i t s _ _ ⟨.int (g i), H, I.tok _, ⟨_, rfl⟩, q⟩
theorem YjH : UnR X (unaryOp .USub) (rU fun i => .int (-i)) := unI fun _ _ _ _ _ q => neg_int q
end
section
variable {X : Cx} {a b c : Expr} {ta tb tc : TE} {pos : Pos}
theorem YcZ {pins : LAO} {σ : St} {H : Hp} {s : Shared} {Q : VK} {k k' : Bool} (I : Inv X pins σ H s) (q : Q (.bl k) H) (e : k = k') : EP X pins σ Q (.bool k') s := by
 subst e
 exact ⟨.bl k, H, I, rfl, q⟩
theorem Ykl : OpR X (compareOp .Lt) (rI0 fun i j => .bl (decide (i < j))) := Yoo fun _ _ _ _ _ _ _ q => lt_int q
theorem Ykp : OpR X (compareOp .LtE) (rI0 fun i j => .bl (decide (i <= j))) := Yoo fun _ _ _ _ _ _ _ q => le_int q
theorem Ykr : OpR X (compareOp .Gt) (rI0 fun i j => .bl (decide (j < i))) := Yoo fun _ _ _ _ _ _ _ q => gt_int q
theorem YeQ : OpR X (compareOp .Lt) (fun x y H Q => ∃ i j, x = .str i /\ y = .str j /\ Q (.bl (decide (i.cps.toList < j.cps.toList))) H) := by
 show 45
 exact lt_str (YcZ I q rfl)
theorem YeG : OpR X (compareOp .In) (fun x y H Q => ∃ i j, x = .str i /\ y = .str j /\ Q (.bl (!(Builtin.Str.occurrences j i 0 j.length 1).isEmpty)) H) := by
 show 45
 exact in_str (YcZ I q rfl)
theorem YbG : OpR X (compareOp .NotIn) (fun x y H Q => ∃ i j, x = .str i /\ y = .str j /\ Q (.bl (!(!(Builtin.Str.occurrences j i 0 j.length 1).isEmpty))) H) := by
 show 45
 exact notIn_str (YcZ I q rfl)
theorem nomark (b : Expr) {op : CmpOp} (h : op ≠ .In := by decide) (h2 : op ≠ .NotIn := by decide) : behindInMarks op b = false := by
 have e1 : (op == CmpOp.In) = false := by cases op <;> first | rfl | exact absurd rfl h
 have e2 : (op == CmpOp.NotIn) = false := by cases op <;> first | rfl | exact absurd rfl h2
 cases b <;> simp [behindInMarks, e1, e2]
theorem Yhi {op : CmpOp} {r : R2} (ho : OpR X (compareOp op) r) (ha : PE X a ta) (hb : PE X b tb) (hm : behindInMarks op b = false) : PE X (.Compare a [op] [b] pos) (tOp r ta tb) := by
 show 168
 exact wpAny_Compare1 (Yoh ha hb I h fun v u s2 x y H2 I2 rx ry q => ho pins s2 σ H2 x y v u Q I2 rx ry q) hm
def Yn5 (t : TE) : TT := fun σ H Q => t σ H fun x H' => ∃ k, x = .bl k /\ Q k H'
theorem Yhu {op : CmpOp} {r : R2} (ho : OpR X (compareOp op) r) (ha : PE X a ta) (hb : PE X b tb) (hm : behindInMarks op b = false) : PT X (.Compare a [op] [b] pos) (Yn5 (tOp r ta tb)) := by
 show 168
 refine wpAny_isTrue_Compare1 (thn (ha pins s σ H _ I h) fun v s1 ⟨x, H1, I1, r1, q1⟩ => thn (hb pins s1 σ H1 _ I1 q1) fun u s2 ⟨y, H2, I2, r2, q2⟩ =>
  thn (ho pins s2 σ H2 x y v u _ I2 r1 r2 q2) fun c s3 ⟨z, H3, I3, r3, k, e, q3⟩ => ?_) hm
 subst e
 cases r3
 exact ZBb ⟨H3, I3, q3⟩
def YnC (r r' : R2) (ta tb tc : TE) : TE := fun σ H Q => ta σ H fun x H1 => tb σ H1 fun y H2 => r x y H2 fun z H3 => ∃ k, z = .bl k /\
 (if k = true then tc σ H3 fun w' H4 => r' y w' H4 Q else Q (.bl false) H3)
theorem Yfa {op op' : CmpOp} {r r' : R2} (ho : OpR X (compareOp op) r) (ho' : OpR X (compareOp op') r') (ha : PE X a ta) (hb : PE X b tb) (hc : PE X c tc)
 (hm : lastMarks [op, op'] [b, c] = false := by with_unfolding_all rfl) : PE X (.Compare a [op, op'] [b, c] pos) (YnC r r' ta tb tc) := by
 show 168
 refine Compare_chain (thn (ha pins s σ H _ I h) fun v s1 ⟨x, H1, I1, r1, q1⟩ => chain_link (thn (hb pins s1 σ H1 _ I1 q1) fun u s2 ⟨y, H2, I2, r2, q2⟩ =>
  thn (ho pins s2 σ H2 x y v u _ I2 r1 r2 q2) fun d s3 ⟨z, H3, I3, r3, k, e, q3⟩ => ?_)) hm
 subst e
 cases r3
 refine ZBb ?_
 cases k with
 | false => exact ite_ff ⟨.bl false, H3, I3, rfl, q3⟩
 | true => exact ite_tt (chain_last (thn (hc pins s3 σ H3 _ I3 q3) fun w' s4 ⟨z', H4, I4, r4, q4⟩ => ho' pins s4 σ H4 y z' u w' Q I4 r2 r4 q4))
def Yog (K : Frag) (x : V) (H : Hp) (k : Bool) : Prop :=
 match x with
 | .non => k = false
 | .bl b => k = b
 | .int i => k = (i != 0)
 | .str y => y.length <= sizeLine /\ k = ((y.length : Int) != 0)
 | .byt y => y.size <= sizeLine /\ k = ((y.size : Int) != 0)
 | .ref p => (∃ xs, SqL K H p xs /\ k = !xs.isEmpty) \/ (∃ xs, SqT K H p xs /\ k = !xs.isEmpty) \/ ∃ kvs, H p = some (.dK kvs) /\ k = !kvs.isEmpty
 | _ => False
theorem Ydp {κ : Type} {kvs : List (κ × V)} {vs : List (κ × Value)} (r : KV kvs vs) : (!vs.isEmpty) = !kvs.isEmpty := by
 cases r <;> rfl
theorem J6 {xs : List V} {its : List Value} (r : Vals xs its) : (!its.toArray.isEmpty) = !xs.isEmpty := by
 cases r <;> simp
theorem line63 : (sizeLine : Nat) < 2 ^ 63 := by rw [sizeLine_eq]; decide
theorem Yjd : YoR X (fun x H Q => ∃ k, Yog X.K x H k /\ Q k H) := by
 intro pins s σ H x v Q I rx h
 obtain ⟨k, e, q⟩ := h
 have hl := line63
 have hs : sizeLine = 16777216 := sizeLine_eq
 cases x with
 | non =>
  cases rx
  have e' : k = false := e
  subst e'
  exact truthy_none ⟨H, I, q⟩
 | bl b =>
  cases rx
  have e' : k = b := e
  subst e'
  exact ZBb ⟨H, I, q⟩
 | int i =>
  show 181
  have e' : k = (i != 0) := e
  subst e'
  exact PySem.P.truthy_int ⟨H, I, q⟩
 | str y =>
  show 181
  obtain ⟨hy, e'⟩ : y.length <= sizeLine /\ k = ((y.length : Int) != 0) := e
  subst e'
  exact PySem.P.truthy_str (by omega) ⟨H, I.tok _, q⟩
 | byt y =>
  show 181
  obtain ⟨hy, e'⟩ : y.size <= sizeLine /\ k = ((y.size : Int) != 0) := e
  subst e'
  exact PySem.W.truthy_bytes (by omega) ⟨H, I.tok _, q⟩
 | ref p =>
  cases rx
  have e' : (∃ xs, SqL X.K H p xs /\ k = !xs.isEmpty) \/ (∃ xs, SqT X.K H p xs /\ k = !xs.isEmpty) \/ ∃ kvs, H p = some (.dK kvs) /\ k = !kvs.isEmpty := e
  rcases e' with ⟨xs, hx, e'⟩ | ⟨xs, hx, e'⟩ | ⟨kvs, hx, e'⟩
  ·subst e'
   obtain ⟨its, r, pl, hz⟩ := I.list hx
   have hlen := r.length
   exact wpAny_truthy_list pl.isList (by simp only [List.size_toArray]; omega) ⟨H, I.tok _, by rw [J6 r]; exact q⟩
  ·subst e'
   obtain ⟨its, r, pl, hz⟩ := I.tuple hx
   have hlen := r.length
   exact truthy_tuple pl (by simp only [List.size_toArray]; omega) ⟨H, I.tok _, by rw [J6 r]; exact q⟩
  ·subst e'
   obtain ⟨hz, hS, vs, r, m⟩ : kvs.length <= sizeLine /\ (p == sysModules) = false /\ ∃ vs, KV kvs vs /\ s.heap.DictOf (Yk6 X.prog X.w) p vs := I.hok p _ hx
   have hlen : kvs.length = vs.length := Paired.length r
   exact wpAny_truthy_dict hS m (by omega) ⟨H, I.tok _, by rw [Ydp r]; exact q⟩
 | _ => exact (show False from e).elim
theorem Yfj (ha : PE X a ta) (he : ∀ whole, isTrue a X.env whole = (do let v <- whole; standAt a.pos; holding [v] (truthy v))) :
 PT X a (fun σ H Q => ta σ H fun x H' => ∃ k, Yog X.K x H' k /\ Q k H') := by
 show 168
 exact isTrue_plain (thn (ha pins s σ H _ I h) fun v s1 ⟨x, H1, I1, r1, q1⟩ => Yjd pins s1 σ H1 x v Q I1 r1 q1) (he _)
theorem Ydl : OpR X (binaryOp .Add) (fun x y H Q => ∃ i j, x = .str i /\ y = .str j /\ i.length + j.length <= sizeLine /\ Q (.str (i ++ j)) H) := by
 show 194
 obtain ⟨i, j, rfl, rfl, hz, q⟩ := h
 show 30
 exact add_str (fun t' tk => ⟨.str (i ++ j), H, I.tok _, ⟨_, rfl⟩, q⟩) hz
theorem vals1 {x : V} {us : List Value} (r : Vals [x] us) : ∃ u, us = [u] /\ RelV x u := by
 cases r with
 | cons r1 r2 => cases r2; exact ⟨_, rfl, r1⟩
theorem Ya4 : YlD X (.type "int") (fun xs H Q => (∃ i, xs = [.int i] /\ Q (.int i) H) \/ ∃ k, xs = [.bl k] /\ Q (.int (if k then 1 else 0)) H) := by
 show 224
 rcases h with ⟨i, rfl, q⟩ | ⟨k, rfl, q⟩
 ·obtain ⟨u, rfl, t, rfl⟩ := vals1 r
  exact call_int_int ⟨.int i, H, I, ⟨_, rfl⟩, q⟩
 ·obtain ⟨u, rfl, r1⟩ := vals1 r
  cases r1
  exact call_int_bool ⟨.int (if k then 1 else 0), H, I.tok _, ⟨_, rfl⟩, q⟩
end
end L2
namespace L2
open PySem PySem.Spec PyProof.Rows
structure Ypl (h : Heap) (x dx C : Addr) (mA : SOV) : Prop where
 obj : h.get? x = some (PySem.W.instObj C dx)
 ns : h.Ns1 dx mA
 ne : dx ≠ x
section
variable {prog : Program} {w : World} {A : Around} {E : VSP} {s : Shared} {K : Frag} {x dx C f : Addr} {mA : SOV} {name : Str} {v : Value}
end
theorem Ymo.some_of {v : V} {o : Option Value} (r : Ymo (some v) o) : ∃ u, o = some u /\ RelV v u := by
 cases o with
 | none => show 215
 | some u => exact ⟨u, rfl, r⟩
section
variable {P : Program} {w : World} {H H' : Hp} {h h' : Heap} {a C dx : Addr} {fs fs' : List (Str × V)}
end
structure Cls (K : Frag) (C : Addr) : Prop where
 pg : PySem.W.plainGet K C Str.empty = true
 hd : PySem.W.hasDictIn K C = true
 po : PySem.W.plainOver K C = true
 sa : PySem.W.findIn K (.ref C) "__setattr__" = some (some (.builtin "object.__setattr__"))
structure Con (K : Frag) (C : Addr) (f : Str) (v : V) (u : Value) : Prop where
 at_ : PySem.W.findIn K (.ref C) f = some (some u)
 rel : RelV v u
 get : PySem.W.specialIn K u "__get__" = some none
 cp : PySem.W.copiedNames.contains f = false
structure Meth (K : Frag) (C : Addr) (m : Str) (f : Addr) : Prop where
 at_ : PySem.W.findIn K (.ref C) m = some (some (.ref f))
 fn : PySem.W.isFn K (.ref f) = true
 kp : PySem.W.keepIn K (.ref f) = true
section
variable {X : Cx} {pins : LAO} {σ : St} {H : Hp} {s : Shared} {a C dx : Addr} {fs : List (Str × V)} {f : Str} {v : V} {A : Around} {E : VSP}
theorem Inv.made (I : Inv X pins σ H s) : Inv X pins σ (upd (upd H s.heap.objs.size (.own (s.heap.objs.size + 1))) (s.heap.objs.size + 1) (.ins C s.heap.objs.size []))
 { s with heap := (s.heap.push PySem.W.emptyDict).push (PySem.W.instObj C s.heap.objs.size) } := by
 have e1 : (s.heap.push PySem.W.emptyDict).get? s.heap.objs.size = some PySem.W.emptyDict := ZAF s.heap rfl
 have e2 : ((s.heap.push PySem.W.emptyDict).push (PySem.W.instObj C s.heap.objs.size)).get? (s.heap.objs.size + 1) = some (PySem.W.instObj C s.heap.objs.size) := by
  have := ZAF (s.heap.push PySem.W.emptyDict) (o := PySem.W.instObj C s.heap.objs.size) rfl
  rwa [ZAa] at this
 have e3 : (s.heap.push PySem.W.emptyDict).Ns s.heap.objs.size (fun _ => none) := ⟨PySem.W.emptyDict, #[], _, e1, rfl, (fun e he => absurd he (by simp)), fun _ => rfl⟩
 have I1 := I.laid (a := s.heap.objs.size) (o := .own (s.heap.objs.size + 1)) (h' := s.heap.push PySem.W.emptyDict) (t' := s.toks) (fun b u q => ZAB _ q) (ZAE _) ⟨_, e1⟩
 refine I1.laid (a := s.heap.objs.size + 1) (o := .ins C s.heap.objs.size []) (t' := s.toks) (fun b u q => ZAB _ q) (Nat.le_of_eq (ZAa _ _)) ?_
 have ne : s.heap.objs.size ≠ s.heap.objs.size + 1 := ZAL (ZAz _)
 refine ⟨by rw [Yh ne, Yl], ZBZ _, ne, e2, fun _ => none, (Heap.Ns1.of_empty e3).at fun o q => ZAB _ q, fun _ => True.intro, fun y hy => absurd rfl hy⟩
end
section
variable {X : Cx} {o e value : Expr} {f : Str} {pos pos' tpos : Pos} {ta tv : TE}
end
section
variable {X : Cx} {pins : LAO} {σ : St} {H : Hp} {s : Shared} {A : Around} {E : VSP} {Q : VSP} {c : Value} {b : Bool}
inductive TyOf (K : Frag) (H : Hp) : V -> Value -> Prop where
 | non : TyOf K H .non (.type "NoneType")
 | bl (x : Bool) : TyOf K H (.bl x) (.type "bool")
 | int (i : Int) : TyOf K H (.int i) (.type "int")
 | str (x : Str) : TyOf K H (.str x) (.type "str")
 | flt (x : UInt64) : TyOf K H (.flt x) (.type "float")
 | lst {a : Addr} {xs : List V} (e : H a = some (.lst xs)) : TyOf K H (.ref a) (.type "list")
 | frz {a : Addr} {o : Obj} {xs : List V} (e : H a = some (.frz o (.lst xs))) : TyOf K H (.ref a) (.type "list")
 | tup {a : Addr} {xs : List V} (e : H a = some (.tup xs)) : TyOf K H (.ref a) (.type "tuple")
 | dK {a : Addr} {kvs : List (Key × V)} (e : H a = some (.dK kvs)) : TyOf K H (.ref a) (.type "dict")
 | dT {a : Addr} {kvs : List (List Key × V)} (e : H a = some (.dT kvs)) : TyOf K H (.ref a) (.type "dict")
 | ins {a C dx : Addr} {fs : List (Str × V)} (e : H a = some (.ins C dx fs)) (cl : Cls K C) (ha : PySem.W.findIn K (.ref C) "__class__" = some (some (.builtin "object.__class__")))
  (hn : PySem.W.specialIn K (.builtin "object.__class__") "__get__" = some (some (.builtin "getset_descriptor.__get__"))) (htk : PySem.W.takesIn K (.builtin "object.__class__") = some true)
  (hm : PySem.W.mroIn K C (.type "object") = some true) : TyOf K H (.ref a) (.ref C)
end
end L2
namespace L2
open PySem PySem.Spec PyProof.Rows
structure Ylu (k : Nat) (A : Around) : Prop where
 hd : A.handled = none
 dp : A.depth + 3 * k + 5 < recursionLimit
 un : A.units + 16 * k + 200 < cLine
theorem Ylu.mono {j k : Nat} {A : Around} (r : Ylu k A) (h : j <= k) : Ylu j A := ⟨r.hd, by have := r.dp; omega, by have := r.un; omega⟩
theorem Ylu.deeper {k : Nat} {A : Around} (r : Ylu (k + 1) A) (env : Env) : Ylu k (A.deeper env) :=
 ⟨r.hd, by have := r.dp; show A.depth + 1 + 3 * k + 5 < _; omega, by have := r.un; show A.units + 3 + 16 * k + 200 < _; omega⟩
theorem Ylu.depth {k : Nat} {A : Around} (r : Ylu k A) : A.depth < recursionLimit := by have := r.dp; omega
theorem Ylu.units {k : Nat} {A : Around} (r : Ylu k A) : A.units + 64 < cLine := by have := r.un; omega
def Ypa : TA := fun _ H Q => Q [] H
def YoA (ta : TE) (tr : TA) : TA := fun σ H Q => ta σ H fun x H1 => tr σ H1 fun xs H2 => Q (x :: xs) H2
section
variable {X : Cx} {e : Expr} {es : List Expr} {te : TE} {t : TA} {pos : Pos}
theorem VT : PA X [] Ypa := fun _ _ _ _ H Q I h => Calls.spliced_nil ⟨[], H, I, .nil, h⟩
theorem Wq (ha : PE X e te) (hr : PA X es t) (hs : starEach (e :: es) X.env = (false, eval e X.env) :: starEach es X.env := by rfl) : PA X (e :: es) (YoA te t) := by
 intro pos pins s σ H Q I h
 rw [hs]
 show wpAny _ _ (spliced ((false, eval e X.env) :: backTo pos (starEach es X.env))) _ _ s
 refine Calls.spliced_cons (thn (ha pins s σ H _ I h) fun u s1 ⟨x, H1, I1, r1, q1⟩ => ?_)
 exact thn (hr pos pins s1 σ H1 _ I1 q1) fun us s2 ⟨xs, H2, I2, r2, q2⟩ => ⟨x :: xs, H2, I2, .cons r1 r2, q2⟩
def Ype (t : TA) : TE := fun σ H Q => t σ H fun xs H1 => xs.length <= sizeLine /\ ∀ p, H1 p = none -> Q (.ref p) (upd H1 p (.tup xs))
def Yo2 (t : TA) : TE := fun σ H Q => t σ H fun xs H1 => xs.length <= sizeLine /\ ∀ p, H1 p = none -> Q (.ref p) (upd H1 p (.lst xs))
theorem Yi5 {x1} (h : PA X es t) : PE X (.Tuple es x1 pos) (Ype t) := by
 intro pins s σ H Q I hq
 refine wpAny_Tuple_spliced (thn (h pos pins s σ H _ I hq) fun us s1 ⟨xs, H1, I1, r, z, q⟩ => ⟨by rw [<- r.length]; exact z, ?_⟩)
 have hf : H1 s1.heap.objs.size = none := I1.hok.fresh (ZAE _)
 refine ⟨.ref s1.heap.objs.size, upd H1 s1.heap.objs.size (.tup xs), I1.laid (t' := s1.toks) (fun b u e => ZAB _ e) (ZAE _) ?_, rfl, q _ hf⟩
 exact ⟨z, us, r, ⟨_, ZAF _ rfl, rfl, _, rfl⟩⟩
theorem Yjs (h : PA X es t) : PE X (.List es pos) (Yo2 t) := by
 intro pins s σ H Q I hq
 refine wpAny_List_spliced (thn (h pos pins s σ H _ I hq) fun us s1 ⟨xs, H1, I1, r, z, q⟩ => ⟨by rw [<- r.length]; exact z, ?_⟩)
 have hf : H1 s1.heap.objs.size = none := I1.hok.fresh (ZAE _)
 refine ⟨.ref s1.heap.objs.size, upd H1 s1.heap.objs.size (.lst xs), I1.laid (t' := s1.toks) (fun b u e => ZAB _ e) (ZAE _) ?_, rfl, q _ hf⟩
 exact ⟨z, us, 0, r, ZAF _ rfl⟩
end
abbrev Sp := List V -> Hp -> VK -> XK -> Prop
abbrev CXT := List Env -> Hp -> Shared -> XK -> Value -> Shared -> Prop
structure Ync (P : Program) (w : World) (K : Frag) (mg : SOV) (base : Heap) (A : Around) (outer : List Env) (s : Shared) (H : Hp) : Prop where
 frames : A.frames = some outer
 mod : Mod K mg base
 bs : ∀ b o, base.get? b = some o -> s.heap.get? b = some o /\ H b = none
 bsz : base.objs.size <= s.heap.objs.size
 funs : s.heap.FunFrames base outer
 frf : ∀ b ∈ frs outer, H b = none
 hok : HOk P w H s.heap
 bare : AllBare s.gens
def CE (outer : List Env) (P : Program) (w : World) (H : Hp) (s : Shared) (Q : VK) (u : Value) (s' : Shared) : Prop :=
 ∃ v H', s'.os = s.os /\ AllBare s'.gens /\ Un (frs outer) [] H H' s.heap s'.heap /\ HOk P w H' s'.heap /\ RelV v u /\ Q v H'
def CR (CX : CXT) (outer : List Env) (P : Program) (w : World) (H : Hp) (s : Shared) (Q : VK) (E : XK) (r : Result) (s' : Shared) : Prop :=
 match r with
 | .ok (.ret u) => CE outer P w H s Q u s'
 | .ok _ => False
 | .error e => CX outer H s E e s'
structure Ymb (P : Program) (w : World) (K : Frag) (mg : SOV) (base : Heap) (CX : CXT) (k : Nat) (f : Addr) (fd : FuncData) (ps : List Str) (sp : Sp) : Prop where
 len : ∀ vs H Q E, sp vs H Q E -> vs.length = ps.length
 run : ∀ (A : Around) (outer : List Env) (s : Shared) (H : Hp) (args : Args) (us : List Value) (vs : List V) (Q : VK) (E : XK), Ylu k A -> Ync P w K mg base A outer s H -> BindsTo s fd args (ps.zip us) -> Vals vs us -> sp vs H Q E ->
  codeAny (model P w) A (.call (.ref f) args) (CR CX outer P w H s Q E) s
theorem Ymb.mono {P : Program} {w : World} {K : Frag} {mg : SOV} {base : Heap} {CX : CXT} {j k : Nat} {f : Addr} {fd : FuncData} {ps : List Str} {sp : Sp} (F : Ymb P w K mg base CX j f fd ps sp) (h : j <= k) :
 Ymb P w K mg base CX k f fd ps sp := ⟨F.len, fun A outer s H args us vs Q E hr => F.run A outer s H args us vs Q E (hr.mono h)⟩
theorem Ymb.imp {P : Program} {w : World} {K : Frag} {mg : SOV} {base : Heap} {CX : CXT} {k : Nat} {f : Addr} {fd : FuncData} {ps : List Str} {sp sp' : Sp} (F : Ymb P w K mg base CX k f fd ps sp)
 (h : ∀ vs H Q E, sp' vs H Q E -> sp vs H Q E) : Ymb P w K mg base CX k f fd ps sp' :=
 ⟨fun vs H Q E q => F.len vs H Q E (h _ _ _ _ q), fun A outer s H args us vs Q E hr he hb hv hs => F.run A outer s H args us vs Q E hr he hb hv (h _ _ _ _ hs)⟩
section
variable {X : Cx} {pins : LAO} {σ : St} {H : Hp} {s s' : Shared}
theorem Inv.env0 (I : Inv X pins σ H s) : Ync X.prog X.w X.K X.mg X.base X.A X.stack s H :=
 ⟨I.ok.frames, I.ok.mod, I.bs, ZAH I.ok.bsz I.sz, I.stack, I.stkFree, I.hok, I.bare⟩
theorem Inv.after {Q : VK} {u : Value} (I : Inv X pins σ H s) (h : CE X.stack X.prog X.w H s Q u s') : EP X pins σ Q u s' := by
 obtain ⟨v, H', os, bare, un, hok, r, q⟩ := h
 obtain ⟨hh, g, d, t, os'⟩ := s'
 obtain rfl : os' = s.os := os
 exact ⟨v, H', I.call (h' := hh) (g' := g) (d' := d) (t' := t) (ch := []) un hok bare (fun b z => absurd z (by simp)), r, q⟩
end
def YoG (sp : Sp) (dvs : List V) (E : XK) (t : TA) : TE := fun σ H Q => t σ H fun vs H1 => sp (vs ++ dvs) H1 Q E
def Binds (K : Frag) (fd : FuncData) (ps : List Str) (ds : List Value) : Prop :=
 ∀ (s : Shared) (us : List Value), K.In s.heap -> (us ++ ds).length = ps.length -> BindsTo s fd ⟨us, []⟩ (ps.zip (us ++ ds))
theorem Binds.all {K : Frag} {fd : FuncData} {ps : List Str} (h : ∀ us : List Value, us.length = ps.length -> bindArgs fd ⟨us, []⟩ = pure (ps.zip us)) : Binds K fd ps [] := fun s us _ hl => by
 rw [ZBW] at hl ⊢
 exact .of_eq (h us hl)
def Yne (CX : CXT) (X : Cx) (E : XK) : Prop := ∀ (pins : LAO) (σ : St) (H : Hp) (s : Shared) (e : Value) (s' : Shared), Inv X pins σ H s -> CX X.stack H s E e s' -> X.xe e s'
section
variable {X : Cx} {CX : CXT} {k : Nat} {f C : Addr} {fd : FuncData} {ps : List Str} {sp : Sp} {dvs : List V} {ds : List Value} {E : XK} {x m : Str} {p pos apos : Pos} {e o : Expr} {es : List Expr} {ta : TE} {t : TA}
theorem Yjf {pins : LAO} {σ : St} {H : Hp} {s : Shared} {Q : VK} {us : List Value} {vs : List V} (F : Ymb X.prog X.w X.K X.mg X.base CX k f fd ps sp) (hr : Ylu k X.A) (hb : Binds X.K fd ps ds) (hd : Vals dvs ds) (hx : Yne CX X E)
 (I : Inv X pins σ H s) (r : Vals vs us) (h : sp (vs ++ dvs) H Q E) : wpAny (model X.prog X.w) X.A (call (.ref f) us) (EP X pins σ Q) X.xe s := by
 have r2 : Vals (vs ++ dvs) (us ++ ds) := r.append hd
 have hl : (us ++ ds).length = ps.length := by rw [<- r2.length]; exact F.len _ _ _ _ h
 refine ZCb (codeAny_mono (F.run X.A X.stack s H ⟨us, []⟩ (us ++ ds) (vs ++ dvs) Q E hr I.env0 (hb s us I.kIn hl) r2 h) fun r s' hq => ?_)
 cases r with
 | error e => exact hx pins σ H s e s' I hq
 | ok fl =>
  cases fl with
  | ret u => exact I.after hq
  | next => show 211
  | brk => show 211
  | cont => show 211
theorem YgV (F : Ymb X.prog X.w X.K X.mg X.base CX k f fd ps sp) (hr : Ylu k X.A) (hg : Gl X x) (hm : X.mg x = some (.ref f)) (hk : PySem.W.keepIn X.K (.ref f) = true) (hb : Binds X.K fd ps ds) (hd : Vals dvs ds) (hx : Yne CX X E)
 (ha : PA X (e :: es) t) (hdb : (x == ("__debug__" : Str)) = false := by decide) (he : starEach (e :: es) X.env = (false, eval e X.env) :: starEach es X.env := by rfl) (hpl : (backTo pos (starEach es X.env)).any (·.1) = false := by rfl) :
 PE X (.Call (.Name x p) (e :: es) [] pos) (YoG sp dvs E t) := by
 show 168
 refine ZBI (JD I hg hm ?_ hdb)
 refine PySem.W.callWith_K (h₀ := X.base) I.ok.mod.kin hk (thn (ha pos pins s σ H _ I h) fun us s1 ⟨vs, H1, I1, r, q⟩ => ⟨I1.kIn, ?_⟩) he hpl
 exact Yjf F hr hb hd hx I1 r q
structure Mk (K : Frag) (C f : Addr) : Prop where
 makes : PySem.W.makesIn K C = true
 init : PySem.W.findIn K (.ref C) "__init__" = some (some (.ref f))
 fn : PySem.W.isFn K (.ref f) = true
 kp : PySem.W.keepIn K (.ref C) = true
end
section
variable {X : Cx} {CX : CXT} {k : Nat} {f C : Addr} {fd : FuncData} {ps ks : List Str} {sp : Sp} {E : XK} {x m : Str} {p pos apos kpos : Pos} {e o : Expr} {es : List Expr} {kws : List Keyword} {te ta : TE} {t tk : TA} {nm : Option Str}
structure Yo5 (K : Frag) (fd : FuncData) (ps ks : List Str) (g : List Value -> List Value -> List Value) (gV : List V -> List V -> List V) : Prop where
 to : ∀ (s : Shared) (us ws : List Value), K.In s.heap -> (g us ws).length = ps.length -> BindsTo s fd ⟨us, ks.zip ws⟩ (ps.zip (g us ws))
 rel : ∀ {vs : List V} {us : List Value} {zs : List V} {ws : List Value}, Vals vs us -> Vals zs ws -> Vals (gV vs zs) (g us ws)
variable {g : List Value -> List Value -> List Value} {gV : List V -> List V -> List V}
end
structure YkU (N P : List Str) (sc : Scope) : Prop where
 kind : sc.kind = .function
 co : sc.isCoroutine = false
 gen : sc.isGenerator = false
 nd : N.Nodup
 pre : N.take P.length = P
 par : ∀ x ∈ P, sc.names.lookup x = some .local \/ sc.names.lookup x = some .cell
 nofree : ∀ y ∈ sc.names, y.2 ≠ .free
theorem YaJ {kindOf : Str -> Option NameKind} {x : Str} : ∀ {binds : List (Str × Value)} {m : SOV}, (∀ v, (x, v) ∉ binds) -> bindL kindOf binds m x = m x
 | [], _, _ => rfl
 | (n, v) :: r, m, h => by
  unfold bindL
  rw [YaJ fun w hw => h w (ZAd _ hw)]
  split
  ·have : x ≠ n := by rintro rfl; exact h v ZAU
   simp [this]
  ·rfl
theorem YaT {kindOf : Str -> Option NameKind} {x : Str} : ∀ {binds : List (Str × Value)} {m : SOV}, (∀ v, (x, v) ∉ binds) -> bindC kindOf binds m x = m x
 | [], _, _ => rfl
 | (n, v) :: r, m, h => by
  unfold bindC
  rw [YaT fun w hw => h w (ZAd _ hw)]
  split
  ·rfl
  ·have : x ≠ n := by rintro rfl; exact h v ZAU
   simp [this]
theorem YaS {kindOf : Str -> Option NameKind} {x : Str} {v : Value} : ∀ {P : List Str} {vs : List Value} {i : Nat} {m : SOV}, P.Nodup -> P[i]? = some x -> vs[i]? = some v -> kindOf x = some .local ->
 bindL kindOf (P.zip vs) m x = some v
 | [], _, _, _, _, h, _, _ => by simp at h
 | _ :: _, [], _, _, _, _, h, _ => by simp at h
 | p :: P, w :: vs, 0, m, nd, h1, h2, hk => by
  simp at h1 h2; subst h1; subst h2
  show bindL kindOf ((p, w) :: P.zip vs) m p = _
  unfold bindL
  rw [YaJ fun v hv => (ZCP.mp nd).1 (ZBw hv).1, ZAI hk]
  simp
 | p :: P, w :: vs, i + 1, m, nd, h1, h2, hk => by
  show bindL kindOf ((p, w) :: P.zip vs) m x = _
  unfold bindL
  exact YaS (i := i) (List.nodup_cons.mp nd).2 (by simpa using h1) (by simpa using h2) hk
theorem Yba {kindOf : Str -> Option NameKind} {x : Str} {v : Value} : ∀ {P : List Str} {vs : List Value} {i : Nat} {m : SOV}, P.Nodup -> P[i]? = some x -> vs[i]? = some v -> kindOf x ≠ some .local ->
 bindC kindOf (P.zip vs) m x = some v
 | [], _, _, _, _, h, _, _ => by simp at h
 | _ :: _, [], _, _, _, _, h, _ => by simp at h
 | p :: P, w :: vs, 0, m, nd, h1, h2, hk => by
  simp at h1 h2; subst h1; subst h2
  show bindC kindOf ((p, w) :: P.zip vs) m p = _
  unfold bindC
  rw [YaT fun v hv => (ZCP.mp nd).1 (ZBw hv).1, ZAJ hk]
  simp
 | p :: P, w :: vs, i + 1, m, nd, h1, h2, hk => by
  show bindC kindOf ((p, w) :: P.zip vs) m x = _
  unfold bindC
  exact Yba (i := i) (List.nodup_cons.mp nd).2 (by simpa using h1) (by simpa using h2) hk
def start (N : List Str) (vs : List V) : St := vs.map some ++ List.replicate (N.length - vs.length) none
def YlY (CX : CXT) (P : Program) (w : World) (K : Frag) (mg : SOV) (base : Heap) (N : List Str) (qual : Str) (scope : Scope) (f : Addr) (cd : Value) (A : Around) (outer : List Env) (s : Shared) (H : Hp) (E : XK) : Cx where
 prog := P
 w := w
 K := K
 mg := mg
 base := base
 A := A.deeper (envOfC qual scope s.heap.objs.size f cd)
 N := N
 s₀ := s
 H₀ := H
 env := envOfC qual scope s.heap.objs.size f cd
 outer := outer
 stack := envOfC qual scope s.heap.objs.size f cd :: outer
 ex := []
 calm := true
 fn := fun _ => true
 pn := []
 xe := fun e s' => wpAny (model P w) (A.deeper (envOfC qual scope s.heap.objs.size f cd)) (leaving (envOfC qual scope s.heap.objs.size f cd) e) (fun _ s'' => CX outer H s E e s'') (fun e' s'' => CX outer H s E e' s'') s'
theorem YbV {sc : Scope} {n : Nat} {x : Str} (h : sc.names.lookup x = some .cell) : ∃ c, (cellsFrom n sc.names []).lookup x = some c := by
 have q := PySem.W.cellsFrom_some sc.names n [] (.inl h)
 exact Option.isSome_iff_exists.mp q
theorem Yd5 {CX : CXT} {P : Program} {w : World} {K : Frag} {mg : SOV} {base : Heap} {N ps : List Str} {qual : Str} {scope : Scope} {f : Addr} {cd : Value} {A : Around} {outer : List Env} {s s1 : Shared} {H : Hp} {E : XK} {us : List Value} {vs : List V}
 (S : YkU N ps scope) (hd : A.handled = none) (e0 : Ync P w K mg base A outer s H) (hl : vs.length = ps.length) (r : Vals vs us)
 (x : InCallC s s.heap.objs.size (bindL (envOfC qual scope s.heap.objs.size f cd).kindOf (ps.zip us) fun _ => none) (cellsFrom (s.heap.objs.size + 1) scope.names []) (bindC (envOfC qual scope s.heap.objs.size f cd).kindOf (ps.zip us) fun _ => none) s1) :
 Inv (YlY CX P w K mg base N qual scope f cd A outer s H E) [] (start N vs) H s1 := by
 have hpl : ps.length <= N.length := by have := ZBj List.length S.pre; rw [ZAu] at this; omega
 obtain ⟨h1, tk, rfl, hk⟩ := x.done
 have noA : ∀ b : Addr, b ∉ (YlY CX P w K mg base N qual scope f cd A outer s H E).ex := fun b z => absurd (show b ∈ ([] : List Addr) from z) (by simp)
 refine ⟨⟨e0.mod, S.kind, rfl, rfl, ZAE _, fun y z c h1 h2 => ?_, fun y hy => ?_, fun y c _ h => ?_, fun _ => hd, Around.frames_deeper e0.frames, .inr ⟨rfl, rfl⟩, fun b z => absurd z (noA b), e0.bs, e0.bsz, fun b _ _ => noA b, fun b z => absurd z (noA b), e0.funs, e0.frf⟩,
  rfl, e0.bare, Un.kept hk, ⟨_, x.toInCall.ns, fun i y v h1 h2 h3 => ?_⟩, fun y c h => ⟨_, x.cell y c h⟩, e0.hok.fresh (Nat.le_refl _), fun y c h => ?_, fun p hp => absurd (show p ∈ ([] : LAO) from hp) (by simp), e0.hok.kept hk, ?_⟩
 ·exact name_of_addr x.apart (PySem.mem_of_lookup h1) (PySem.mem_of_lookup h2)
 ·have hy : scope.names.lookup y = some .cell \/ scope.names.lookup y = some .free := hy
  rcases hy with hy | hy
  ·exact YbV hy
  ·exact absurd rfl (S.nofree _ (PySem.mem_of_lookup hy))
 ·exact ZBf (x.above y c (PySem.mem_of_lookup h))
 ·have hi : i < vs.length := by
   unfold start at h2
   by_cases hi : i < vs.length
   ·exact hi
   ·rw [List.getElem?_append_right (by simpa using hi)] at h2
    rw [List.getElem?_replicate] at h2
    split at h2 <;> cases h2
  have ha : vs[i]? = some v := by
   unfold start at h2
   rw [List.getElem?_append_left (by simpa using hi), List.getElem?_map] at h2
   cases e : vs[i]? with
   | none => rw [e] at h2; cases h2
   | some a => rw [e] at h2; cases h2; rfl
  obtain ⟨u, hu, rv⟩ := r.get ha
  have hp : ps[i]? = some y := by
   rw [<- S.pre, List.getElem?_take_of_lt (by omega)]; exact h1
  have ndP : ps.Nodup := by rw [<- S.pre]; exact S.nd.sublist (List.take_sublist _ _)
  refine ⟨u, rv, ?_⟩
  rcases S.par y (ZBB hp) with k | k
  ·exact .inl ⟨k, YaS ndP hp hu k⟩
  ·obtain ⟨c, e⟩ := YbV (n := s.heap.objs.size + 1) k
   refine .inr ⟨.inl k, c, e, ?_⟩
   have q := x.cell y c e
   rw [Yba ndP hp hu (by show scope.names.lookup y ≠ _; rw [k]; decide)] at q
   exact q
 ·exact e0.hok.fresh (ZBf (x.above y c (PySem.mem_of_lookup h)))
 ·unfold start
  show _ = N.length
  rw [ZAK, ZAO, List.length_replicate]
  omega
theorem Yh3 {CX : CXT} {P : Program} {w : World} {K : Frag} {mg : SOV} {base : Heap} {k : Nat} {f : Addr} {name qual : Str} {params : Arguments} {body : List Stmt} {scope : Scope} {dV kV doc pm cdv ct oc : Value} {an od : Option Addr}
 {osl : Array (Option Value)} {N ps : List Str} {sp : Sp} (lk : K.lookup f = some ⟨oc, od, .func (fnOf name qual params body scope dV kV doc pm an cdv ct), osl⟩) (hcd : PySem.W.codeIn K cdv qual = true) (S : YkU N ps scope)
 (len : ∀ vs H Q E, sp vs H Q E -> vs.length = ps.length)
 (hbody : ∀ (A : Around) (outer : List Env) (s : Shared) (H : Hp) (vs : List V) (Q : VK) (E : XK), Ylu k (A.deeper (envOfC qual scope s.heap.objs.size f cdv)) -> sp vs H Q E ->
  ∃ t, PSs (YlY CX P w K mg base N qual scope f cdv A outer s H E) body t /\ t { nx := fun _ H' => Q .non H', rt := Q } (start N vs) H) :
 Ymb P w K mg base CX (k + 1) f (fnOf name qual params body scope dV kV doc pm an cdv ct) ps sp := by
 refine ⟨len, fun A outer s H args us vs Q E hr e0 hb r hsp => ?_⟩
 have hl := len _ _ _ _ hsp
 have KX : K.In s.heap := e0.mod.kin.keeps fun b o e => (e0.bs b o e).1
 have lim : s.heap.NoLimit := e0.mod.nolimit.keeps fun b o e => (e0.bs b o e).1
 have hkind : ∀ y ∈ ps.zip us, scope.names.lookup y.1 = some .local \/ (scope.names.lookup y.1 = some .cell /\ ((cellsFrom (s.heap.objs.size + 1) scope.names []).lookup y.1).isSome = true) := fun ⟨n, v⟩ hy => by
  rcases S.par n (ZBw hy).1 with q | q
  ·exact .inl q
  ·exact .inr ⟨q, PySem.W.cellsFrom_some _ _ _ (.inl q)⟩
 refine codeAny_call_function hr.depth (KX _ _ lk) rfl S.co S.gen rfl (PySem.W.codeRec_of KX hcd) (hb _ _ _ _ ?_)
 refine wpAny_newFunctionEnv_cells S.kind hkind fun env he s1 x => ?_
 subst he
 refine ⟨lim.keeps x.toInCall.keep, codeAny_func ?_⟩
 obtain ⟨t, ht, hq⟩ := hbody A outer s H vs Q E (hr.deeper _) hsp
 have I : Inv (YlY CX P w K mg base N qual scope f cdv A outer s H E) [] (start N vs) H s1 := Yd5 S hr.hd e0 hl r x
 refine ZAw (ht [] s1 (start N vs) H _ I hq) (fun fl s' hs => ?_) fun e s' hs => hs
 have fin : ∀ {σ' : St} {H' : Hp} {v : V} {u : Value}, Inv (YlY CX P w K mg base N qual scope f cdv A outer s H E) [] σ' H' s' -> RelV v u -> Q v H' -> CE outer P w H s Q u s' :=
  fun {σ' H' v u} J rv q => ⟨v, H', J.os, J.bare, J.base, J.hok, rv, q⟩
 cases fl with
 | ret u =>
  obtain ⟨v, σ', H', J, rv, q⟩ := hs
  exact fin J rv q
 | next =>
  obtain ⟨σ', H', J, q⟩ := hs
  exact fin (v := V.non) (u := Value.none) J rfl q
 | brk =>
  obtain ⟨_, _, _, q⟩ := hs
  exact False.elim q
 | cont =>
  obtain ⟨_, _, _, q⟩ := hs
  exact False.elim q
end L2
namespace L2
open PySem PySem.Spec PyProof.Rows
section
variable {X : Cx} {x : Str} {p pos : Pos} {e : Expr} {es : List Expr} {t : TA} {id T : String} {r : List V -> Hp -> VK -> Prop}
def tCB (r : List V -> Hp -> VK -> Prop) (t : TA) : TE := fun σ H Q => t σ H fun vs H1 => r vs H1 Q
theorem Yaf (hc : YlD X (.builtin id) r) (hg : Gl X x) (hm : X.mg x = none) (hv : bootBuiltins x = some (.builtin id)) (ha : PA X (e :: es) t) (hn : x ≠ "__name__" := by decide) (hdb : (x == ("__debug__" : Str)) = false := by decide)
 (he : starEach (e :: es) X.env = (false, eval e X.env) :: starEach es X.env := by rfl) (hpl : (backTo pos (starEach es X.env)).any (·.1) = false := by rfl) : PE X (.Call (.Name x p) (e :: es) [] pos) (tCB r t) := by
 show 168
 refine ZBI (Wt I hg hm hv ?_ hn hdb)
 exact PyProof.Rows.callWith_builtin1 (thn (ha pos pins s σ H _ I h) fun us s1 ⟨vs, H1, I1, r1, q1⟩ => hc pins s1 σ H1 vs us Q I1 r1 q1) he hpl
theorem Ya1 (hc : YlD X (.type T) r) (hg : Gl X x) (hm : X.mg x = none) (hv : bootBuiltins x = some (.type T)) (ha : PA X (e :: es) t) (hn : x ≠ "__name__" := by decide) (hdb : (x == ("__debug__" : Str)) = false := by decide)
 (he : starEach (e :: es) X.env = (false, eval e X.env) :: starEach es X.env := by rfl) (hpl : (backTo pos (starEach es X.env)).any (·.1) = false := by rfl) : PE X (.Call (.Name x p) (e :: es) [] pos) (tCB r t) := by
 show 168
 refine ZBI (Wt I hg hm hv ?_ hn hdb)
 exact PyProof.Rows.callWith_type1 (thn (ha pos pins s σ H _ I h) fun us s1 ⟨vs, H1, I1, r1, q1⟩ => hc pins s1 σ H1 vs us Q I1 r1 q1) he hpl
end
end L2
namespace HT
open PySem PyProof.Rows
section
open PySem.SeqAt
open PySem.AutoSeq1 (wpAny_loadPart')
open PySem.MeetsSeq PySem.MeetsSeq2 PySem.MeetsSeq3
end
section
variable {prog : Program} {w : World} {A : Around} {E : VSP} {s : Shared}
theorem cat_tup {t b : Addr} {vs ws : List Value} {Q : VSP} (ht : IsTup s.heap t vs.toArray) (hb : IsTup s.heap b ws.toArray) (hv : vs ≠ [])
 (h1 : ws = [] -> Q (.ref t) s) (h2 : ws ≠ [] -> Q (.ref s.heap.objs.size) { s with heap := s.heap.push { cls := .type "tuple", data := .seq (vs ++ ws).toArray } })
 (hsz : vs.length + ws.length <= sizeLine) : wpAny (model prog w) A (binaryOp .Add (.ref t) (.ref b)) Q E s := by
 obtain ⟨⟨cls, dd, data, sl⟩, ho, hc, n, hd⟩ := id ht
 obtain ⟨⟨cls2, dd2, data2, sl2⟩, ho2, hc2, n2, hd2⟩ := id hb
 simp only at hc hd hc2 hd2
 subst hc hd hc2 hd2
 have e : vs.toArray ++ ws.toArray = (vs ++ ws).toArray := by simp
 by_cases hw : ws = []
 ·exact concat_meets ⟨_, ho, rfl⟩ ⟨_, ho2, rfl⟩ noFill_tuple_add seq_tuple_add PySem.F.slot_tuple_add PySem.F.entry_tuple_add (PySem.F.args_tuple_add_2 _ _)
   (tuple_addW1 t b vs.toArray ws.toArray n n2 dd dd2 sl sl2 (by simpa using hv) (by simp [hw])) ⟨ho, ho2, h1 hw⟩
 ·refine concat_meets ⟨_, ho, rfl⟩ ⟨_, ho2, rfl⟩ noFill_tuple_add seq_tuple_add PySem.F.slot_tuple_add PySem.F.entry_tuple_add (PySem.F.args_tuple_add_2 _ _)
   (tuple_addW2 t b vs.toArray ws.toArray n n2 dd dd2 sl sl2 (by simpa using hv) (by simpa using hw) (by rw [List.size_toArray, List.size_toArray]; exact hsz)) ⟨ho, ho2, ?_⟩
  rw [e]
  exact h2 hw
def sIx (n d : Nat) : Option Int -> Nat
 | none => d
 | some v => if v < 0 then (v + (n : Int)).toNat else min v.toNat n
theorem sIx_none (n d : Nat) : sIx n d none = d := rfl
theorem sIx_nat (n d k : Nat) : sIx n d (some (k : Int)) = min k n := by
 show (if (k : Int) < 0 then ((k : Int) + (n : Int)).toNat else min (k : Int).toNat n) = min k n
 rw [ZAJ (by omega), ZAn]
theorem YiE (n d : Nat) (hd : d <= n) (o : Option Int) : sIx n d o <= n := by
 cases o with
 | none => exact hd
 | some v =>
  show (if v < 0 then (v + (n : Int)).toNat else min v.toNat n) <= n
  by_cases hv : v < 0
  ·rw [ZAI hv]; omega
  ·rw [ZAJ hv]; exact Nat.min_le_right _ _
theorem clip_eq (v : Int) (n d : Nat) : (if v < 0 then max (v + (n : Int)) 0 else min v (n : Int)) = ((sIx n d (some v) : Nat) : Int) := by
 show (if v < 0 then max (v + (n : Int)) 0 else min v (n : Int)) = (((if v < 0 then (v + (n : Int)).toNat else min v.toNat n) : Nat) : Int)
 by_cases hv : v < 0
 ·simp only [if_pos hv]; omega
 ·simp only [if_neg hv]; omega
theorem Ydd (lo hi : Option Int) (n : Nat) : Builtin.Slice.sliceAdjust lo hi 1 (n : Int) = (((sIx n 0 lo : Nat) : Int), ((sIx n n hi : Nat) : Int)) := by
 have h1 : ¬ ((1 : Int) < 0) := by omega
 unfold Builtin.Slice.sliceAdjust
 simp only [h1, if_false]
 refine Prod.ext ?_ ?_
 ·cases lo with
  | none => rfl
  | some v => exact clip_eq v n 0
 ·cases hi with
  | none => rfl
  | some v => exact clip_eq v n n
theorem Yc7 (i j : Nat) : Builtin.Slice.slicePlaces (i : Int) (j : Int) 1 = j - i := by
 unfold Builtin.Slice.slicePlaces
 have h1 : (1 : Int) > 0 := by omega
 simp only [h1, if_true, Int.ediv_one]
 split <;> omega
theorem JJ {v : Value} {o : Option Int} {Q : Option Int -> Shared -> Prop} (p : IsPart v o) (h : Q o s) : wpAny (model prog w) A (Builtin.Slice.slicePartIndex v) Q E s := by
 cases p with
 | none => exact slicePart_none h
 | int i t => exact slicePart_int h
theorem sliceApplied_gen {sl : Addr} {vl vu : Value} {lo hi : Option Int} {n : Nat} {Q : Int × Int × Nat -> Shared -> Prop} (hs : s.heap.IsSliceOf sl vl vu .none) (pl : IsPart vl lo) (pu : IsPart vu hi)
 (h : Q (((sIx n 0 lo : Nat) : Int), 1, sIx n n hi - sIx n 0 lo) s) : wpAny (model prog w) A (Builtin.Slice.sliceApplied (.ref sl) (pure (n : Int))) Q E s := by
 show 231
 unfold Builtin.Slice.sliceApplied Builtin.Slice.sliceFields
 refine ZAA (ZAA (ZAg hos hds (x := vl) rfl (ZAA (ZAg hos hds (x := vu) rfl (ZAA (ZAg hos hds (x := .none) rfl (ZAC ?_)))))))
 refine ZAA (slicePart_none ?_)
 show wpAny _ _ (if ((1 : Int) == 0) = true then _ else _) _ _ s
 show 205
 refine ZAA (JJ pl (ZAA (JJ pu (ZAA (ZAC ?_)))))
 show wpAny _ _ (match Builtin.Slice.sliceAdjust lo hi 1 (n : Int) with | (lo, hi) => pure (lo, (1 : Int), Builtin.Slice.slicePlaces lo hi 1)) _ _ s
 rw [Ydd lo hi n]
 show wpAny _ _ (pure (((sIx n 0 lo : Nat) : Int), (1 : Int), Builtin.Slice.slicePlaces ((sIx n 0 lo : Nat) : Int) ((sIx n n hi : Nat) : Int) 1)) _ _ s
 rw [Yc7]
 exact ZAC h
theorem YfS (xs : Array Value) (i k : Nat) : ((List.range k).filterMap fun (m : Nat) => xs[((i : Int) + (m : Int) * 1).toNat]?).toArray = ((xs.toList.drop i).take k).toArray := by
 have e : (fun (m : Nat) => xs[((i : Int) + (m : Int) * 1).toNat]?) = fun m => xs[i + m]? := by
  funext m
  have : ((i : Int) + (m : Int) * 1).toNat = i + m := by omega
  show 191
 rw [e]
 have := pick_run xs i k
 rw [List.filterMap_map] at this
 have e2 : ((fun x => xs[x]?) ∘ fun x => i + x) = fun m => xs[i + m]? := rfl
 rw [e2] at this
 show 191
theorem getItem_tuple_cut {t sl : Addr} {items : Array Value} {vl vu : Value} {lo hi : Option Int} {Q : VSP} (ht : IsTup s.heap t items) (hs : s.heap.IsSliceOf sl vl vu .none) (pl : IsPart vl lo) (pu : IsPart vu hi)
 (hw : ¬ (sIx items.size 0 lo = 0 /\ sIx items.size items.size hi = items.size))
 (h : Q (.ref s.heap.objs.size) { s with heap := s.heap.push { cls := .type "tuple", data := .seq ((items.toList.drop (sIx items.size 0 lo)).take (sIx items.size items.size hi - sIx items.size 0 lo)).toArray } })
 (hsz : items.size <= sizeLine) : wpAny (model prog w) A (getItem (.ref t) (.ref sl)) Q E s := by
 have htake : sizeOk (.seq ((items.toList.drop (sIx items.size 0 lo)).take (sIx items.size items.size hi - sIx items.size 0 lo)).toArray) := by
  show ((items.toList.drop (sIx items.size 0 lo)).take (sIx items.size items.size hi - sIx items.size 0 lo)).toArray.size <= sizeLine
  rw [ZAZ, ZAu, ZAi, Array.length_toList]
  omega
 have hj : sIx items.size items.size hi <= items.size := YiE _ _ (ZAE _) hi
 show 231
 have hTs : s.TypeIs (.ref sl) "slice" := ⟨os, hos, hcs⟩
 unfold getItem
 try with_reducible refine ZA6 ?_
 first | refine ZAA (ZAC ?_) | skip
 refine ZAA (ZCB ht.typeIs (by decide) ?_)
 refine ZAA (wpAny_callSpecial?_slot (name := Str.ofString "__getitem__") ht.typeIs PyProof.Rows.slot_tuple_getitem
  (ZAl PyProof.Rows.slot_tuple_getitem ht.typeIs entry_tuple_getitem ?_ (args_tuple_getitem _ _)))
 show wpAny _ _ (Builtin.Tuple.tupleItemsOf (.ref t) >>= _) _ _ s
 refine ZAA (tupleItemsOf_ ht ?_)
 refine ZAA (ZBg hTs ?_)
 rw [ZAI (by decide)]
 refine ZAA (sliceApplied_gen hs pl pu ?_)
 have hno : ¬ ((((sIx items.size 0 lo : Nat) : Int) == 0 && (1 : Int) == 1 && (sIx items.size items.size hi - sIx items.size 0 lo) == items.size) = true) := by
  intro q
  rw [ZAq, ZAq] at q
  have q1 : ((sIx items.size 0 lo : Nat) : Int) = 0 := eq_of_beq q.1.1
  have q2 : sIx items.size items.size hi - sIx items.size 0 lo = items.size := eq_of_beq q.2
  exact hw ⟨by omega, by omega⟩
 show wpAny _ _ (if (((sIx items.size 0 lo : Nat) : Int) == 0 && (1 : Int) == 1 && (sIx items.size items.size hi - sIx items.size 0 lo) == items.size) = true then _ else _) _ _ s
 rw [ZAJ hno, YfS]
 first
  | exact ZAA (m := Builtin.Tuple.tupleExact _) (ZAb (ZAC ⟨_, rfl, ZAC h⟩) htake)
  | exact ZAA (m := Builtin.Tuple.tupleExact _) (ZAb (ZAA (ZAC (ZAC ⟨_, rfl, ZAC h⟩))) htake)
  | exact ZAA (ZAA (m := Builtin.Tuple.tupleExact _) (ZAb (ZAC (ZAC ⟨_, rfl, ZAC h⟩)) htake))
  | exact ZAA (ZAA (m := Builtin.Tuple.tupleExact _) (ZAb (ZAC ⟨_, rfl, ZAC h⟩) htake))
end
end HT
namespace L2
open PySem PySem.Spec PyProof.Rows
abbrev TO := St -> Hp -> (Option Int -> Hp -> Prop) -> Prop
def PO (X : Cx) (e : Option Expr) (t : TO) : Prop :=
 ∀ (pins : LAO) (s : Shared) (σ : St) (H : Hp) (Q : Option Int -> Hp -> Prop), Inv X pins σ H s -> t σ H Q ->
  wpAny (model X.prog X.w) X.A (evalPart e X.env) (fun u s' => ∃ o H', Inv X pins σ H' s' /\ IsPart u o /\ Q o H') X.xe s
def YnS : TO := fun _ H Q => Q none H
def YoI (t : TE) : TO := fun σ H Q => t σ H fun x H1 => ∃ i, x = .int i /\ Q (some i) H1
section
variable {X : Cx} {e : Expr} {te : TE} {lo hi : Option Expr} {tl th : TO} {pos p2 : Pos}
theorem Yhe : PO X none YnS := by
 show 168
 rw [evalPart_none]
 exact ZAC ⟨none, H, I, .none, h⟩
theorem YhT (h : PE X e te) : PO X (some e) (YoI te) := by
 intro pins s σ H Q I hw
 rw [evalPart_some]
 refine thn (h pins s σ H _ I hw) fun u s1 ⟨x, H1, I1, r1, q1⟩ => ?_
 obtain ⟨i, rfl, q⟩ := q1
 show 225
 exact ⟨some i, H1, I1, .int i t, q⟩
def SlR (X : Cx) (r : V -> Option Int -> Option Int -> Hp -> VK -> Prop) : Prop :=
 ∀ (pins : LAO) (s : Shared) (σ : St) (H : Hp) (x : V) (v vl vu : Value) (lo hi : Option Int) (sl : Addr) (Q : VK), Inv X pins σ H s -> RelV x v -> s.heap.IsSliceOf sl vl vu .none -> IsPart vl lo -> IsPart vu hi -> r x lo hi H Q ->
  ∃ T id, typeLookup (.type T) "__getitem__" = pure (some (.builtin id)) /\ s.TypeIs v T /\ wpAny (model X.prog X.w) X.A (getItem v (.ref sl)) (EP X pins σ Q) X.xe s
theorem SlR.or {r r' : V -> Option Int -> Option Int -> Hp -> VK -> Prop} (h : SlR X r) (h' : SlR X r') : SlR X (fun x lo hi H Q => r x lo hi H Q \/ r' x lo hi H Q) := by
 intro pins s σ H x v vl vu lo hi sl Q I rx hs pl pu q
 rcases q with q | q
 ·exact h pins s σ H x v vl vu lo hi sl Q I rx hs pl pu q
 ·exact h' pins s σ H x v vl vu lo hi sl Q I rx hs pl pu q
def tSl (r : V -> Option Int -> Option Int -> Hp -> VK -> Prop) (te : TE) (tl th : TO) : TE := fun σ H Q => te σ H fun x H1 => tl σ H1 fun l H2 => th σ H2 fun u H3 => r x l u H3 Q
theorem YgO {r : V -> Option Int -> Option Int -> Hp -> VK -> Prop} (hr : SlR X r) (he : PE X e te) (hl : PO X lo tl) (hu : PO X hi th) : PE X (.Subscript e (.Slice lo hi none p2) pos) (tSl r te tl th) := by
 show 168
 refine Subscript_ (thn (he pins s σ H _ I h) fun v s1 ⟨x, H1, I1, r1, q1⟩ => ?_)
 refine ZCS (thn (hl pins s1 σ H1 _ I1 q1) fun vl s2 ⟨l, H2, I2, pl, q2⟩ => thn (hu pins s2 σ H2 _ I2 q2) fun vu s3 ⟨u, H3, I3, pu, q3⟩ => ?_)
 rw [evalPart_none]
 refine ZAC ?_
 have I4 : Inv X pins σ H3 { s3 with heap := s3.heap.push { cls := .type "slice", data := .fields #[vl, vu, .none] } } := I3.kept (t' := s3.toks) fun b ob q => ZAB _ q
 obtain ⟨T, id, hT, ht, hg⟩ := hr pins { s3 with heap := s3.heap.push { cls := .type "slice", data := .fields #[vl, vu, .none] } } σ H3 x v vl vu l u s3.heap.objs.size Q I4 r1 (Heap.IsSliceOf.new ..) pl pu q3
 show wpAny (model X.prog X.w) X.A (subscriptTail e (.Slice lo hi none p2) v (.ref s3.heap.objs.size)) (EP X pins σ Q) X.xe { s3 with heap := s3.heap.push { cls := .type "slice", data := .fields #[vl, vu, .none] } }
 exact tail_any (ops := [.ref s3.heap.objs.size, v]) ht hT hg (by with_unfolding_all rfl)
def YmX (xs : List V) (lo hi : Option Int) : List V := (xs.drop (HT.sIx xs.length 0 lo)).take (HT.sIx xs.length xs.length hi - HT.sIx xs.length 0 lo)
theorem Jj (xs : List V) (lo hi : Option Int) : (YmX xs lo hi).length <= xs.length := by
 unfold YmX
 rw [ZAu, ZAi]
 omega
def Yo7 (K : Frag) : V -> Option Int -> Option Int -> Hp -> VK -> Prop := fun x lo hi H Q => ∃ a xs, x = .ref a /\ SqT K H a xs /\
 ¬ (HT.sIx xs.length 0 lo = 0 /\ HT.sIx xs.length xs.length hi = xs.length) /\ ∀ p, H p = none -> Q (.ref p) (upd H p (.tup (YmX xs lo hi)))
theorem YiM : SlR X (Yo7 X.K) := by
 show 262
 obtain ⟨a, xs, rfl, hx, hw, q⟩ := h
 cases rx
 obtain ⟨its, r, ht, hz⟩ := I.tuple hx
 have hlen : its.toArray.size = xs.length := by rw [ZAZ]; exact r.length.symm
 refine ⟨"tuple", _, PyProof.Rows.slot_tuple_getitem.lookup, ht.typeIs, ?_⟩
 refine HT.getItem_tuple_cut ht hs pl pu (by rw [hlen]; exact hw) ?_ (by rw [hlen]; exact hz)
 rw [hlen]
 refine ⟨.ref s.heap.objs.size, _, I.laid (t' := s.toks) (o := .tup (YmX xs lo hi)) (fun b ob q => ZAB _ q) (ZAE _) ?_, rfl, q _ (I.hok.fresh (ZAE _))⟩
 exact ⟨ZAH (Jj xs lo hi) hz, _, (r.drop (HT.sIx xs.length 0 lo)).take (HT.sIx xs.length xs.length hi - HT.sIx xs.length 0 lo), IsTup.new _ _⟩
def Yor (K : Frag) : R2 := fun x y H Q => ∃ a b xs ys, x = .ref a /\ y = .ref b /\ SqT K H a xs /\ SqT K H b ys /\ xs ≠ [] /\ xs.length + ys.length <= sizeLine /\
 (ys = [] -> Q (.ref a) H) /\ (ys ≠ [] -> ∀ p, H p = none -> Q (.ref p) (upd H p (.tup (xs ++ ys))))
theorem Vals.nil_iff {xs : List V} {us : List Value} (r : Vals xs us) : us = [] ↔ xs = [] := by
 cases r with
 | nil => simp
 | cons _ _ => simp
theorem Yh1 : OpR X (binaryOp .Add) (Yor X.K) := by
 show 194
 obtain ⟨a, b, xs, ys, rfl, rfl, ha, hb, hx, hz, q1, q2⟩ := h
 show 112
 obtain ⟨its, r1, p1, _⟩ := I.tuple ha
 obtain ⟨its2, r2, p2, _⟩ := I.tuple hb
 refine HT.cat_tup p1 p2 (fun z => hx (r1.nil_iff.mp z)) (fun z => ⟨.ref a, H, I, rfl, q1 (r2.nil_iff.mp z)⟩) (fun z => ?_) (by rw [<- r1.length, <- r2.length]; exact hz)
 refine ⟨.ref s.heap.objs.size, _, I.laid (t' := s.toks) (o := .tup (xs ++ ys)) (fun b ob q => ZAB _ q) (ZAE _) ?_, rfl, q2 (fun w => z (r2.nil_iff.mpr w)) _ (I.hok.fresh (ZAE _))⟩
 exact ⟨by rw [ZAK]; exact hz, _, r1.append r2, IsTup.new _ _⟩
end
end L2
namespace L2
open PySem PySem.Spec PyProof.Rows
def ixN (n : Nat) (i : Int) : Option Nat := if 0 <= i then (if i < n then some i.toNat else none) else if -(n : Int) <= i then some (i + n).toNat else none
def atI {α : Type} (xs : List α) (i : Int) : Option α := (ixN xs.length i).bind fun j => xs[j]?
theorem YdE {n : Nat} {i : Int} {j : Nat} (h : ixN n i = some j) : seqIndex? i n = some j /\ j < n /\ -(n : Int) <= i /\ i < n := by
 unfold ixN at h
 by_cases h0 : 0 <= i
 ·rw [ZAI h0] at h
  by_cases h1 : i < n
  ·rw [ZAI h1] at h
   have e : i.toNat = j := Option.some.inj h
   exact ⟨by rw [seqIndex_of h0 h1, e], by omega, by omega, h1⟩
  ·rw [ZAJ h1] at h; cases h
 ·rw [ZAJ h0] at h
  by_cases h1 : -(n : Int) <= i
  ·rw [ZAI h1] at h
   have e : (i + n).toNat = j := Option.some.inj h
   exact ⟨by rw [seqIndex_neg (by omega) h1, e], by omega, h1, by omega⟩
  ·rw [ZAJ h1] at h; cases h
theorem YbL {α : Type} {xs : List α} {i : Int} {v : α} (h : atI xs i = some v) : ∃ j, seqIndex? i xs.length = some j /\ xs[j]? = some v /\ j < xs.length /\ -(xs.length : Int) <= i /\ i < xs.length := by
 unfold atI at h
 cases e : ixN xs.length i with
 | none => rw [e] at h; cases h
 | some j =>
  rw [e] at h
  obtain ⟨h1, h2, h3, h4⟩ := YdE e
  exact ⟨j, h1, h, h2, h3, h4⟩
def YmN (b : Expr) : Prop := ∀ o i, subscripted b false o i = operate [o, i] (getItem o i)
def IxR (X : Cx) (r : R2) : Prop :=
 ∀ (value slice : Expr) (pins : LAO) (s : Shared) (σ : St) (H : Hp) (x y : V) (v u : Value) (Q : VK), Inv X pins σ H s -> RelV x v -> RelV y u -> r x y H Q ->
  subscripted slice false v u = operate [v, u] (getItem v u) -> wpAny (model X.prog X.w) X.A (subscriptTail value slice v u) (EP X pins σ Q) X.xe s
def MtR (X : Cx) (id : String) (r : V -> List V -> Hp -> VK -> Prop) : Prop :=
 ∀ (pins : LAO) (s : Shared) (σ : St) (H : Hp) (x : V) (xs : List V) (v : Value) (us : List Value) (Q : VK), Inv X pins σ H s -> RelV x v -> Vals xs us -> r x xs H Q ->
  wpAny (model X.prog X.w) X.A (call (.builtin id) (v :: us)) (EP X pins σ Q) X.xe s
section
variable {X : Cx} {a b : Expr} {ta tb : TE} {pos : Pos}
theorem IxR.or {r r' : R2} (h : IxR X r) (h' : IxR X r') : IxR X (fun x y H Q => r x y H Q \/ r' x y H Q) := by
 intro value slice pins s σ H x y v u Q I rx ry q hs
 rcases q with q | q
 ·exact h value slice pins s σ H x y v u Q I rx ry q hs
 ·exact h' value slice pins s σ H x y v u Q I rx ry q hs
theorem Yh7 {r : R2} (hr : IxR X r) (ha : PE X a ta) (hb : PE X b tb) (hs : YmN b) : PE X (.Subscript a b pos) (tOp r ta tb) := by
 show 168
 exact Subscript_ (Yoh ha hb I h fun v u s2 x y H2 I2 rx ry q => hr a b pins s2 σ H2 x y v u Q I2 rx ry q (hs _ _))
def Yoy (K : Frag) : R2 := fun x y H Q => ∃ p xs i v, x = .ref p /\ y = .int i /\ SqL K H p xs /\ atI xs i = some v /\ Q v H
def YoK (K : Frag) : R2 := fun x y H Q => ∃ p xs i v, x = .ref p /\ y = .int i /\ SqT K H p xs /\ atI xs i = some v /\ Q v H
def YoM : R2 := fun x y H Q => ∃ z i c, x = .str z /\ y = .int i /\ z.length <= sizeLine /\ atI z.cps.toList i = some c /\ Q (.str ⟨#[c]⟩) H
theorem ix_list : IxR X (Yoy X.K) := by
 show 237
 obtain ⟨p, xs, i, z, rfl, rfl, hq, he, q⟩ := h
 cases rx
 obtain ⟨t, rfl⟩ := ry
 obtain ⟨its, r, pl, hz⟩ := I.list hq
 obtain ⟨j, h1, h2, h3, h4, h5⟩ := YbL he
 obtain ⟨w, ew, rw'⟩ := r.get h2
 have hl := r.length
 show 213
 have fin : EP X pins σ Q w s := ⟨z, H, I, rw', q⟩
 by_cases h0 : 0 <= i
 ·have hj : i.toNat = j := by
   rw [seqIndex_of h0 h5] at h1
   show 259
  exact item_listR pl.isList h0 (by omega) (by rw [hj]; simpa using ew) fin hs
 ·have hj : (i + (its.toArray.size : Int)).toNat = j := by
   rw [seqIndex_neg (by omega) h4] at h1
   rw [ZAZ, <- hl]
   show 259
  exact subscriptTail_builtinR (x := w) pl.isList.typeIs slot_list_getitem.lookup
   (wpAny_getItem_list_neg (Q := fun r s' => r = w /\ EP X pins σ Q r s') pl.isList (by omega) (by rw [List.size_toArray] <;> omega) (by omega) (by rw [hj]; simpa using ew) ⟨rfl, fin⟩) hs
theorem ix_tup : IxR X (YoK X.K) := by
 show 237
 obtain ⟨p, xs, i, z, rfl, rfl, hq, he, q⟩ := h
 cases rx
 obtain ⟨t, rfl⟩ := ry
 obtain ⟨its, r, pl, hz⟩ := I.tuple hq
 obtain ⟨j, h1, h2, h3, h4, h5⟩ := YbL he
 obtain ⟨w, ew, rw'⟩ := r.get h2
 have hl := r.length
 show 213
 have fin : EP X pins σ Q w s := ⟨z, H, I, rw', q⟩
 exact subscriptTail_builtinR (x := w) pl.typeIs slot_tuple_getitem.lookup
  (getItem_tuple (j := j) (Q := fun r s' => r = w /\ EP X pins σ Q r s') pl (by omega) (by omega) (by rw [List.size_toArray, <- hl]; exact h1) (by simpa using ew) ⟨rfl, fin⟩) hs
theorem YiT : IxR X YoM := by
 show 237
 obtain ⟨z, i, c, rfl, rfl, hz, he, q⟩ := h
 show 30
 obtain ⟨j, h1, h2, h3, h4, h5⟩ := YbL he
 have hl : z.cps.toList.length = z.length := by simp [Str.length]
 rw [hl] at h1 h4 h5
 show 213
 exact tail_any (typeIs_str s z t) slot_str_getitem.lookup (getItem_str (c := c) (by
  have e1 : decide (i < -(2 ^ 63 : Int)) = false := ZAM (by omega)
  have e2 : decide (i >= 2 ^ 63) = false := ZAM (by omega)
  rw [e1, e2, Bool.or_false]) (by rw [h1]; simpa using h2) ⟨.str ⟨#[c]⟩, H, I.tok _, ⟨_, rfl⟩, q⟩) hs
def rIx (K : Frag) : R2 := fun x y H Q => Yoy K x y H Q \/ YoK K x y H Q \/ YoM x y H Q
theorem Yie : IxR X (rIx X.K) := ix_list.or (ix_tup.or YiT)
theorem Ydr (its : List Value) (n j : Nat) (u : Value) : Obj.mapSeq (·.setIfInBounds j u) { cls := .type "list", data := .seq its.toArray n } = { cls := .type "list", data := .seq (its.set j u).toArray n } := by
 simp [Obj.mapSeq]
theorem Inv.lst {pins : LAO} {σ : St} {H : Hp} {s : Shared} {p : Addr} {xs : List V} (I : Inv X pins σ H s) (h : H p = some (.lst xs)) :
 ∃ (its : List Value) (n : Nat), Vals xs its /\ s.heap.get? p = some { cls := .type "list", data := .seq its.toArray n } /\ xs.length <= sizeLine := by
 obtain ⟨z, its, n, r, e⟩ := I.hok p _ h
 exact ⟨its, n, r, e, z⟩
theorem Inv.lstUpd {pins : LAO} {σ : St} {H : Hp} {s : Shared} {p : Addr} {xs ys : List V} {its its' : List Value} {n n' : Nat} {f : Obj -> Obj} (I : Inv X pins σ H s) (h : H p = some (.lst xs))
 (ho : s.heap.get? p = some { cls := .type "list", data := .seq its.toArray n }) (hf : f { cls := .type "list", data := .seq its.toArray n } = { cls := .type "list", data := .seq its'.toArray n' }) (r : Vals ys its') (hz : ys.length <= sizeLine) (t : Nat) :
 Inv X pins σ (upd H p (.lst ys)) { s with heap := s.heap.update p f, toks := t } := by
 have e : (s.heap.update p f).get? p = some { cls := .type "list", data := .seq its'.toArray n' } := by
  rw [ZAx f ho (by rw [hf] <;> rfl), hf]
 refine I.write (x := p) (e := p) (by rw [h]; trivial) (.inl rfl) (fun b u hb q => (ZAT _ _ (ZA1 hb)).trans q) ⟨_, e⟩ ?_
 exact ⟨hz, its', n', r, e⟩
def Yn0 : V -> V -> V -> Hp -> (Hp -> Prop) -> Prop := fun o i v H Q => ∃ p xs k j, o = .ref p /\ i = .int k /\ H p = some (.lst xs) /\ ixN xs.length k = some j /\ Q (upd H p (.lst (xs.set j v)))
theorem Yga : Yo8 X Yn0 := by
 intro pins s σ H o i v ov iv u Q I ro ri rv h
 obtain ⟨p, xs, k, j, rfl, rfl, hp, hj, q⟩ := h
 cases ro
 obtain ⟨t, rfl⟩ := ri
 obtain ⟨its, n, r, ho, hz⟩ := I.lst hp
 obtain ⟨h1, h2, h3, h4⟩ := YdE hj
 have hl := r.length
 show 213
 have I' : Inv X pins σ (upd H p (.lst (xs.set j v))) { s with heap := s.heap.update p (Obj.mapSeq (·.setIfInBounds j u)) } :=
  I.lstUpd hp ho (Ydr its n j u) (r.set rv j) (by rw [ZBX]; exact hz) s.toks
 by_cases h0 : 0 <= k
 ·have hk : k.toNat = j := by
   rw [seqIndex_of h0 h4] at h1
   show 259
  exact PySem.W.ki_setAt ho h0 (by omega) (by rw [ZAZ, <- hl]; exact h4) (by rw [hk]; exact ⟨_, I', q⟩)
 ·have hk : (k + (its.toArray.size : Int)).toNat = j := by
   rw [seqIndex_neg (by omega) h3] at h1
   rw [ZAZ, <- hl]
   show 259
  exact PySem.W.ki_setBack ho (by omega) (by rw [ZAZ, <- hl]; exact h3) (by omega) (by rw [hk]; exact ⟨_, I', q⟩)
theorem Ybw (lo hi : Option Int) (n : Nat) : (sliceBounds lo hi none n).1 = ((HT.sIx n 0 lo : Nat) : Int) /\ (sliceBounds lo hi none n).2.1 = ((HT.sIx n n hi : Nat) : Int) /\ (sliceBounds lo hi none n).2.2 = 1 := by
 refine ⟨?_, ?_, rfl⟩
 ·cases lo with
  | none => simp [sliceBounds, HT.sIx]
  | some i =>
   simp only [sliceBounds, HT.sIx, Option.getD_none, show (1 : Int) > 0 by decide, if_true]
   by_cases h : i < 0
   ·simp only [h, if_true] <;> omega
   ·simp only [h, if_false] <;> omega
 ·cases hi with
  | none => simp [sliceBounds, HT.sIx]
  | some i =>
   simp only [sliceBounds, HT.sIx, Option.getD_none, show (1 : Int) > 0 by decide, if_true]
   by_cases h : i < 0
   ·simp only [h, if_true] <;> omega
   ·simp only [h, if_false] <;> omega
theorem Yax (its : List Value) (lo hi : Option Int) : slicePick its.toArray lo hi none = ((its.drop (HT.sIx its.length 0 lo)).take (HT.sIx its.length its.length hi - HT.sIx its.length 0 lo)).toArray := by
 obtain ⟨h1, h2, h3⟩ := Ybw lo hi its.toArray.size
 unfold slicePick
 rw [h1, h2, h3]
 simp only [sliceRange_one, pick_run, List.size_toArray] <;> rfl
def Yo3 (K : Frag) : V -> Option Int -> Option Int -> Hp -> VK -> Prop := fun x lo hi H Q => ∃ a xs, x = .ref a /\ SqL K H a xs /\ ∀ p, H p = none -> Q (.ref p) (upd H p (.lst (YmX xs lo hi)))
theorem YgZ : SlR X (Yo3 X.K) := by
 show 262
 obtain ⟨a, xs, rfl, hx, q⟩ := h
 cases rx
 obtain ⟨its, r, ht, hz⟩ := I.list hx
 have hlen := r.length
 refine ⟨"list", _, slot_list_getitem.lookup, ht.isList.typeIs, ?_⟩
 refine wpAny_getItem_list_slice ht.isList hs pl pu .none (by simp) ?_ (by rw [List.size_toArray] <;> omega)
 rw [Yax, <- hlen]
 refine ⟨.ref s.heap.objs.size, _, I.laid (t' := s.toks) (o := .lst (YmX xs lo hi)) (fun b ob q => ZAB _ q) (ZAE _) ?_, rfl, q _ (I.hok.fresh (ZAE _))⟩
 exact ⟨ZAH (Jj xs lo hi) hz, _, 0, (r.drop (HT.sIx xs.length 0 lo)).take (HT.sIx xs.length xs.length hi - HT.sIx xs.length 0 lo), ZAF _ rfl⟩
def Yl4 : V -> Bool
 | .non => true
 | .bl _ => true
 | .int _ => true
 | .str _ => true
 | _ => false
def eqV : V -> V -> Bool
 | .non, .non => true
 | .bl a, .bl b => a == b
 | .bl a, .int b => (if a then 1 else 0) == b
 | .int a, .bl b => a == (if b then 1 else 0)
 | .int a, .int b => a == b
 | .str a, .str b => a == b
 | _, _ => false
theorem Yif {A : Around} {s : Shared} {y x : V} {u v : Value} (ry : RelV y u) (rx : RelV x v) (fy : Yl4 y = true) (fx : Yl4 x = true) : SeqAt.EqAt A s u v (eqV y x) := by
 cases y with
 | non =>
  cases ry
  cases x with
  | non => cases rx; exact SeqAt.EqAt.same _
  | bl b => cases rx; exact SeqAt.EqAt.none_bool b
  | int b => obtain ⟨t, rfl⟩ := rx; exact SeqAt.EqAt.none_int b t
  | str b => obtain ⟨t, rfl⟩ := rx; exact SeqAt.EqAt.none_str b t
  | _ => show 248
 | bl a =>
  cases ry
  cases x with
  | non => cases rx; exact SeqAt.EqAt.bool_none a
  | bl b => cases rx; exact SeqAt.EqAt.bool_bool a b
  | int b => obtain ⟨t, rfl⟩ := rx; exact SeqAt.EqAt.bool_int a b t
  | str b => obtain ⟨t, rfl⟩ := rx; exact SeqAt.EqAt.bool_str a b t
  | _ => show 248
 | int a =>
  show 272
  cases x with
  | non => cases rx; exact SeqAt.EqAt.int_none a t'
  | bl b => cases rx; exact SeqAt.EqAt.int_bool a t' b
  | int b => obtain ⟨t, rfl⟩ := rx; exact SeqAt.EqAt.int_int a t' b t
  | str b => obtain ⟨t, rfl⟩ := rx; exact SeqAt.EqAt.int_str a t' b t
  | _ => show 248
 | str a =>
  show 272
  cases x with
  | non => cases rx; exact SeqAt.EqAt.str_none a t'
  | bl b => cases rx; exact SeqAt.EqAt.str_bool a t' b
  | int b => obtain ⟨t, rfl⟩ := rx; exact SeqAt.EqAt.str_int a t' b t
  | str b => obtain ⟨t, rfl⟩ := rx; exact SeqAt.EqAt.str_str a t' b t
  | _ => show 248
 | _ => exact absurd (show false = true from fy) ZAQ
def eqU (x : V) (u : Value) : Bool := match u with
 | .none => eqV .non x
 | .bool b => eqV (.bl b) x
 | .int i _ => eqV (.int i) x
 | .str z _ => eqV (.str z) x
 | _ => false
theorem Ye6 {x y : V} {u : Value} (r : RelV y u) (f : Yl4 y = true) : eqU x u = eqV y x := by
 cases y with
 | non => cases r; rfl
 | bl b => cases r; rfl
 | int i => show 212
 | str z => show 212
 | _ => exact absurd (show false = true from f) ZAQ
theorem VB {x : V} : ∀ {xs : List V} {us : List Value}, Vals xs us -> xs.all Yl4 = true -> us.any (eqU x) = xs.any fun y => eqV y x
 | _, _, .nil, _ => rfl
 | y :: xs, u :: us, .cons r t, f => by
  rw [ZBl, ZAq] at f
  rw [ZBM, ZBM, Ye6 r f.1, VB t f.2]
theorem WF {A : Around} {s : Shared} {x : V} {v : Value} (rx : RelV x v) (fx : Yl4 x = true) : ∀ {xs : List V} {us : List Value}, Vals xs us -> xs.all Yl4 = true -> ∀ u ∈ us, SeqAt.EqAt A s u v (eqU x u)
 | _, _, .nil, _ => fun u hu => by cases hu
 | y :: xs, u :: us, .cons r t, f => fun u' hu => by
  rw [ZBl, ZAq] at f
  rcases ZAV.mp hu with rfl | hu
  ·rw [Ye6 r f.1]; exact Yif r rx f.1 fx
  ·exact WF rx fx t f.2 u' hu
def inV (x : V) (xs : List V) : Bool := xs.any fun y => eqV y x
def rIn (K : Frag) (neg : Bool) : R2 := fun x y H Q => ∃ p xs, y = .ref p /\ (SqL K H p xs \/ SqT K H p xs) /\ Yl4 x = true /\ xs.all Yl4 = true /\ Q (.bl (if neg then !inV x xs else inV x xs)) H
theorem Yd2 : OpR X (compareOp .In) (rIn X.K false) := by
 show 194
 obtain ⟨p, xs, rfl, hq, fx, fs, q⟩ := h
 cases ry
 show 233
 ·obtain ⟨its, r, pl, hz⟩ := I.list hq
  refine SeqAt.in_listAt (eqU x) pl.isList (fun w hw => WF rx fx r fs w (by simpa using hw)) ⟨.bl _, H, I, rfl, ?_⟩
  show 62
 ·obtain ⟨its, r, pl, hz⟩ := I.tuple hq
  refine SeqAt.in_tupleAt (eqU x) pl (fun w hw => WF rx fx r fs w (by simpa using hw)) ⟨.bl _, H, I, rfl, ?_⟩
  show 62
theorem Ybg : OpR X (compareOp .NotIn) (rIn X.K true) := by
 show 194
 obtain ⟨p, xs, rfl, hq, fx, fs, q⟩ := h
 cases ry
 show 233
 ·obtain ⟨its, r, pl, hz⟩ := I.list hq
  refine SeqAt.notIn_listAt (eqU x) pl.isList (fun w hw => WF rx fx r fs w (by simpa using hw)) ⟨.bl _, H, I, rfl, ?_⟩
  show 62
 ·obtain ⟨its, r, pl, hz⟩ := I.tuple hq
  refine SeqAt.notIn_tupleAt (eqU x) pl (fun w hw => WF rx fx r fs w (by simpa using hw)) ⟨.bl _, H, I, rfl, ?_⟩
  show 62
theorem Wc : YlD X (.builtin "len") (fun xs H Q => ∃ p ys, xs = [.ref p] /\ (SqL X.K H p ys \/ SqT X.K H p ys) /\ Q (.int ys.length) H) := by
 show 224
 obtain ⟨p, ys, rfl, hq, q⟩ := h
 obtain ⟨u, rfl, rx⟩ := vals1 r
 cases rx
 show 213
 show 233
 ·obtain ⟨its, r', pl, hz⟩ := I.list hq
  have hlen := r'.length
  exact Calls.call_len_list pl.isList (by simp only [List.size_toArray] <;> omega) ⟨.int ys.length, H, I.tok _, ⟨s.toks + 1, by rw [List.size_toArray, hlen]⟩, q⟩
 ·obtain ⟨its, r', pl, hz⟩ := I.tuple hq
  have hlen := r'.length
  exact len_tuple pl (by simp only [List.size_toArray] <;> omega) ⟨.int ys.length, H, I.tok _, ⟨s.toks + 1, by rw [List.size_toArray, hlen]⟩, q⟩
theorem YbQ : YlD X (.builtin "len") (fun xs H Q => ∃ z, xs = [.str z] /\ z.length <= sizeLine /\ Q (.int z.length) H) := by
 show 224
 obtain ⟨z, rfl, hz, q⟩ := h
 obtain ⟨u, rfl, t, rfl⟩ := vals1 r
 show 213
 exact len_str (by omega) ⟨.int z.length, H, I.tok _, ⟨_, rfl⟩, q⟩
theorem Vb : YlD X (.type "tuple") (fun xs H Q => ∃ p ys, xs = [.ref p] /\ ((SqL X.K H p ys /\ ∀ l, H l = none -> Q (.ref l) (upd H l (.tup ys))) \/ (SqT X.K H p ys /\ Q (.ref p) H))) := by
 show 224
 obtain ⟨p, ys, rfl, h⟩ := h
 obtain ⟨u, rfl, rx⟩ := vals1 r
 cases rx
 rcases h with ⟨hq, q⟩ | ⟨hq, q⟩
 ·obtain ⟨its, r', pl, hz⟩ := I.list hq
  have hlen := r'.length
  refine call_tuple_list pl.isList (fun h' kp => ?_) (by simp only [List.size_toArray] <;> omega)
  have I1 : Inv X pins σ H { s with heap := h' } := I.kept (t' := s.toks) kp
  have I2 : Inv X pins σ (upd H h'.objs.size (.tup ys)) { s with heap := h'.push { cls := .type "tuple", data := .seq its.toArray } } :=
   I1.laid (t' := s.toks) (fun b o e => ZAB _ e) (ZAE _) (show Ylk X.prog X.w _ _ _ (.tup ys) from ⟨hz, its, r', IsTup.new _ _⟩)
  exact ⟨.ref h'.objs.size, _, I2, rfl, q _ (I1.hok.fresh (ZAE _))⟩
 ·obtain ⟨its, r', pl, hz⟩ := I.tuple hq
  exact call_tuple_same pl ⟨.ref p, H, I, rfl, q⟩
def tyV (K : Frag) (T : String) (x : V) (H : Hp) : Prop := match x with
 | .str _ => T = "str"
 | .int _ => T = "int"
 | .ref p => (T = "list" /\ ∃ xs, SqL K H p xs) \/ (T = "tuple" /\ ∃ o, K.lookup p = some o /\ o.cls = .type "tuple" /\ o.dict = none) \/
  (T = "dict" /\ ((∃ kvs, H p = some (.dK kvs)) \/ ∃ kvs, H p = some (.dT kvs))) \/ (T = "set" /\ ∃ S n, H p = some (.set S n))
 | _ => False
theorem YfB {pins : LAO} {σ : St} {H : Hp} {s : Shared} {T : String} {x : V} {v : Value} (I : Inv X pins σ H s) (r : RelV x v) (ty : tyV X.K T x H) :
 s.TypeIs v T /\ ∀ a, v = .ref a -> ∃ ob, s.heap.get? a = some ob /\ ob.dict = none := by
 cases x with
 | str z =>
  show 244
  cases (show T = "str" from ty)
  exact ⟨typeIs_str s z t, fun _ e => nomatch e⟩
 | int i =>
  show 244
  cases (show T = "int" from ty)
  exact ⟨typeIs_int s i t, fun _ e => nomatch e⟩
 | ref p =>
  cases r
  rcases ty with ⟨rfl, xs, hq⟩ | ⟨rfl, o, hk, hc, hd⟩ | ⟨rfl, hk⟩ | ⟨rfl, S, n, hk⟩
  ·obtain ⟨its, _, pl, _⟩ := I.list hq
   refine ⟨pl.isList.typeIs, fun a e => ?_⟩
   cases e
   obtain ⟨o, n, e, c, hd, _⟩ := pl
   exact ⟨o, e, hd⟩
  ·refine ⟨⟨o, I.kIn p o hk, hc⟩, fun a e => ?_⟩
   cases e
   exact ⟨o, I.kIn _ o hk, hd⟩
  ·have z : ∃ o, s.heap.get? p = some o /\ o.ExactDict := by
    rcases hk with ⟨kvs, hk⟩ | ⟨kvs, hk⟩
    ·obtain ⟨_, _, _, _, o, _, _, e, ex, _⟩ := I.hok p _ hk
     exact ⟨o, e, ex⟩
    ·obtain ⟨_, _, _, _, o, _, _, e, ex, _⟩ := I.hok p _ hk
     exact ⟨o, e, ex⟩
   obtain ⟨o, e, ex⟩ := z
   refine ⟨⟨o, e, ex.1⟩, fun a e2 => ?_⟩
   cases e2
   exact ⟨o, e, ex.2.1⟩
  ·obtain ⟨o, _, _, _, e, ex, _⟩ := I.hok p _ hk
   refine ⟨⟨o, e, ex.1⟩, fun a e2 => ?_⟩
   cases e2
   exact ⟨o, e, ex.2.1⟩
 | _ => exact False.elim ty
def Yph (K : Frag) (T : String) (r : V -> List V -> Hp -> VK -> Prop) (to : TE) : TE := fun σ H Q => to σ H fun x H1 => tyV K T x H1 /\ r x [] H1 Q
def tBM (K : Frag) (T : String) (r : V -> List V -> Hp -> VK -> Prop) (to : TE) (t : TA) : TE := fun σ H Q => to σ H fun x H1 => tyV K T x H1 /\ t σ H1 fun xs H2 => r x xs H2 Q
variable {o e : Expr} {es : List Expr} {to : TE} {t : TA} {name : Str} {apos cpos : Pos} {T id : String} {r : V -> List V -> Hp -> VK -> Prop}
theorem Yi6 (pa : PlainAttrs T) (slot : Slot T name id) (hty : typeOf (.builtin id) = pure (.type "method_descriptor")) (hm : MtR X id r) (ho : PE X o to)
 (hbase : attributeBase o name X.env (eval o X.env) = eval o X.env := by rfl) (hline : (apos.endLine == cpos.line) = true := by rfl) : PE X (.Call (.Attribute o name apos) [] [] cpos) (Yph X.K T r to) := by
 show 168
 refine wpAny_Call_method0_late hbase hline (thn (ho pins s σ H _ I h) fun v s1 ⟨x, H1, I1, r1, ty, q1⟩ => ?_)
 obtain ⟨h1, h2⟩ := YfB I1 r1 ty
 exact ⟨T, id, pa, slot, hty, h1, h2, Calls.callWith_builtin rfl (PySem.evalArgs_none (hm pins s1 σ H1 x [] v [] Q I1 r1 .nil q1))⟩
theorem YgH (pa : PlainAttrs T) (slot : Slot T name id) (hty : typeOf (.builtin id) = pure (.type "method_descriptor")) (hm : MtR X id r) (ho : PE X o to) (ha : PA X (e :: es) t)
 (hbase : attributeBase o name X.env (eval o X.env) = eval o X.env := by rfl)
 (hfew : ((backTo cpos (starEach (e :: es) X.env)).all (fun x => !x.1) && (backToKw cpos (keywordEach [] X.env)).all (fun x => x.1.isSome)
  && decide ((e :: es).length + ([] : List Keyword).length + (if ([] : List Keyword).isEmpty then 0 else 1) < 30)) = true := by rfl)
 (hline : (apos.endLine == cpos.line) = true := by rfl) (hs : starEach (e :: es) X.env = (false, eval e X.env) :: starEach es X.env := by rfl) (hplain : (backTo cpos (starEach es X.env)).any (·.1) = false := by rfl) :
 PE X (.Call (.Attribute o name apos) (e :: es) [] cpos) (tBM X.K T r to t) := by
 show 168
 refine wpAny_Call_method_late hbase hfew hline rfl (thn (ho pins s σ H _ I h) fun v s1 ⟨x, H1, I1, r1, ty, q1⟩ => ?_)
 obtain ⟨h1, h2⟩ := YfB I1 r1 ty
 refine ⟨T, id, pa, slot, hty, h1, h2, ?_⟩
 have hA := ha cpos pins s1 σ H1 _ I1 q1
 rw [hs] at hA ⊢
 refine Calls.callWith_builtin (by show (false || (backTo cpos (starEach es X.env)).any (·.1)) = false; rw [hplain] <;> rfl) (Calls.evalArgs_plain ?_)
 exact thn hA fun us s2 ⟨vs, H2, I2, r2, q2⟩ => hm pins s2 σ H2 x vs v us Q I2 r1 r2 q2
/- xs.append(e), list.index on a module's tuple .. are MtR facts of 06m -/
end
end L2
namespace L2
open PySem PySem.Spec PyProof.Rows
def MtM (X : Cx) (id : String) (r : V -> List V -> Hp -> VK -> Prop) : Prop :=
 ∀ (pins : LAO) (s : Shared) (σ : St) (H : Hp) (x : V) (xs : List V) (v : Value) (us : List Value) (Q : VK), Inv X pins σ H s -> RelV x v -> Vals xs us -> r x xs H Q ->
  wpAny (model X.prog X.w) X.A (call (.builtin id) (v :: us)) (EP X pins σ Q) X.xe s
theorem Vals.one : ∀ {x : V} {us : List Value}, Vals [x] us -> ∃ u, us = [u] /\ RelV x u
 | _, _, .cons r .nil => ⟨_, rfl, r⟩
theorem Vals.two : ∀ {x y : V} {us : List Value}, Vals [x, y] us -> ∃ u v, us = [u, v] /\ RelV x u /\ RelV y v
 | _, _, _, .cons r (.cons q .nil) => ⟨_, _, rfl, r, q⟩
theorem Vals.zero : ∀ {us : List Value}, Vals [] us -> us = []
 | _, .nil => rfl
theorem Vals.dropLast {xs : List V} {us : List Value} (h : Vals xs us) : Vals xs.dropLast us.dropLast := by
 induction h with
 | nil => exact .nil
 | cons r t ih =>
  cases t with
  | nil => exact .nil
  | cons q t' => exact .cons r ih
theorem Vals.eraseIdx : ∀ {xs : List V} {us : List Value} (i : Nat), Vals xs us -> Vals (xs.eraseIdx i) (us.eraseIdx i)
 | _, _, _, .nil => .nil
 | _, _, 0, .cons _ t => t
 | _, _, i + 1, .cons r t => .cons r (Vals.eraseIdx i t)
theorem Vals.reverse {xs : List V} {us : List Value} (h : Vals xs us) : Vals xs.reverse us.reverse := by
 induction h with
 | nil => exact .nil
 | cons r t ih => rw [ZBr, ZBr]; exact Vals.append ih (.cons r .nil)
section
variable {X : Cx} {pins : LAO} {σ : St} {H : Hp} {s : Shared} {l b : Addr} {xs ys zs : List V}
theorem Inv.lset {its its' : List Value} {n : Nat} {f : Array Value -> Array Value} {t' : Nat} (I : Inv X pins σ H s) (hH : H l = some (.lst xs))
 (e : s.heap.get? l = some { cls := .type "list", data := .seq its.toArray n }) (hf : f its.toArray = its'.toArray) (hv : Vals ys its') (hz : ys.length <= sizeLine) :
 Inv X pins σ (upd H l (.lst ys)) { s with heap := s.heap.update l (Obj.mapSeq f), toks := t' } := by
 have q := PySem.IsL.update e f
 rw [hf] at q
 refine I.write (x := l) (e := l) (by rw [hH]; exact trivial) (.inl rfl) (fun b' u hb hu => (ZAT s.heap (Obj.mapSeq f) (ZA1 hb)).trans hu) ⟨_, q⟩ ?_
 exact ⟨hz, its', _, hv, q⟩
theorem Inv.lnew {its : List Value} {t' : Nat} (I : Inv X pins σ H s) (hv : Vals ys its) (hz : ys.length <= sizeLine) :
 Inv X pins σ (upd H s.heap.objs.size (.lst ys)) { s with heap := s.heap.push { cls := .type "list", data := .seq its.toArray }, toks := t' } :=
 I.laid (fun _ _ q => ZAB _ q) (ZAE _) ⟨hz, its, 0, hv, ZAF _ rfl⟩
theorem Inv.fresh (I : Inv X pins σ H s) : H s.heap.objs.size = none := I.hok.fresh (ZAE _)
theorem Inv.lstM (I : Inv X pins σ H s) (hH : H l = some (.lst xs)) : xs.length <= sizeLine /\ ∃ (its : List Value) (n : Nat), Vals xs its /\ xs.length = its.length /\ s.heap.get? l = some { cls := .type "list", data := .seq its.toArray n } := by
 obtain ⟨z, its, n, r, e⟩ := I.hok l _ hH
 exact ⟨z, its, n, r, r.length, e⟩
theorem YnI {n : Nat} (h : n <= sizeLine) : Builtin.List.listTooLong n = false := by
 unfold Builtin.List.listTooLong
 exact ZAM (by omega)
end
section
variable {X : Cx}
def YnX : V -> List V -> Hp -> VK -> Prop := fun x vs H Q => ∃ l xs y, x = .ref l /\ vs = [y] /\ H l = some (.lst xs) /\ xs.length < sizeLine /\ Q .non (upd H l (.lst (xs ++ [y])))
theorem Yeu : MtM X "list.append" YnX := by
 intro pins s σ H x vs v us Q I rx rv h
 obtain ⟨l, xs, y, rfl, rfl, hH, hz, q⟩ := h
 cases rx
 obtain ⟨u, rfl, ru⟩ := rv.one
 obtain ⟨z, its, n, r, hl, e⟩ := I.lstM hH
 refine call_meets F.slot_list_append ⟨_, e, rfl⟩ F.entry_list_append (F.args_list_append_2 _ _) (PySem.list_append l its.toArray n u (by rw [ZAZ]; omega)) ⟨e, ?_⟩
 refine ⟨.non, _, I.lset (its' := its ++ [u]) hH e (by simp) (r.append (.cons ru .nil)) ?_, rfl, q⟩
 rw [ZAK, ZAW]
 omega
def YnQ : V -> List V -> Hp -> VK -> Prop := fun x vs H Q => ∃ l b xs zs, x = .ref l /\ vs = [.ref b] /\ H l = some (.lst xs) /\ H b = some (.lst zs) /\ xs.length + zs.length <= sizeLine /\ Q .non (upd H l (.lst (xs ++ zs)))
theorem YjN : MtM X "list.extend" YnQ := by
 intro pins s σ H x vs v us Q I rx rv h
 obtain ⟨l, b, xs, zs, rfl, rfl, hH, hB, hz, q⟩ := h
 cases rx
 obtain ⟨u, rfl, ru⟩ := rv.one
 cases ru
 obtain ⟨z, its, n, r, hl, e⟩ := I.lstM hH
 obtain ⟨z2, its2, n2, r2, hl2, e2⟩ := I.lstM hB
 have hsz : its.toArray.size + its2.toArray.size <= sizeLine := by rw [ZAZ, ZAZ]; omega
 have hlong : ¬ (!its.toArray.isEmpty && Builtin.List.listTooLong (its.toArray.size + its2.toArray.size)) = true := by
  rw [YnI hsz, Bool.and_false]
  exact ZAQ
 refine call_meets F.slot_list_extend ⟨_, e, rfl⟩ F.entry_list_extend (F.args_list_extend_2 _ _)
  (AutoSeq1.list_extend_list_list_0 l its.toArray n b its2.toArray n2 hlong (by rw [ZAZ]; omega) (by omega)) ⟨e, e2, ?_⟩
 refine ⟨.non, _, I.lset (its' := its ++ its2) hH e (by simp) (r.append r2) ?_, rfl, q⟩
 rw [ZAK]
 omega
def YoW : R2 := fun x y H Q => ∃ l b xs zs, x = .ref l /\ y = .ref b /\ H l = some (.lst xs) /\ H b = some (.lst zs) /\ xs.length + zs.length <= sizeLine /\ ∀ p, H p = none -> Q (.ref p) (upd H p (.lst (xs ++ zs)))
theorem Yi7 : OpR X (binaryOp .Add) YoW := by
 show 194
 obtain ⟨l, b, xs, zs, rfl, rfl, hH, hB, hz, q⟩ := h
 show 112
 obtain ⟨z, its, n, r, hl, e⟩ := I.lstM hH
 obtain ⟨z2, its2, n2, r2, hl2, e2⟩ := I.lstM hB
 refine PySem.P.add_list e e2 ?_ (by rw [ZAZ, ZAZ]; omega)
 have ea : its.toArray ++ its2.toArray = (its ++ its2).toArray := by simp
 rw [ea]
 exact ⟨.ref _, _, I.lnew (t' := s.toks) (r.append r2) (by rw [ZAK]; omega), rfl, q _ I.fresh⟩
end
section
variable {prog : Program} {w : World} {A : Around} {E : VSP} {s : Shared}
end
section
variable {X : Cx}
end
end L2
namespace L2
open PySem PySem.Spec PyProof.Rows
section
variable {κ : Type} [DecidableEq κ]
def Yl6 (kvs : List (κ × V)) (k : κ) : Option V := (kvs.find? fun kv => decide (kv.1 = k)).map (·.2)
def putK (kvs : List (κ × V)) (k : κ) (v : V) : List (κ × V) :=
 if (kvs.any fun kv => decide (kv.1 = k)) = true then kvs.map (fun kv => if kv.1 = k then (kv.1, v) else kv) else kvs ++ [(k, v)]
def Yn4 (kvs : List (κ × V)) (k : κ) : List (κ × V) := kvs.filter fun kv => decide (kv.1 ≠ k)
theorem Vw {p : κ × V} {r : List (κ × V)} {k : κ} (e : p.1 = k) : Yl6 (p :: r) k = some p.2 := by simp [Yl6, List.find?_cons, e]
theorem VC {p : κ × V} {r : List (κ × V)} {k : κ} (e : ¬ p.1 = k) : Yl6 (p :: r) k = Yl6 r k := by simp [Yl6, List.find?_cons, e]
theorem YcH (k : κ) : ∀ kvs : List (κ × V), (kvs.any fun kv => decide (kv.1 = k)) = (Yl6 kvs k).isSome
 | [] => rfl
 | p :: r => by
  rw [ZBM]
  show 203
  ·simp only [Vw e, decide_eq_true e, Bool.true_or, Option.isSome_some]
  ·rw [VC e, ZAM e, ZCf]; exact YcH k r
theorem Ji (kvs : List (κ × V)) (k : κ) (v : V) : (putK kvs k v).length <= kvs.length + 1 := by
 unfold putK
 split
 ·rw [ZAO]; omega
 ·rw [ZAK, ZBk, List.length_nil]; omega
theorem Ymo.isSome_eq {o : Option V} {u : Option Value} (r : Ymo o u) : o.isSome = u.isSome := by
 cases o with
 | none => cases u with
  | none => rfl
  | some _ => show 215
 | some _ => cases u with
  | none => show 215
  | some _ => rfl
theorem Ymo.getD {o : Option V} {u : Option Value} {d : V} {d' : Value} (r : Ymo o u) (rd : RelV d d') : RelV (o.getD d) (u.getD d') := by
 cases o with
 | none => cases u with
  | none => exact rd
  | some _ => show 215
 | some _ => cases u with
  | none => show 215
  | some _ => exact r
theorem KV.val {kvs : List (κ × V)} {vs : List (κ × Value)} (r : KV kvs vs) (k : κ) : Ymo (Yl6 kvs k) (valueAt vs k) := by
 unfold KV at r
 induction r with
 | nil => exact True.intro
 | @cons p q ps qs h t ih =>
  show 245
  show 203
  ·have e' : q.1 = k := h1.symm.trans e
   have b : valueAt (q :: qs) k = some q.2 := by simp [valueAt, List.find?_cons, e']
   rw [Vw e, b]; exact h2
  ·have e' : ¬ q.1 = k := fun z => e (h1.trans z)
   have b : valueAt (q :: qs) k = valueAt qs k := by simp [valueAt, List.find?_cons, e']
   rw [VC e, b]; exact ih
theorem KV.any {kvs : List (κ × V)} {vs : List (κ × Value)} (r : KV kvs vs) (k : κ) : (kvs.any fun kv => decide (kv.1 = k)) = vs.any fun kv => decide (kv.1 = k) := by
 unfold KV at r
 induction r with
 | nil => rfl
 | cons h t ih => rw [ZBM, ZBM, ih, h.1]
theorem KV.repl {kvs : List (κ × V)} {vs : List (κ × Value)} (r : KV kvs vs) (k : κ) {y : V} {u : Value} (ry : RelV y u) :
 KV (kvs.map fun kv => if kv.1 = k then (kv.1, y) else kv) (vs.map fun kv => if kv.1 = k then (kv.1, u) else kv) := by
 unfold KV at r ⊢
 induction r with
 | nil => exact .nil
 | @cons p q ps qs h t ih =>
  rw [ZAe, ZAe]
  refine .cons ?_ ih
  show 245
  show 203
  ·rw [ZAI e, ZAI (h1.symm.trans e)]; exact ⟨h1, ry⟩
  ·rw [ZAJ e, ZAJ (fun z => e (h1.trans z))]; exact ⟨h1, h2⟩
theorem KV.put {kvs : List (κ × V)} {vs : List (κ × Value)} (r : KV kvs vs) (k : κ) {y : V} {u : Value} (ry : RelV y u) : KV (putK kvs k y) (stored vs k u) := by
 unfold putK stored
 rw [r.any k]
 by_cases e : (vs.any fun kv => decide (kv.1 = k)) = true
 ·rw [ZAI e, ZAI e]; exact r.repl k ry
 ·rw [ZAJ e, ZAJ e]; exact Paired.snoc r ⟨rfl, ry⟩
theorem KV.drop {kvs : List (κ × V)} {vs : List (κ × Value)} (r : KV kvs vs) (k : κ) : KV (Yn4 kvs k) (without vs k) := by
 unfold KV at r ⊢
 unfold Yn4 without
 induction r with
 | nil => exact .nil
 | @cons p q ps qs h t ih =>
  show 245
  rw [ZBt, ZBt]
  show 203
  ·have a : ¬ decide (p.1 ≠ k) = true := by simp [e]
   have b : ¬ decide (q.1 ≠ k) = true := by simp [h1.symm.trans e]
   rw [ZAJ a, ZAJ b]; exact ih
  ·have e' : ¬ q.1 = k := fun z => e (h1.trans z)
   have a : decide (p.1 ≠ k) = true := by simp [e]
   have b : decide (q.1 ≠ k) = true := by simp [e']
   rw [ZAI a, ZAI b]; exact .cons ⟨h1, h2⟩ ih
theorem KV.keys {kvs : List (κ × V)} {vs : List (κ × Value)} (r : KV kvs vs) : kvs.map (·.1) = vs.map (·.1) := by
 unfold KV at r
 induction r with
 | nil => rfl
 | cons h t ih => rw [ZAe, ZAe, ih, h.1]
theorem KV.length {kvs : List (κ × V)} {vs : List (κ × Value)} (r : KV kvs vs) : kvs.length = vs.length := Paired.length r
end
theorem YaK {P : Program} {w : World} {k : Key} {u : Value} (r : RelV (kV k) u) : (Yk6 P w).is k u = true := by
 cases k with
 | inl i => obtain ⟨t, e⟩ := (show ∃ t, u = Value.int i t from r); subst e; exact YbT P w i t
 | inr x => obtain ⟨t, e⟩ := (show ∃ t, u = Value.str x t from r); subst e; exact Yb0 P w x t
theorem Ya7 {P : Program} {w : World} : ∀ {ks : List Key} {us : List Value}, Vals (ks.map kV) us -> ItemsAre (Yk6 P w) ks us
 | [], _, r => by rw [ZBh] at r; cases r; exact .nil
 | k :: ks, _, r => by
  rw [ZAe] at r
  cases r with
  | cons h t => exact .cons (YaK h) (Ya7 t)
abbrev KT (H : Hp) : List (List Key × V) -> List (List Key × Addr × Value) -> Prop := Paired fun p q => p.1 = q.1 /\ H q.2.1 = some (.tup (p.1.map kV)) /\ RelV p.2 q.2.2
theorem KT.val {H : Hp} {kvs : List (List Key × V)} {xs : List (List Key × Addr × Value)} (r : KT H kvs xs) (k : List Key) : Ymo (Yl6 kvs k) ((atKey xs k).map (·.2)) := by
 induction r with
 | nil => exact True.intro
 | @cons p q ps qs h t ih =>
  obtain ⟨h1, _, h2⟩ := h
  show 203
  ·have e' : q.1 = k := h1.symm.trans e
   have b : atKey (q :: qs) k = some q.2 := by simp [atKey, List.find?_cons, e']
   rw [Vw e, b]; exact h2
  ·have e' : ¬ q.1 = k := fun z => e (h1.trans z)
   have b : atKey (q :: qs) k = atKey qs k := by simp [atKey, List.find?_cons, e']
   rw [VC e, b]; exact ih
theorem KT.repl {H : Hp} {kvs : List (List Key × V)} {xs : List (List Key × Addr × Value)} (r : KT H kvs xs) (k : List Key) {y : V} {u : Value} (ry : RelV y u) :
 KT H (kvs.map fun kv => if kv.1 = k then (kv.1, y) else kv) (xs.map (putAt k u)) := by
 induction r with
 | nil => exact .nil
 | @cons p q ps qs h t ih =>
  rw [ZAe, ZAe]
  refine .cons ?_ ih
  obtain ⟨h1, h2, h3⟩ := h
  unfold putAt
  show 203
  ·rw [ZAI e, ZAI (h1.symm.trans e)]; exact ⟨h1, h2, ry⟩
  ·rw [ZAJ e, ZAJ (fun z => e (h1.trans z))]; exact ⟨h1, h2, h3⟩
theorem KT.put {H : Hp} {kvs : List (List Key × V)} {xs : List (List Key × Addr × Value)} (r : KT H kvs xs) (k : List Key) {b : Addr} {y : V} {u : Value} (hb : H b = some (.tup (k.map kV))) (ry : RelV y u) :
 KT H (putK kvs k y) (storedH xs k b u) := by
 have e : (kvs.any fun kv => decide (kv.1 = k)) = (atKey xs k).isSome := by
  rw [YcH, (r.val k).isSome_eq, ZCC]
 unfold putK storedH
 rw [e]
 by_cases q : (atKey xs k).isSome = true
 ·rw [ZAI q, ZAI q]; exact r.repl k ry
 ·rw [ZAJ q, ZAJ q]; exact Paired.snoc r ⟨rfl, hb, ry⟩
theorem KT.keeps {H H' : Hp} {kvs : List (List Key × V)} {xs : List (List Key × Addr × Value)} (r : KT H kvs xs) (ht : ∀ b ys, H b = some (.tup ys) -> H' b = some (.tup ys)) : KT H' kvs xs :=
 Paired.mapP r fun _ _ z => ⟨z.1, ht _ _ z.2.1, z.2.2⟩
section
variable {P : Program} {w : World} {H : Hp} {h : Heap} {a : Addr}
theorem Yh8 {u : HO} (ok : HOk P w H h) (e : Rd H a u) : Ylk P w H h a u := e.ok ok
theorem Jd {kvs : List (Key × V)} (ok : HOk P w H h) (e : Rd H a (.dK kvs)) : kvs.length <= sizeLine /\ (a == sysModules) = false /\ ∃ vs, KV kvs vs /\ h.DictOf (Yk6 P w) a vs :=
 show Ylk P w H h a (.dK kvs) from Yh8 ok e
theorem Ykm {kvs : List (Key × V)} (ok : HOk P w H h) (e : H a = some (.dK kvs)) : kvs.length <= sizeLine /\ (a == sysModules) = false /\ ∃ vs, KV kvs vs /\ h.DictOf (Yk6 P w) a vs := Jd ok (.inl e)
theorem VX {ks : List Key} (ok : HOk P w H h) (e : H a = some (.tup (ks.map kV))) : (tupleKind (Yk6 P w)).is h ks a := by
 obtain ⟨_, its, r, o, h1, h2, n, h3⟩ := (show Ylk P w H h a (.tup (ks.map kV)) from ok a _ e)
 exact ⟨o, its.toArray, n, h1, h2, h3, by simpa using Ya7 r⟩
theorem JM {kvs : List (List Key × V)} (ok : HOk P w H h) (e : Rd H a (.dT kvs)) : kvs.length <= sizeLine /\ (a == sysModules) = false /\
 ∃ xs, KT H kvs xs /\ h.DictOfH (tupleKind (Yk6 P w)) a xs := by
 obtain ⟨z, y, xs, r, o, es, ep, h1, h2, h3, h4, h5⟩ := (show Ylk P w H h a (.dT kvs) from Yh8 ok e)
 refine ⟨z, y, xs, r, o, es, ep, h1, h2, h3, h4, fun x hx => ?_, h5⟩
 have all : ∀ {l : List (List Key × V)} {m : List (List Key × Addr × Value)}, KT H l m -> ∀ x ∈ m, (tupleKind (Yk6 P w)).is h x.1 x.2.1 := by
  intro l m q
  induction q with
  | nil => intro x hx; exact nomatch hx
  | @cons p q ps qs hq t ih =>
   intro x hx
   rcases ZAV.mp hx with e | hx
   ·subst e
    exact VX ok (by rw [<- hq.1]; exact hq.2.1)
   ·exact ih x hx
 exact all r x hx
theorem Ykn {kvs : List (List Key × V)} (ok : HOk P w H h) (e : H a = some (.dT kvs)) : kvs.length <= sizeLine /\ (a == sysModules) = false /\
 ∃ xs, KT H kvs xs /\ h.DictOfH (tupleKind (Yk6 P w)) a xs := JM ok (.inl e)
end
def Ymj (H : Hp) (a : Addr) (y : V) (r : Option V) : Prop :=
 (∃ kvs k, Rd H a (.dK kvs) /\ y = kV k /\ r = Yl6 kvs k) \/ ∃ kvs k b, Rd H a (.dT kvs) /\ y = .ref b /\ H b = some (.tup (k.map kV)) /\ r = Yl6 kvs k
def YnA (H : Hp) (a : Addr) (y v : V) (H' : Hp) : Prop :=
 (∃ kvs k, H a = some (.dK kvs) /\ y = kV k /\ kvs.length < sizeLine /\ H' = upd H a (.dK (putK kvs k v))) \/
 ∃ kvs k b, H a = some (.dT kvs) /\ y = .ref b /\ H b = some (.tup (k.map kV)) /\ kvs.length < sizeLine /\ H' = upd H a (.dT (putK kvs k v))
theorem Ymj.k {H : Hp} {a : Addr} {kvs : List (Key × V)} {k : Key} (e : H a = some (.dK kvs)) : Ymj H a (kV k) (Yl6 kvs k) := .inl ⟨kvs, k, .inl e, rfl, rfl⟩
theorem YnA.k {H : Hp} {a : Addr} {kvs : List (Key × V)} {k : Key} {v : V} (e : H a = some (.dK kvs)) (hl : kvs.length < sizeLine) : YnA H a (kV k) v (upd H a (.dK (putK kvs k v))) := .inl ⟨kvs, k, e, rfl, hl, rfl⟩
section
variable {X : Cx} {pins : LAO} {σ : St} {H : Hp} {s : Shared} {a : Addr} {y v : V} {u r : Value} {o : Option V} {A : Around} {E : VSP}
theorem Inv.big (I : Inv X pins σ H s) : sysModules < s.heap.objs.size := by
 have h : mainGlobals < s.heap.objs.size := (I.mod.glob.keeps I.bk).lt
 exact Nat.lt_trans (by decide) h
theorem Yew {Q : VSP} (hu : A.units + 1 < cLine) (I : Inv X pins σ H s) (g : Ymj H a y (some v)) (ry : RelV y u) (h : ∀ w' s', Inv X pins σ H s' -> RelV v w' -> Q w' s') :
 wpAny (model X.prog X.w) A (getItem (.ref a) u) Q E s := by
 show 246
 ·show 58
  obtain ⟨w', hw, rw'⟩ := Ymo.some_of (v := v) (o := valueAt vs k) (by rw [l]; exact rel.val k)
  exact wpAny_getItem_of (YaK ry) dd.mapOf hw (h w' _ (I.tok _) rw')
 ·show 78
  obtain ⟨w', hw, rw'⟩ := Ymo.some_of (v := v) (o := (atKey xs k).map (·.2)) (by rw [l]; exact rel.val k)
  obtain ⟨p, hp, hp2⟩ := ZCT.mp hw
  refine wpAny_getItem_heap (tupleKind_room_in1 hu) (VX I.hok eb) dd hp ?_
  rw [hp2]
  exact h w' _ (I.tok _) rw'
theorem d_in {Q : VSP} (hu : A.units + 1 < cLine) (I : Inv X pins σ H s) (g : Ymj H a y o) (ry : RelV y u) (h : ∀ s', Inv X pins σ H s' -> Q (.bool o.isSome) s') :
 wpAny (model X.prog X.w) A (compareOp .In u (.ref a)) Q E s := by
 show 246
 ·show 58
  refine wpAny_in_of (YaK ry) hd dd.mapOf ?_
  rw [<- (rel.val k).isSome_eq, <- l]
  exact h _ (I.tok _)
 ·show 78
  refine wpAny_in_heap (tupleKind_room_in1 hu) (VX I.hok eb) hd dd ?_
  have q := (rel.val k).isSome_eq
  rw [ZCC] at q
  rw [<- q, <- l]
  exact h _ (I.tok _)
theorem Yhv {Q : VSP} (hu : A.units + 1 < cLine) (I : Inv X pins σ H s) (g : Ymj H a y o) (ry : RelV y u) (h : ∀ s', Inv X pins σ H s' -> Q (.bool (!o.isSome)) s') :
 wpAny (model X.prog X.w) A (compareOp .NotIn u (.ref a)) Q E s := by
 show 246
 ·show 58
  refine wpAny_notIn_of (YaK ry) hd dd.mapOf ?_
  rw [<- (rel.val k).isSome_eq, <- l]
  exact h _ (I.tok _)
 ·show 78
  refine wpAny_notIn_heap (tupleKind_room_in1 hu) (VX I.hok eb) hd dd ?_
  have q := (rel.val k).isSome_eq
  rw [ZCC] at q
  rw [<- q, <- l]
  exact h _ (I.tok _)
theorem Ydx {h' : Heap} {t' : Nat} {ob : HO} (I : Inv X pins σ H s) (mu : Mut (H a)) (hs : Heap.SameBut a s.heap h') (he : ∃ q, h'.get? a = some q) (new : Ylk X.prog X.w (upd H a ob) h' a ob) :
 Inv X pins σ (upd H a ob) { s with heap := h', toks := t' } :=
 I.write (x := a) (e := a) mu (.inl rfl) (fun b q hb z => (hs.2 b hb).trans z) he new
theorem YjI {P : Program} {w : World} {H' : Hp} {h' : Heap} {kvs : List (Key × V)} {vs : List (Key × Value)} (z : kvs.length <= sizeLine) (hd : (a == sysModules) = false) (rel : KV kvs vs) (dd : h'.DictOf (Yk6 P w) a vs) :
 Ylk P w H' h' a (.dK kvs) := ⟨z, hd, vs, rel, dd⟩
theorem YeF {H' : Hp} {Q : Unit -> Shared -> Prop} (hu : A.units + 1 < cLine) (I : Inv X pins σ H s) (g : YnA H a y v H') (ry : RelV y u) (rv : RelV v r) (h : ∀ s', Inv X pins σ H' s' -> Q () s') :
 wpAny (model X.prog X.w) A (setItem (.ref a) u r) Q E s := by
 rcases g with ⟨kvs, k, e, ey, l, eH⟩ | ⟨kvs, k, b, e, ey, eb, l, eH⟩
 ·subst ey eH
  obtain ⟨z, hd, vs, rel, dd⟩ := Ykm I.hok e
  have hz : vs.length <= sizeLine := by rw [<- rel.length]; exact z
  have hl : (putK kvs k v).length <= sizeLine := by have := Ji kvs k v; omega
  refine wpAny_setItem_pairs (hsz := hz) (YaK ry) dd fun h' dd' hs => h _ ?_
  have he : ∃ q, h'.get? a = some q := let ⟨q, _, _, hq, _⟩ := dd'; ⟨q, hq⟩
  exact Ydx I (by rw [e]; exact True.intro) hs he (YjI hl hd (rel.put k rv) dd')
 ·subst ey eH
  show 274
  obtain ⟨z, hd, xs, rel, dd⟩ := Ykn I.hok e
  have hz : xs.length <= sizeLine := by rw [<- Paired.length rel]; exact z
  have hl : (putK kvs k v).length <= sizeLine := by have := Ji kvs k v; omega
  refine wpAny_setItem_heap (hsz := hz) (tupleKind_room_in1 hu) (VX I.hok eb) dd fun h' dd' hs => h _ ?_
  obtain ⟨q, es, ep, hq, h2, h3, h4, _, h5⟩ := dd'
  refine Ydx I (by rw [e]; exact True.intro) hs ⟨q, hq⟩ ⟨hl, hd, _, (rel.put k eb rv).keeps fun c ys ec => ?_, q, es, ep, hq, h2, h3, h4, h5⟩
  rw [Yh (Yka ec e (fun z => nomatch z))]
  exact ec
end
section
variable {X : Cx} {pins : LAO} {σ : St} {H : Hp} {s : Shared} {a : Addr} {kvs : List (Key × V)} {k : Key} {u : Value} {A : Around} {E : VSP}
theorem YjU {Q : VSP} (I : Inv X pins σ H s) (e : Rd H a (.dK kvs)) (h : ∀ t s', Inv X pins σ H s' -> Q (.int kvs.length t) s') : wpAny (model X.prog X.w) A (call (.builtin "len") [.ref a]) Q E s := by
 show 280
 refine call_len_dict hd dd (by rw [<- rel.length]; rw [sizeLine_eq] at z; omega) ?_
 rw [<- rel.length]
 exact h _ _ (I.tok _)
end
theorem Yb1 {X : Cx} {pins : LAO} {σ : St} {H : Hp} {s : Shared} {a : Addr} {y : V} {o : Option V} (I : Inv X pins σ H s) (g : Ymj H a y o) : s.TypeIs (.ref a) "dict" := by
 rcases g with ⟨kvs, k, e, _, _⟩ | ⟨kvs, k, b, e, _, _, _⟩
 ·obtain ⟨_, _, vs, _, dd⟩ := Jd I.hok e
  exact dd.typeIs
 ·obtain ⟨_, _, xs, _, dd⟩ := JM I.hok e
  exact dd.typeIs
section
variable {X : Cx} {o i e value : Expr} {pos pos' tpos : Pos} {td ty tv : TE}
end
theorem Ygu {P : Program} {w : World} {H : Hp} (h : Heap) (hb : sysModules < h.objs.size) : Ylk P w H (h.push { cls := .type "dict", data := .dict #[] }) h.objs.size (.dK []) :=
 ⟨ZBZ _, beq_eq_false_iff_ne.mpr (ZA1 (ZAL hb)), [], .nil, Heap.DictOf.new h⟩
def Yok : TE := fun _ H Q => ∀ p, H p = none -> Q (.ref p) (upd H p (.dK []))
section
variable {X : Cx} {pos : Pos}
theorem YgQ : PE X (.Dict [] [] pos) Yok := fun pins s σ H Q I h =>
 wpAny_Dict_empty ⟨.ref s.heap.objs.size, _, I.laid (a := s.heap.objs.size) (o := .dK []) (t' := s.toks) (fun _ _ q => ZAB _ q) (ZAE _) (Ygu s.heap I.big), rfl, h _ (I.hok.fresh (ZAE _))⟩
end
structure M1 (X : Cx) (o : Expr) (m : Str) (apos : Pos) (e : Expr) (cpos : Pos) : Prop where
 base : attributeBase o m X.env (eval o X.env) = eval o X.env
 few : ((backTo cpos (starEach [e] X.env)).all (fun x => !x.1) && (backToKw cpos (keywordEach [] X.env)).all (fun x => x.1.isSome)
  && decide (([e] : List Expr).length + ([] : List Keyword).length + (if ([] : List Keyword).isEmpty then 0 else 1) < 30)) = true
 line : (apos.endLine == cpos.line) = true
 trees : backTo cpos (starEach [e] X.env) = [(false, eval e X.env)]
structure M2 (X : Cx) (o : Expr) (m : Str) (apos : Pos) (e f : Expr) (cpos : Pos) : Prop where
 base : attributeBase o m X.env (eval o X.env) = eval o X.env
 few : ((backTo cpos (starEach [e, f] X.env)).all (fun x => !x.1) && (backToKw cpos (keywordEach [] X.env)).all (fun x => x.1.isSome)
  && decide (([e, f] : List Expr).length + ([] : List Keyword).length + (if ([] : List Keyword).isEmpty then 0 else 1) < 30)) = true
 line : (apos.endLine == cpos.line) = true
 trees : backTo cpos (starEach [e, f] X.env) = [(false, eval e X.env), (false, eval f X.env)]
def IsD (H : Hp) (a : Addr) : Prop := (∃ kvs, Rd H a (.dK kvs)) \/ ∃ kvs, Rd H a (.dT kvs)
theorem Yjy {X : Cx} {pins : LAO} {σ : St} {H : Hp} {s : Shared} {a : Addr} (I : Inv X pins σ H s) (d : IsD H a) :
 s.TypeIs (.ref a) "dict" /\ (∀ b, Value.ref a = .ref b -> ∃ ob, s.heap.get? b = some ob /\ ob.dict = none) /\ (a == sysModules) = false := by
 rcases d with ⟨kvs, e⟩ | ⟨kvs, e⟩
 ·obtain ⟨_, hd, vs, _, dd⟩ := Jd I.hok e
  refine ⟨dd.typeIs, fun b q => ?_, hd⟩
  cases q
  obtain ⟨ob, _, _, h1, h2, _⟩ := dd
  exact ⟨ob, h1, h2.2.1⟩
 ·obtain ⟨_, hd, xs, _, dd⟩ := JM I.hok e
  refine ⟨dd.typeIs, fun b q => ?_, hd⟩
  cases q
  obtain ⟨ob, _, _, h1, h2, _⟩ := dd
  exact ⟨ob, h1, h2.2.1⟩
section
variable {X : Cx} {pins : LAO} {σ : St} {H : Hp} {s : Shared} {a : Addr} {y d : V} {u r : Value} {o : Option V} {A : Around} {E : VSP}
theorem YiQ {Q : VSP} (hu : A.units + 1 < cLine) (I : Inv X pins σ H s) (g : Ymj H a y o) (ry : RelV y u) (rd : RelV d r) (h : ∀ w' s', Inv X pins σ H s' -> RelV (o.getD d) w' -> Q w' s') :
 wpAny (model X.prog X.w) A (call (.builtin "dict.get") [.ref a, u, r]) Q E s := by
 show 246
 ·show 58
  refine call_meetsIn PySem.F.slot_dict_get dd.typeIs PySem.F.entry_dict_get (PySem.F.args_dict_get_3 _ _ _) (meets_dict_get_default (Yk6 X.prog X.w) a (YaK ry) hd r) ⟨_, dd.mapOf, h _ _ (I.tok _) ?_⟩
  rw [l]
  exact (rel.val k).getD rd
 ·show 78
  refine call_meetsIn PySem.F.slot_dict_get dd.typeIs PySem.F.entry_dict_get (PySem.F.args_dict_get_3 _ _ _) (meetsH_dict_get_default (tupleKind (Yk6 X.prog X.w)) a b hd r) ⟨tupleKind_room_in1 hu, k, xs, VX I.hok eb, dd, h _ _ (I.tok _) ?_⟩
  rw [l]
  exact (rel.val k).getD rd
end
def Yol (td ty tx : TE) : TE := fun σ H Q => td σ H fun x H1 => ∃ a, x = .ref a /\ IsD H1 a /\ ty σ H1 fun y H2 => tx σ H2 fun z H3 => ∃ o, Ymj H3 a y o /\ Q (o.getD z) H3
section
variable {X : Cx} {o e f : Expr} {apos cpos : Pos} {td ty tx : TE}
theorem Ygw (hu : X.A.units + 1 < cLine) (ho : PE X o td) (he : PE X e ty) (hf : PE X f tx) (m : M2 X o "get" apos e f cpos) : PE X (.Call (.Attribute o "get" apos) [e, f] [] cpos) (Yol td ty tx) := by
 show 168
 refine wpAny_Call_method m.base m.few m.line PySem.F.plainAttrs_dict PySem.F.slot_dict_get PySem.F.type_dict_get (thn (ho pins s σ H _ I h) fun u s1 ⟨x, H1, I1, rx, a, ex, d, q1⟩ => ?_)
 subst ex
 obtain rfl : u = Value.ref a := rx
 obtain ⟨t1, t2, _⟩ := Yjy I1 d
 refine ⟨t1, t2, ?_⟩
 rw [m.trees]
 refine Calls.callWith_builtin rfl (Calls.evalArgs_plain (Calls.spliced_cons (thn (he pins s1 σ H1 _ I1 q1) fun iv s2 ⟨y, H2, I2, ry, q2⟩ =>
  Calls.spliced_cons (thn (hf pins s2 σ H2 _ I2 q2) fun fv s3 ⟨z, H3, I3, rz, ov, g, q3⟩ => Calls.spliced_nil ?_))))
 exact YiQ hu I3 g ry rz fun w' s4 I4 rw' => ⟨_, H3, I4, rw', q3⟩
end
section
variable {X : Cx} {pins : LAO} {σ : St} {H : Hp} {s : Shared} {a : Addr} {kvs : List (Key × V)} {A : Around} {E : VSP}
end
section
variable {X : Cx} {pins : LAO} {σ : St} {H : Hp} {s : Shared} {a : Addr} {y : V} {u : Value} {A : Around} {E : VSP}
end
end L2
namespace Att
open PySem PySem.W PySem.Calls PyProof.Rows
theorem Jq {P : Params} {h : Heap} : ∀ (ns : List Int) (vs : List Value), WellAll P h vs (ns.map WData.int) -> IntsAre vs ns := by
 intro ns
 induction ns with
 | nil =>
  intro vs w
  rw [ZBh] at w
  cases w
  exact .nil
 | cons n ns ih =>
  intro vs w
  rw [ZAe] at w
  cases w with
  | cons a b =>
   cases a
   exact .cons _ _ (ih _ b)
theorem Yev {l : OpenLaw} {n : Nat} (hn : l.most = some n) {P : Params} {h : Heap} {args : List WData} {vals : List Value}
 (hpre : l.row.toRowW.claim.pre args = true) (hwl : WellAll P h vals args) :
 ∃ a vs ns, vals = [Value.ref a] /\ args = [WData.list (ns.map WData.int)] /\ h.get? a = some { cls := .type "list", data := .seq vs.toArray } /\ IntsAre vs ns /\ ns.length <= n := by
 have hsh : WShape.hasAll [] args [.list .int] = true := (pre_splitW hpre).1
 have hc : l.pre.holds [] { args := args } = true := (pre_splitW hpre).2
 obtain ⟨d, r, rfl, h1, h2⟩ := hasAllW_cons hsh
 obtain rfl := hasAllW_nil h2
 obtain ⟨xs, rfl, h3⟩ := hasW_list h1
 obtain ⟨ns, rfl⟩ := items_int h3
 have hlen : ns.length <= n := by
  unfold OpenLaw.pre at hc
  have h4 : (WTm.not (.lt (.lit (.int (n : Int))) (.len (.arg 0)))).holds [] { args := [.list (ns.map .int)] } = true := by
   have h4 := (holds_andW hc).1
   rw [hn] at h4
   exact h4
  have h5 := condW_of h4 (w_not (w_lt w_lit (w_len_list (w_arg rfl))))
  rw [ZAO] at h5
  refine Nat.le_of_not_lt fun q => ?_
  have q' : (n : Int) < ((ns.length : Nat) : Int) := by omega
  first
   | (rw [ZAS q'] at h5; exact absurd h5 (by decide))
   | (simp at h5; omega)
 cases hwl with
 | cons w1 w2 =>
  cases w2
  cases w1 with
  | list ho hall => exact ⟨_, _, ns, rfl, rfl, ho, Jq ns _ hall, hlen⟩
theorem YeL (l : OpenLaw) (args : List WData) : l.row.toRowW.claim.post args (.bool true) args = true :=
 postW_of (r := l.row.toRowW) (X := (true == true))
  (show WShape.has [] (.bool true) .bool = true by first | rfl | decide | simp [WShape.has, WShape.arms, WShape.armsAll])
  (show (WTm.eq .res (.lit (.bool true))).value [] { args := args, res := some (.bool true), after := args } = some (.bool (true == true)) from w_eq_bool (w_res rfl) w_lit) rfl
theorem attach_call {l : OpenLaw} {n : Nat} {q : Program} {loose : List Str} {XP : (Str -> Option Value) -> Heap -> Prop} {YP : World -> Heap -> Prop} {d : DefRec}
 (hn : l.most = some n) (hdf : d.params.defaults = [])
 (call : ∀ (w : World) (s₀ s₁ : Shared) (mg mb : SOV) (fa : Addr) (o : Obj) (pm cd doc : Value) (a : Addr) (vs : List Value) (ns : List Int),
  Ground q loose [] XP w s₀ mg mb s₁.heap -> YP w s₁.heap ->
  s₁.heap.get? fa = some o -> o.data = .func (docDef d.name d.params d.body d.scope pm cd doc) -> s₁.heap.CodeRec cd d.name -> mg d.name = some (.ref fa) ->
  s₁.heap.get? a = some { cls := .type "list", data := .seq vs.toArray } -> IntsAre vs ns -> ns.length <= n -> s₁.gens = #[] ->
  codeAny (model l.prog w) callerA (.call (.ref fa) ⟨[.ref a], []⟩) (fun r s' => r = .ok (.ret (.bool true)) /\ OldK s₁.heap s'.heap /\ s'.os = s₁.os /\ AllBare s'.gens) s₁) :
 WalkO q loose XP YP l.row.toRowW d [] (fun f vs => PySem.call f vs) := by
 intro w s₀ s₁ mg mb G Y fa o pm cd doc dV kV ho hd hcd hD hmg hg args vals as hpre hlay hrd hwl hlo
 obtain rfl : dV = .none := Dflts.none hD hdf
 obtain rfl : kV = .none := Dflts.noKw hD
 obtain ⟨a, vs, ns, rfl, rfl, hobj, hints, hlen⟩ := Yev hn hpre hwl
 refine enter_call (codeAny_mono (call w s₀ s₁ mg mb fa o pm cd doc a vs ns G Y ho (fd_plain hd) hcd hmg hobj hints hlen hg) fun r s' hq => ?_)
 obtain ⟨rfl, h2, h3, h4⟩ := hq
 exact ⟨.inl ⟨.bool true, .bool true, [], rfl, fun _ => rfl, .bool true, YeL l _, fun _ => ⟨List.Pairwise.nil, fun _ hm => (nomatch hm)⟩⟩, h2, h3, h4⟩
section
variable {prog : Program} {w : World} {A : Around} {E : VSP} {s : Shared} {K : Frag}
def ledger (h : Heap) (L d : Addr) : List (Addr × Obj) := (List.range h.objs.size).filterMap fun a => if a = L \/ a = d then none else (h.get? a).map fun o => (a, o)
end
end Att
namespace L2
open PySem PySem.Spec PyProof.Rows
theorem Ya3 : ∀ {vs : List Value} {ns : List Int}, IntsAre vs ns -> Vals (ns.map V.int) vs
 | _, _, .nil => .nil
 | _, _, .cons n t h => .cons ⟨t, rfl⟩ (Ya3 h)
def Only (H : Hp) : Prop := ∀ b, H b = none \/ ∃ o xs, H b = some (.frz o (.lst xs))
theorem YfQ {P : Program} {w : World} {K : Frag} {mg mb : SOV} {CX : CXT} {k : Nat} {fa a : Addr} {fd : FuncData} {x : Str} {sp : Sp} {s₁ : Shared} {vs : List Value} {ns : List Int}
 (KX : K.In s₁.heap) (hns : s₁.heap.Ns mainGlobals mg) (hb : s₁.heap.Ns builtinsNs mb) (hbb : ∀ x : Str, x ≠ "__name__" -> mb x = bootBuiltins x) (hlim : s₁.heap.NoLimit) (hg : s₁.gens = #[])
 (ha : s₁.heap.get? a = some { cls := .type "list", data := .seq vs.toArray }) (hi : IntsAre vs ns) (hl : ns.length <= sizeLine) (hr : Ylu k callerA)
 (F : ∀ base : Heap, K.In base -> base.Ns mainGlobals mg -> Ymb P w K mg base CX k fa fd [x] sp) (hbind : ∀ (s : Shared) (u : Value), BindsTo s fd ⟨[u], []⟩ [(x, u)])
 (hsp : ∀ H : Hp, Only H -> SqL K H a (ns.map V.int) -> sp [.ref a] H (fun v _ => v = .bl true) fun _ _ _ => False)
 (hCX : ∀ H e s', CX [] H s₁ (fun _ _ _ => False) e s' -> False) :
 codeAny (model P w) callerA (.call (.ref fa) ⟨[.ref a], []⟩) (fun r s' => r = .ok (.ret (.bool true)) /\ OldK s₁.heap s'.heap /\ s'.os = s₁.os /\ AllBare s'.gens) s₁ := by
 have rv := Ya3 hi
 have lenV := hi.length
 have core : ∀ H : Hp, Only H -> SqL K H a (ns.map V.int) -> HOk P w H s₁.heap -> (∀ b, H b ≠ none -> b = a) -> (H a ≠ none -> K.lookup a = none) ->
  codeAny (model P w) callerA (.call (.ref fa) ⟨[.ref a], []⟩) (fun r s' => r = .ok (.ret (.bool true)) /\ OldK s₁.heap s'.heap /\ s'.os = s₁.os /\ AllBare s'.gens) s₁ := by
  intro H hO hS hok hA hK
  have base_of : ∀ {b : Addr} {o : Obj}, s₁.heap.get? b = some o -> H b = none -> (YmV s₁.heap H).get? b = some o := fun e n => Yfk e n
  have noA : ∀ {b : Addr} {o : Obj} {es : Array DictEntry} {ep : Nat}, s₁.heap.get? b = some o -> o.data = .dict es ep -> H b = none := fun {b o es ep} e d => by
   cases q : H b with
   | none => rfl
   | some u =>
    have e' : b = a := hA b (by rw [q]; simp)
    subst e'
    rw [ha] at e; cases e
    have d' : Data.seq vs.toArray _ = Data.dict es ep := d
    cases d'
  have nsK : ∀ {b : Addr} {m : SOV}, s₁.heap.Ns b m -> (YmV s₁.heap H).Ns b m := fun {b m} ⟨o, es, ep, e, d, r⟩ => ⟨o, es, ep, base_of e (noA e d), d, r⟩
  have hKb : K.In (YmV s₁.heap H) := fun b o e => base_of (KX b o e) (by
   cases q : H b with
   | none => rfl
   | some u =>
    have e' : b = a := hA b (by rw [q]; simp)
    subst e'
    rw [hK (by rw [q]; simp)] at e; cases e)
  have hM : Mod K mg (YmV s₁.heap H) := ⟨hKb, nsK hns, ⟨mb, nsK hb, hbb⟩, let ⟨mc, h1, h2⟩ := hlim; ⟨mc, nsK h1, h2⟩⟩
  have e0 : Ync P w K mg (YmV s₁.heap H) callerA [] s₁ H := ⟨rfl, hM, fun b o e => YhE e, Nat.le_of_eq (Ye0 _ _), trivial, fun b hb => absurd (show b ∈ ([] : List Addr) from hb) (by simp), hok, .of_eq hg⟩
  refine codeAny_mono ((F _ hKb (nsK hns)).run callerA [] s₁ H ⟨[.ref a], []⟩ [.ref a] [.ref a] _ _ hr e0 (hbind s₁ (.ref a)) (.cons rfl .nil) (hsp H hO hS)) fun r s' h => ?_
  cases r with
  | error e => exact (hCX H e s' h).elim
  | ok fl =>
   cases fl with
   | next => exact False.elim h
   | brk => exact False.elim h
   | cont => exact False.elim h
   | ret u =>
    obtain ⟨v, H', os, bare, un, hok', r', q⟩ := h
    have q' : v = .bl true := q
    subst q'
    obtain rfl : u = Value.bool true := r'
    refine ⟨rfl, OldK.of_keep fun b o e => ?_, os, bare⟩
    cases q : H b with
    | none => exact un.keep b o e q (by intro z; exact absurd (show b ∈ ([] : List Addr) from z) (by simp)) (by simp)
    | some u =>
     rcases hO b with z | ⟨ob, xs, z⟩
     ·rw [q] at z; cases z
     ·have z2 := un.frzs b ob _ z
      obtain ⟨e1, _⟩ := hok b _ z
      obtain ⟨e2, _⟩ := hok' b _ z2
      rw [e] at e1; cases e1
      exact e2
 cases hk : K.lookup a with
 | some o =>
  have e := KX a o hk
  rw [ha] at e
  cases e
  refine core (fun _ => none) (fun _ => .inl rfl) (.inr ⟨_, vs.toArray, _, hk, rfl, rfl, rfl, by rw [List.size_toArray, lenV]; exact hl, by simpa using rv⟩) (fun b u z => by have z' : (none : Option HO) = some u := z; cases z') (fun b z => absurd rfl z) fun z => absurd rfl z
 | none =>
  refine core (fun b => if b = a then some (.frz { cls := .type "list", data := .seq vs.toArray } (.lst (ns.map V.int))) else none) (fun b => ?_) (.inl (.inr ⟨{ cls := .type "list", data := .seq vs.toArray }, ZAI rfl⟩)) (fun b u z => ?_) (fun b z => ?_) fun _ => hk
  ·show 214
   ·exact .inr ⟨_, _, ZAI hb⟩
   ·exact .inl (ZAJ hb)
  ·show 214
   ·have z' := (ZAI hb).symm.trans z
    cases z'
    subst hb
    exact ⟨ha, by rw [ZAO]; exact hl, vs, _, rv, ha⟩
   ·have z' := (ZAJ hb).symm.trans z
    cases z'
  ·show 214
   ·exact hb
   ·exact absurd (ZAJ hb) z
end L2
namespace L2
open PySem PySem.Spec PyProof.Rows
theorem walk_of {l : PySem.W.OpenLaw} {n k : Nat} {q : Program} {loose : List Str} {XP : (Str -> Option Value) -> Heap -> Prop} {YP : World -> Heap -> Prop} {d : DefRec} {K : Params -> Frag} {CX : World -> CXT} {sp : World -> Sp} {x : Str}
 (hn : l.most = some n) (hn2 : n <= sizeLine) (hdf : d.params.defaults = []) (hr : Ylu k callerA)
 (hY : ∀ (w : World) (h : Heap), YP w h -> (K w.params).In h)
 (F : ∀ (w : World) (mg : SOV) (fa : Addr) (h : Heap), (K w.params).In h -> h.Ns mainGlobals mg -> mg d.name = some (.ref fa) ->
  ∃ fd : FuncData, (∀ (s : Shared) (u : Value), BindsTo s fd ⟨[u], []⟩ [(x, u)]) /\
   ∀ base : Heap, (K w.params).In base -> base.Ns mainGlobals mg -> Ymb l.prog w (K w.params) mg base (CX w) k fa fd [x] (sp w))
 (hsp : ∀ (w : World) (H : Hp) (a : Addr) (ns : List Int), ns.length <= n -> Only H -> SqL (K w.params) H a (ns.map V.int) -> sp w [.ref a] H (fun v _ => v = .bl true) fun _ _ _ => False)
 (hCX : ∀ (w : World) (H : Hp) (s : Shared) (e : Value) (s' : Shared), CX w [] H s (fun _ _ _ => False) e s' -> False) :
 PySem.W.WalkO q loose XP YP l.row.toRowW d [] (fun f vs => PySem.call f vs) := by
 refine Att.attach_call hn hdf fun w s₀ s₁ mg mb fa o pm cd doc a vs ns G Y ho hd hcd hmg hobj hints hlen hg => ?_
 have KX := hY w _ Y
 obtain ⟨fd, hb, hF⟩ := F w mg fa _ KX G.T.g hmg
 exact YfQ KX G.T.g G.T.b G.T.builtins G.T.nolimit hg hobj hints (ZAH hlen hn2) hr hF hb (fun H hO hS => hsp w H a ns hlen hO hS) fun H e s' => hCX w H s₁ e s'
end L2
namespace L2
open PySem PySem.Spec PyProof.Rows
def YkS (s : Stmt) : Arguments := match s with
 | .FunctionDef _ a _ _ _ _ _ _ _ _ => a
 | _ => { posonlyargs := [], args := [], vararg := none, kwonlyargs := [], kw_defaults := [], kwarg := none, defaults := [] }
def YkQ (s : Stmt) : List Stmt := match s with
 | .FunctionDef _ _ b _ _ _ _ _ _ _ => b
 | _ => []
def YkL (s : Stmt) : Scope := match s with
 | .FunctionDef _ _ _ _ _ _ sc _ _ _ => sc
 | _ => { kind := .function, names := [], isGenerator := false, isCoroutine := false }
abbrev CX0 : CXT := fun _ _ _ _ _ _ => False
abbrev E0 : XK := fun _ _ _ => False
theorem pass0 {X : Cx} : Yne CX0 X E0 := fun _ _ _ _ _ _ _ h => h.elim
structure Fun (K : Frag) (x qual : Str) (st : Stmt) (f : Addr) (fd : FuncData) : Prop where
 ex : ∃ (oc : Value) (od : Option Addr) (kV doc pm : Value) (an : Option Addr) (cdv ct : Value) (osl : Array (Option Value)),
  fd = fnOf x qual (YkS st) (YkQ st) (YkL st) .none kV doc pm an cdv ct /\ K.lookup f = some ⟨oc, od, .func fd, osl⟩ /\ PySem.W.codeIn K cdv qual = true
 kp : PySem.W.keepIn K (.ref f) = true
section
variable {P : Program} {w : World} {K : Frag} {mg : SOV} {base : Heap}
theorem Fun.ok {x qual : Str} {st : Stmt} {f : Addr} {fd : FuncData} {N ps : List Str} {k : Nat} {sp : Sp} (F : Fun K x qual st f fd) (S : YkU N ps (YkL st)) (len : ∀ vs H Q E, sp vs H Q E -> vs.length = ps.length)
 (hbody : ∀ (cdv : Value) (A : Around) (outer : List Env) (s : Shared) (H : Hp) (vs : List V) (Q : VK) (E : XK), Ylu k (A.deeper (envOfC qual (YkL st) s.heap.objs.size f cdv)) -> sp vs H Q E ->
  ∃ t, PSs (YlY CX0 P w K mg base N qual (YkL st) f cdv A outer s H E).nox (YkQ st) t /\ t { nx := fun _ H' => Q .non H', rt := Q } (start N vs) H) : Ymb P w K mg base CX0 (k + 1) f fd ps sp := by
 obtain ⟨oc, od, kV, doc, pm, an, cdv, ct, osl, rfl, lk, hcd⟩ := F.ex
 refine Yh3 lk hcd S len fun A outer s H vs Q E hr hsp => ?_
 obtain ⟨t, h, q⟩ := hbody cdv A outer s H vs Q E hr hsp
 exact ⟨t, h.nox, q⟩
theorem Fun.binds {x qual : Str} {st : Stmt} {f : Addr} {fd : FuncData} {ps : List Str} (F : Fun K x qual st f fd)
 (h : ∀ (kV doc pm : Value) (an : Option Addr) (cdv ct : Value) (us : List Value), us.length = ps.length -> bindArgs (fnOf x qual (YkS st) (YkQ st) (YkL st) .none kV doc pm an cdv ct) ⟨us, []⟩ = pure (ps.zip us)) : Binds K fd ps [] := by
 obtain ⟨oc, od, kV, doc, pm, an, cdv, ct, osl, rfl, lk, hcd⟩ := F.ex
 exact .all (h kV doc pm an cdv ct)
theorem Yc3 {x qual : Str} {st : Stmt} {f : Addr} {oc : Value} {od an : Option Addr} {osl : Array (Option Value)} {kV doc pm cdv ct : Value} (l : K.lookup f = some ⟨oc, od, .func (fnOf x qual (YkS st) (YkQ st) (YkL st) .none kV doc pm an cdv ct), osl⟩)
 (c : PySem.W.codeIn K cdv qual = true) (k : PySem.W.keepIn K (.ref f) = true) : Fun K x qual st f (fnOf x qual (YkS st) (YkQ st) (YkL st) .none kV doc pm an cdv ct) := ⟨⟨oc, od, kV, doc, pm, an, cdv, ct, osl, rfl, l, c⟩, k⟩
end
theorem YX {A : Around} {k : Nat} (hr : Ylu k A) : A.units + 1 < cLine := ZB4 (Nat.add_le_add_left (by decide : 1 <= 64) _) hr.units
section
variable {X : Cx}
theorem pv (i : Nat) {x : Str} {pos : Pos} (hN : X.N[i]? = some x := by rfl) (hv : Vis X.env.scope x := by first | exact Or.inl rfl | exact Or.inr (Or.inl rfl) | exact Or.inr (Or.inr rfl)) (hd : (x == ("__debug__" : Str)) = false := by decide)
 (hcd : (x == ("__classdict__" : Str)) = false := by decide) : PE X (.Name x pos) (Yn6 i) := Ygn hN hv hd hcd
end
def Ym5 (H H' : Hp) : Prop := ∀ b o, H b = some o -> H' b = some o
theorem Ym5.refl (H : Hp) : Ym5 H H := fun _ _ h => h
theorem Ym5.trans {H H1 H2 : Hp} (a : Ym5 H H1) (b : Ym5 H1 H2) : Ym5 H H2 := fun c o h => b c o (a c o h)
theorem Ym5.free {H H' : Hp} (e : Ym5 H H') {l : Addr} (h : H' l = Option.none) : H l = Option.none := by
 cases q : H l with
 | none => rfl
 | some o =>
  rw [e l o q] at h
  cases h
end L2
namespace L2
open PySem PySem.Spec PyProof.Rows
section
variable {X : Cx}
theorem Yej : YlD X (.builtin "len") (fun xs H Q => ∃ a kvs, xs = [V.ref a] /\ H a = some (.dK kvs) /\ Q (.int kvs.length) H) := by
 show 224
 obtain ⟨a, kvs, rfl, ha, q⟩ := h
 obtain ⟨u, rfl, ru⟩ := vals1 r
 cases ru
 exact YjU I (.inl ha) fun t s' I' => ⟨.int kvs.length, H, I', ⟨t, rfl⟩, q⟩
end
section
variable {κ : Type} [DecidableEq κ]
end
end L2
namespace Mi
open PySem PySem.Spec L2
open PyProof.Rows hiding St
inductive P where
 | non | bl (b : Bool) | int (i : Int) | str (x : Str) | tup (xs : List P) | ref (k : Nat)
inductive O where
 | lst (xs : List P) | ro (xs : List P) | dct (kvs : List (Key × P)) | exc (c : Str) (fs : List (Str × P)) | dtt (kvs : List (List Key × P)) | fdc (kvs : List (Key × P))
abbrev YkJ := List O
abbrev Rho := List (Option P)
mutual
inductive Den (K : Frag) (as : List Addr) (H : Hp) : V -> P -> Prop where
 | non : Den K as H .non .non
 | bl {b} : Den K as H (.bl b) (.bl b)
 | int {i} : Den K as H (.int i) (.int i)
 | str {x} : Den K as H (.str x) (.str x)
 | ref {k a} : as[k]? = some a -> Den K as H (.ref a) (.ref k)
 | tup {a vs ps} (sq : SqT K H a vs) (ds : Dens K as H vs ps) (tk : H a = some (.tup vs) := by first | assumption | exact Yl) : Den K as H (.ref a) (.tup ps)
inductive Dens (K : Frag) (as : List Addr) (H : Hp) : List V -> List P -> Prop where
 | nil : Dens K as H [] []
 | cons {v p vs ps} : Den K as H v p -> Dens K as H vs ps -> Dens K as H (v :: vs) (p :: ps)
end
def Mu : HO -> Prop
 | .lst _ => True
 | .dK _ => True
 | .dT _ => True
 | _ => False
structure Ext (as : List Addr) (H : Hp) (as' : List Addr) (H' : Hp) : Prop where
 pre : ∀ (k : Nat) a, as[k]? = some a -> as'[k]? = some a
 keep : ∀ b u, H b = some u -> ¬ Mu u -> H' b = some u
theorem Ext.refl {as : List Addr} {H : Hp} : Ext as H as H := ⟨fun _ _ e => e, fun _ _ e _ => e⟩
theorem Ext.trans {as as1 as2 : List Addr} {H H1 H2 : Hp} (a : Ext as H as1 H1) (b : Ext as1 H1 as2 H2) : Ext as H as2 H2 :=
 ⟨fun k x e => b.pre k x (a.pre k x e), fun c u e m => b.keep c u (a.keep c u e m) m⟩
theorem SqT.ext {K : Frag} {as as' : List Addr} {H H' : Hp} {a : Addr} {vs : List V} (x : Ext as H as' H') (h : SqT K H a vs) : SqT K H' a vs := by
 rcases h with (h | ⟨o, h⟩) | h
 ·exact .inl (.inl (x.keep _ _ h fun z => z))
 ·exact .inl (.inr ⟨o, x.keep _ _ h fun z => z⟩)
 ·exact .inr h
mutual
theorem Den.ext {K : Frag} {as as' : List Addr} {H H' : Hp} {v : V} {p : P} (x : Ext as H as' H') (h : Den K as H v p) : Den K as' H' v p :=
 match h with
 | .non => .non
 | .bl => .bl
 | .int => .int
 | .str => .str
 | .ref e => .ref (x.pre _ _ e)
 | .tup e r t => .tup (SqT.ext x e) (Dens.ext x r) (x.keep _ _ t fun z => z)
theorem Dens.ext {K : Frag} {as as' : List Addr} {H H' : Hp} {vs : List V} {ps : List P} (x : Ext as H as' H') (h : Dens K as H vs ps) : Dens K as' H' vs ps :=
 match h with
 | .nil => .nil
 | .cons a r => .cons (Den.ext x a) (Dens.ext x r)
end
section
variable {K : Frag} {as : List Addr} {H : Hp}
theorem Dens.length : ∀ {vs : List V} {ps : List P}, Dens K as H vs ps -> vs.length = ps.length
 | _, _, .nil => rfl
 | _, _, .cons _ r => by simp [Dens.length r]
theorem Dens.get : ∀ {vs : List V} {ps : List P} {i : Nat} {p : P}, Dens K as H vs ps -> ps[i]? = some p -> ∃ v, vs[i]? = some v /\ Den K as H v p
 | _, _, _, _, .nil, e => by simp at e
 | _, _, 0, _, .cons a _, e => by simp at e; subst e; exact ⟨_, rfl, a⟩
 | _, _, i + 1, _, .cons _ r, e => by
  obtain ⟨v, h1, h2⟩ := Dens.get (i := i) r (by simpa using e)
  exact ⟨v, by simpa using h1, h2⟩
theorem Dens.append : ∀ {vs ws : List V} {ps qs : List P}, Dens K as H vs ps -> Dens K as H ws qs -> Dens K as H (vs ++ ws) (ps ++ qs)
 | _, _, _, _, .nil, s => s
 | _, _, _, _, .cons a r, s => .cons a (Dens.append r s)
theorem Dens.set {v : V} {p : P} (d : Den K as H v p) : ∀ {vs : List V} {ps : List P} (i : Nat), Dens K as H vs ps -> Dens K as H (vs.set i v) (ps.set i p)
 | _, _, _, .nil => .nil
 | _, _, 0, .cons _ t => .cons d t
 | _, _, i + 1, .cons q t => .cons q (Dens.set d i t)
theorem Dens.take : ∀ {vs : List V} {ps : List P} (n : Nat), Dens K as H vs ps -> Dens K as H (vs.take n) (ps.take n)
 | _, _, 0, _ => .nil
 | _, _, _ + 1, .nil => .nil
 | _, _, n + 1, .cons r t => .cons r (Dens.take n t)
theorem Dens.drop : ∀ {vs : List V} {ps : List P} (n : Nat), Dens K as H vs ps -> Dens K as H (vs.drop n) (ps.drop n)
 | _, _, 0, r => r
 | _, _, _ + 1, .nil => .nil
 | _, _, n + 1, .cons _ t => Dens.drop n t
theorem Dens.reverse : ∀ {vs : List V} {ps : List P}, Dens K as H vs ps -> Dens K as H vs.reverse ps.reverse
 | _, _, .nil => .nil
 | _, _, .cons r t => by rw [ZBr, ZBr]; exact (Dens.reverse t).append (.cons r .nil)
end
def Ypd (a : Addr) (C : Value) (od : Option Addr) (h : Heap) : Prop := ∃ o vs, h.get? a = some o /\ o.cls = C /\ o.dict = od /\ o.data = .fields vs
def Ynu (K : Frag) (as : List Addr) (H : Hp) (od : Option Addr) (fs : List (Str × P)) : Prop :=
 (od = none /\ fs = []) \/ ∃ d ws, od = some d /\ H d = some (.xd ws) /\ ws.map (·.1) = fs.map (·.1) /\ Dens K as H (ws.map (·.2)) (fs.map (·.2))
theorem Ynu.ext {K : Frag} {as as' : List Addr} {H H' : Hp} {od : Option Addr} {fs : List (Str × P)} (x : Ext as H as' H') (h : Ynu K as H od fs) : Ynu K as' H' od fs := by
 rcases h with h | ⟨d, ws, h4, h5, h6, h7⟩
 ·exact .inl h
 ·exact .inr ⟨d, ws, h4, x.keep _ _ h5 fun z => z, h6, h7.ext x⟩
def YmE (K : Frag) (as : List Addr) (H : Hp) (a : Addr) : O -> Prop
 | .lst xs => ∃ vs, H a = some (.lst vs) /\ Dens K as H vs xs
 | .ro xs => ∃ vs, ((∃ o, H a = some (.frz o (.lst vs))) \/ ∃ (o : Obj) (its : Array Value) (n : Nat), K.lookup a = some o /\ o.cls = .type "list" /\ o.dict = none /\ o.data = .seq its n /\ its.size <= sizeLine /\ Vals vs its.toList) /\ Dens K as H vs xs
 | .dct kvs => ∃ ws, H a = some (.dK ws) /\ ws.map (·.1) = kvs.map (·.1) /\ Dens K as H (ws.map (·.2)) (kvs.map (·.2))
 | .exc c fs => ∃ C od, nsIn K mainGlobals c = some (some (.ref C)) /\ H a = some (.ext (Ypd a (.ref C) od)) /\ Ynu K as H od fs
 | .dtt kvs => ∃ ws, H a = some (.dT ws) /\ ws.map (·.1) = kvs.map (·.1) /\ Dens K as H (ws.map (·.2)) (kvs.map (·.2))
 | .fdc kvs => ∃ o ws, H a = some (.frz o (.dK ws)) /\ ws.map (·.1) = kvs.map (·.1) /\ Dens K as H (ws.map (·.2)) (kvs.map (·.2))
def Yl9 : Option O -> Prop
 | some (.ro _) => True
 | _ => False
structure Rep (K : Frag) (as : List Addr) (st : YkJ) (H : Hp) : Prop where
 len : as.length = st.length
 nd : ∀ (i j : Nat) a, as[i]? = some a -> as[j]? = some a -> ¬ Yl9 st[i]? -> ¬ Yl9 st[j]? -> i = j
 ob : ∀ (k : Nat) a o, as[k]? = some a -> st[k]? = some o -> YmE K as H a o
section
variable {K : Frag} {as as' : List Addr} {H H' : Hp} {st : YkJ}
theorem YmE.ext {a : Addr} {o : O} (x : Ext as H as' H') (hm : ∀ u, H a = some u -> H' a = some u) (h : YmE K as H a o) : YmE K as' H' a o := by
 cases o with
 | lst xs => obtain ⟨vs, h1, h2⟩ := h; exact ⟨vs, hm _ h1, h2.ext x⟩
 | ro xs =>
  obtain ⟨vs, h1, h2⟩ := h
  refine ⟨vs, ?_, h2.ext x⟩
  rcases h1 with ⟨o, h1⟩ | h1
  ·exact .inl ⟨o, hm _ h1⟩
  ·exact .inr h1
 | dct kvs => obtain ⟨ws, h1, h2, h3⟩ := h; exact ⟨ws, hm _ h1, h2, h3.ext x⟩
 | exc c fs =>
  obtain ⟨C, od, h1, h2, h3⟩ := h
  exact ⟨C, od, h1, hm _ h2, h3.ext x⟩
 | dtt kvs => obtain ⟨ws, h1, h2, h3⟩ := h; exact ⟨ws, hm _ h1, h2, h3.ext x⟩
 | fdc kvs => obtain ⟨o, ws, h1, h2, h3⟩ := h; exact ⟨o, ws, hm _ h1, h2, h3.ext x⟩
theorem Rep.tracked (r : Rep K as st H) {k : Nat} {a : Addr} (e : as[k]? = some a) (n : ¬ Yl9 st[k]?) : ∃ u, H a = some u := by
 have hk : k < st.length := by rw [<- r.len]; exact (ZAG.mp e).1
 have q : st[k]? = some st[k] := by simp [hk]
 have h := r.ob k a _ e q
 rw [q] at n
 cases w : st[k] with
 | lst xs => rw [w] at h; obtain ⟨vs, h1, _⟩ := h; exact ⟨_, h1⟩
 | ro xs => rw [w] at n; exact absurd trivial n
 | dct kvs => rw [w] at h; obtain ⟨vs, h1, _⟩ := h; exact ⟨_, h1⟩
 | exc c fs => rw [w] at h; obtain ⟨C, od, _, h2, _⟩ := h; exact ⟨_, h2⟩
 | dtt kvs => rw [w] at h; obtain ⟨vs, h1, _⟩ := h; exact ⟨_, h1⟩
 | fdc kvs => rw [w] at h; obtain ⟨o, vs, h1, _⟩ := h; exact ⟨_, h1⟩
theorem Ext.new {p : Addr} {u : HO} (hp : H p = none) : Ext as H (as ++ [p]) (upd H p u) where
 pre := fun k a e => by rw [ZAt (ZAG.mp e).1]; exact e
 keep := fun b w e _ => by rw [Yh (Yf e hp)]; exact e
theorem Ext.laid {p : Addr} {u : HO} (hp : H p = none) : Ext as H as (upd H p u) where
 pre := fun k a e => e
 keep := fun b w e _ => by rw [Yh (Yf e hp)]; exact e
theorem Rep.laid {p : Addr} {u : HO} (r : Rep K as st H) (hp : H p = none) : Rep K as st (upd H p u) :=
 ⟨r.len, r.nd, fun k a o e q => (r.ob k a o e q).ext (Ext.laid hp) fun w z => by rw [Yh (Yf z hp)]; exact z⟩
def YmJ (as : List Addr) (st : YkJ) (l : Addr) : Prop := ∀ i : Nat, as[i]? = some l -> Yl9 st[i]?
theorem Rep.fresh {p : Addr} (r : Rep K as st H) (hp : H p = none) : YmJ as st p := fun i e => by
 by_cases h : Yl9 st[i]?
 ·exact h
 ·obtain ⟨u, hu⟩ := r.tracked e h
  rw [hp] at hu; cases hu
theorem Ext.add {p : Addr} : Ext as H (as ++ [p]) H where
 pre := fun k a e => by rw [ZAt (ZAG.mp e).1]; exact e
 keep := fun b w e _ => e
theorem Rep.add {p : Addr} {o : O} (r : Rep K as st H) (fr : YmJ as st p) (ho : YmE K (as ++ [p]) H p o) : Rep K (as ++ [p]) (st ++ [o]) H where
 len := by simp [r.len]
 nd := fun i j a hi hj ni nj => by
  have hl := r.len
  have key : ∀ (i : Nat), (as ++ [p])[i]? = some a -> (¬ Yl9 (st ++ [o])[i]?) -> (i < as.length /\ as[i]? = some a /\ (¬ Yl9 st[i]?)) \/ (i = as.length /\ a = p) := fun i hi ni => by
   by_cases h : i < as.length
   ·rw [ZAt h] at hi
    rw [ZAt (by omega)] at ni
    exact .inl ⟨h, hi, ni⟩
   ·have h' : i < (as ++ [p]).length := (ZAG.mp hi).1
    rw [ZAK, ZAW] at h'
    have e : i = as.length := by omega
    subst e
    rw [ZBQ (ZAE _)] at hi
    simp at hi
    exact .inr ⟨rfl, hi.symm⟩
  rcases key i hi ni with ⟨a1, a2, a3⟩ | ⟨a1, a2⟩
  ·rcases key j hj nj with ⟨b1, b2, b3⟩ | ⟨b1, b2⟩
   ·exact r.nd i j a a2 b2 a3 b3
   ·subst b2; exact absurd (fr i a2) a3
  ·rcases key j hj nj with ⟨b1, b2, b3⟩ | ⟨b1, b2⟩
   ·subst a2; exact absurd (fr j b2) b3
   ·omega
 ob := fun k a q hk hq => by
  have hl := r.len
  by_cases h : k < as.length
  ·rw [ZAt h] at hk
   rw [ZAt (by omega)] at hq
   exact (r.ob k a q hk hq).ext Ext.add fun w z => z
  ·have h' : k < (as ++ [p]).length := (ZAG.mp hk).1
   rw [ZAK, ZAW] at h'
   have e : k = as.length := by omega
   subst e
   rw [ZBQ (ZAE _)] at hk
   rw [ZBQ (by omega)] at hq
   simp at hk
   simp [hl] at hq
   subst hk; subst hq
   exact ho
theorem Rep.new {p : Addr} {u : HO} {o : O} (r : Rep K as st H) (hp : H p = none) (ho : YmE K (as ++ [p]) (upd H p u) p o) : Rep K (as ++ [p]) (st ++ [o]) (upd H p u) :=
 (r.laid hp).add (r.fresh hp) ho
theorem Yby {p : Addr} : (as ++ [p])[as.length]? = Option.some p := by simp
theorem Rep.lnew {p : Addr} {vs : List V} {xs : List P} (r : Rep K as st H) (hp : H p = none) (d : Dens K as H vs xs) : Rep K (as ++ [p]) (st ++ [.lst xs]) (upd H p (.lst vs)) :=
 r.new hp ⟨vs, Yl, d.ext (Ext.new hp)⟩
theorem Ext.write {a : Addr} {u w : HO} (ha : H a = Option.some w) (mu : Mu w) : Ext as H as (upd H a u) where
 pre := fun k a e => e
 keep := fun b z e m => by
  rw [Yh]
  ·exact e
  ·rintro rfl
   rw [ha] at e; cases e
   exact m mu
theorem Rep.write {k : Nat} {a : Addr} {u w : HO} {o : O} (r : Rep K as st H) (hk : as[k]? = Option.some a) (ha : H a = Option.some w) (mu : Mu w) (no : ¬ Yl9 (Option.some o)) (nr : ¬ Yl9 st[k]?) (ho : YmE K as (upd H a u) a o) : Rep K as (st.set k o) (upd H a u) where
 len := by rw [ZBX]; exact r.len
 nd := fun i j b hi hj ni nj => by
  have key : ∀ (i : Nat), as[i]? = Option.some b -> (¬ Yl9 (st.set k o)[i]?) -> ¬ Yl9 st[i]? := fun i hi ni z => by
   by_cases h : k = i
   ·subst h; exact nr z
   ·rw [ZAy h] at ni; exact ni z
  exact r.nd i j b hi hj (key i hi ni) (key j hj nj)
 ob := fun i b q hi hq => by
  have hkl : k < st.length := by rw [<- r.len]; exact (ZAG.mp hk).1
  by_cases h : k = i
  ·subst h
   rw [hk] at hi; cases hi
   rw [ZAh hkl] at hq
   cases hq
   exact ho
  ·rw [ZAy h] at hq
   have old := r.ob i b q hi hq
   show 214
   ·subst hb
    by_cases hr : Yl9 st[i]?
    ·rw [hq] at hr
     cases q with
     | ro xs =>
      obtain ⟨vs, h1, h2⟩ := old
      refine ⟨vs, ?_, h2.ext (Ext.write ha mu)⟩
      rcases h1 with ⟨ob, h1⟩ | h1
      ·rw [ha] at h1; cases h1; exact mu.elim
      ·exact .inr h1
     | _ => exact hr.elim
    ·exact absurd (r.nd k i b hk hi nr hr) h
   ·exact old.ext (Ext.write ha mu) fun w z => by rw [Yh hb]; exact z
theorem Rep.lset {k : Nat} {a : Addr} {vs vs' : List V} {xs xs' : List P} (r : Rep K as st H) (hk : as[k]? = Option.some a) (ha : H a = Option.some (.lst vs)) (hs : st[k]? = Option.some (.lst xs)) (d : Dens K as H vs' xs') : Rep K as (st.set k (.lst xs')) (upd H a (.lst vs')) :=
 r.write hk ha trivial (fun z => z) (by rw [hs]; exact fun z => z) ⟨vs', Yl, d.ext (Ext.write ha trivial)⟩
end
abbrev Xc := Str × List (Str × P)
inductive R (α : Type) where
 | ok (a : α) (st : YkJ)
 | exc (k : Xc) (st : YkJ)
 | bad
def R.bind {α β : Type} (r : R α) (f : α -> YkJ -> R β) : R β :=
 match r with
 | .ok a st => f a st
 | .exc k st => .exc k st
 | .bad => .bad
@[simp] theorem R.bind_ok {α β : Type} {a : α} {st : YkJ} {f : α -> YkJ -> R β} : (R.ok a st).bind f = f a st := rfl
@[simp] theorem R.bind_exc {α β : Type} {k : Xc} {st : YkJ} {f : α -> YkJ -> R β} : (R.exc k st : R α).bind f = .exc k st := rfl
@[simp] theorem R.bind_bad {α β : Type} {f : α -> YkJ -> R β} : (R.bad : R α).bind f = .bad := rfl
def ofO {α : Type} : Option (α × YkJ) -> R α
 | some (a, st) => .ok a st
 | none => .bad
@[simp] theorem WL {α : Type} {a : α} {st : YkJ} : ofO (some (a, st)) = .ok a st := rfl
@[simp] theorem YfL {α : Type} : ofO (none : Option (α × YkJ)) = .bad := rfl
abbrev ME := Rho -> YkJ -> R P
abbrev MT := Rho -> YkJ -> R Bool
abbrev MA := Rho -> YkJ -> R (List P)
inductive RS where
 | nx (ρ : Rho) (st : YkJ)
 | rt (p : P) (st : YkJ)
 | bk (ρ : Rho) (st : YkJ)
 | ct (ρ : Rho) (st : YkJ)
 | exc (k : Xc) (ρ : Rho) (st : YkJ)
 | bad
abbrev MS := Rho -> YkJ -> RS
structure YkZ (K : Frag) (as : List Addr) (H : Hp) (ρ : Rho) (σ : St) : Prop where
 len : ρ.length = σ.length
 val : ∀ (i : Nat) p, ρ[i]? = some (some p) -> ∃ v, σ[i]? = some (some v) /\ Den K as H v p
theorem YkZ.ext {K : Frag} {as as' : List Addr} {H H' : Hp} {ρ : Rho} {σ : St} (x : Ext as H as' H') (h : YkZ K as H ρ σ) : YkZ K as' H' ρ σ :=
 ⟨h.len, fun i p e => let ⟨v, h1, h2⟩ := h.val i p e; ⟨v, h1, h2.ext x⟩⟩
theorem YkZ.set {K : Frag} {as : List Addr} {H : Hp} {ρ : Rho} {σ : St} {i : Nat} {p : P} {v : V} (h : YkZ K as H ρ σ) (d : Den K as H v p) : YkZ K as H (ρ.set i (some p)) (σ.set i (some v)) :=
 ⟨by simp [h.len], fun j q e => by
  have hl := h.len
  by_cases hj : i = j
  ·subst hj
   by_cases hi : i < ρ.length
   ·rw [ZAh hi] at e
    cases e
    exact ⟨v, by rw [ZAh (by omega)], d⟩
   ·rw [ZCL (by omega)] at e
    have := (ZAG.mp e).1
    omega
  ·rw [ZAy hj] at e
   obtain ⟨w, h1, h2⟩ := h.val j q e
   exact ⟨w, by rw [ZAy hj]; exact h1, h2⟩⟩
structure YlV (Nw : Addr -> Prop) (H : Hp) (a : Addr) (C : Value) (od : Option Addr) (h : Heap) : Prop where
 na : Nw a
 ha : H a = none
 tr : ∃ oe vs, h.get? a = some oe /\ oe.cls = C /\ oe.dict = od /\ oe.data = .fields vs /\ (vs[1]? = some .none \/
  ∃ T oT ts, vs[1]? = some (.ref T) /\ Nw T /\ H T = none /\ T ≠ a /\ h.get? T = some oT /\ oT.data = .fields ts /\ 3 < ts.size)
theorem YlV.mono {N N' : Addr -> Prop} {H : Hp} {a : Addr} {C : Value} {od : Option Addr} {h : Heap} (f : YlV N H a C od h) (i : ∀ b, N b -> N' b) : YlV N' H a C od h := by
 obtain ⟨n, e, oe, vs, h1, h2, h3, h4, h5⟩ := f
 refine ⟨i a n, e, oe, vs, h1, h2, h3, h4, ?_⟩
 rcases h5 with h5 | ⟨T, oT, ts, g1, g2, g3⟩
 ·exact .inl h5
 ·exact .inr ⟨T, oT, ts, g1, i T g2, g3⟩
def Nw (X : Cx) (pins : LAO) (b : Addr) : Prop := (b ∈ X.ex \/ X.s₀.heap.get? b = none) /\ ∀ p ∈ X.pn ++ pins, p.1 ≠ b
def Fly (X : Cx) (pins : LAO) (x : Xc) (a : Addr) (as : List Addr) (H : Hp) (s : Shared) : Prop :=
 ∃ C od, nsIn X.K mainGlobals x.1 = some (some (.ref C)) /\ YlV (Nw X pins) H a (.ref C) od s.heap /\ Ynu X.K as H od x.2
def XOk (X : Cx) (as : List Addr) (H : Hp) (ρ : Rho) (k : Xc) (st' : YkJ) : Prop :=
 ∀ (pins : LAO) (σ' : St) (s' : Shared) (as' : List Addr) (H' : Hp) (a : Addr), Inv X pins σ' H' s' -> YkZ X.K as' H' ρ σ' -> Ext as H as' H' -> Rep X.K as' st' H' -> Fly X pins k a as' H' s' -> X.xe (.ref a) s'
theorem XOk.ext {X : Cx} {as as1 : List Addr} {H H1 : Hp} {ρ : Rho} {k : Xc} {st' : YkJ} (x : Ext as H as1 H1) (h : XOk X as H ρ k st') : XOk X as1 H1 ρ k st' :=
 fun pins σ' s' as' H' a I e y r q => h pins σ' s' as' H' a I e (x.trans y) r q
def YkV (X : Cx) (as : List Addr) (H : Hp) (ρ : Rho) (r : R P) (Q : VK) : Prop :=
 match r with
 | .ok p st' => ∀ as' H' v, Ext as H as' H' -> Rep X.K as' st' H' -> Den X.K as' H' v p -> Q v H'
 | .exc k st' => XOk X as H ρ k st'
 | .bad => False
def Yls (X : Cx) (as : List Addr) (H : Hp) (ρ : Rho) (r : R Bool) (Q : Bool -> Hp -> Prop) : Prop :=
 match r with
 | .ok b st' => ∀ as' H', Ext as H as' H' -> Rep X.K as' st' H' -> Q b H'
 | .exc k st' => XOk X as H ρ k st'
 | .bad => False
def Ylx (X : Cx) (as : List Addr) (H : Hp) (ρ : Rho) (r : R (List P)) (Q : List V -> Hp -> Prop) : Prop :=
 match r with
 | .ok ps st' => ∀ as' H' vs, Ext as H as' H' -> Rep X.K as' st' H' -> Dens X.K as' H' vs ps -> Q vs H'
 | .exc k st' => XOk X as H ρ k st'
 | .bad => False
def Yk3 (X : Cx) (as : List Addr) (H : Hp) (ρ : Rho) (r : R (List P)) (Q : VK) : Prop :=
 match r with
 | .ok ps st' => ∀ as' H' l vs, Ext as H as' H' -> Rep X.K as' st' H' -> H' l = some (.lst vs) -> YmJ as' st' l -> Dens X.K as' H' vs ps -> Q (.ref l) H'
 | .exc k st' => XOk X as H ρ k st'
 | .bad => False
def Yk1 (X : Cx) (as : List Addr) (H : Hp) (r : RS) (D : Ends) : Prop :=
 match r with
 | .nx ρ' st' => ∀ as' H' σ', Ext as H as' H' -> Rep X.K as' st' H' -> YkZ X.K as' H' ρ' σ' -> D.nx σ' H'
 | .bk ρ' st' => ∀ as' H' σ', Ext as H as' H' -> Rep X.K as' st' H' -> YkZ X.K as' H' ρ' σ' -> D.bk σ' H'
 | .ct ρ' st' => ∀ as' H' σ', Ext as H as' H' -> Rep X.K as' st' H' -> YkZ X.K as' H' ρ' σ' -> D.ct σ' H'
 | .rt p st' => ∀ as' H' v, Ext as H as' H' -> Rep X.K as' st' H' -> Den X.K as' H' v p -> D.rt v H'
 | .exc k ρ' st' => XOk X as H ρ' k st'
 | .bad => False
def Yk4 (X : Cx) (as : List Addr) (H : Hp) (r : Option (P × YkJ)) (Q : VK) : Prop :=
 match r with
 | some (p, st') => ∀ as' H' v, Ext as H as' H' -> Rep X.K as' st' H' -> Den X.K as' H' v p -> Q v H'
 | none => False
def tE (X : Cx) (m : ME) : TE := fun σ H Q => ∃ as ρ st, YkZ X.K as H ρ σ /\ Rep X.K as st H /\ YkV X as H ρ (m ρ st) Q
def tT (X : Cx) (m : MT) : TT := fun σ H Q => ∃ as ρ st, YkZ X.K as H ρ σ /\ Rep X.K as st H /\ Yls X as H ρ (m ρ st) Q
def tA (X : Cx) (m : MA) : TA := fun σ H Q => ∃ as ρ st, YkZ X.K as H ρ σ /\ Rep X.K as st H /\ Ylx X as H ρ (m ρ st) Q
def tL (X : Cx) (m : MA) : TE := fun σ H Q => ∃ as ρ st, YkZ X.K as H ρ σ /\ Rep X.K as st H /\ Yk3 X as H ρ (m ρ st) Q
def tS (X : Cx) (m : MS) : TS := fun D σ H => ∃ as ρ st, YkZ X.K as H ρ σ /\ Rep X.K as st H /\ Yk1 X as H (m ρ st) D
abbrev JE (X : Cx) (e : Expr) (m : ME) : Prop := PE X e (tE X m)
abbrev JT (X : Cx) (e : Expr) (m : MT) : Prop := PT X e (tT X m)
abbrev JA (X : Cx) (es : List Expr) (m : MA) : Prop := PA X es (tA X m)
abbrev JL (X : Cx) (e : Expr) (m : MA) : Prop := PE X e (tL X m)
abbrev JS (X : Cx) (s : Stmt) (m : MS) : Prop := PS X s (tS X m)
abbrev JSs (X : Cx) (ss : List Stmt) (m : MS) : Prop := PSs X ss (tS X m)
theorem PE.imp {X : Cx} {e : Expr} {t t' : TE} (h : PE X e t) (i : ∀ σ H Q, t' σ H Q -> t σ H Q) : PE X e t' := fun pins s σ H Q I q => h pins s σ H Q I (i σ H Q q)
theorem PT.imp {X : Cx} {e : Expr} {t t' : TT} (h : PT X e t) (i : ∀ σ H Q, t' σ H Q -> t σ H Q) : PT X e t' := fun pins s σ H Q I q => h pins s σ H Q I (i σ H Q q)
theorem PA.imp {X : Cx} {es : List Expr} {t t' : TA} (h : PA X es t) (i : ∀ σ H Q, t' σ H Q -> t σ H Q) : PA X es t' := fun pos pins s σ H Q I q => h pos pins s σ H Q I (i σ H Q q)
theorem PS.imp {X : Cx} {e : Stmt} {t t' : TS} (h : PS X e t) (i : ∀ D σ H, t' D σ H -> t D σ H) : PS X e t' := fun pins s σ H D I q => h pins s σ H D I (i D σ H q)
theorem PSs.imp {X : Cx} {e : List Stmt} {t t' : TS} (h : PSs X e t) (i : ∀ D σ H, t' D σ H -> t D σ H) : PSs X e t' := fun pins s σ H D I q => h pins s σ H D I (i D σ H q)
section
variable {X : Cx} {as as1 : List Addr} {H H1 : Hp} {ρ : Rho}
theorem YkV.ext {r : R P} {Q : VK} (x : Ext as H as1 H1) (h : YkV X as H ρ r Q) : YkV X as1 H1 ρ r Q := by
 cases r with
 | ok p st' => exact fun as' H' v y => h as' H' v (x.trans y)
 | exc k st' => show 199
 | bad => exact h
theorem Yls.ext {r : R Bool} {Q : Bool -> Hp -> Prop} (x : Ext as H as1 H1) (h : Yls X as H ρ r Q) : Yls X as1 H1 ρ r Q := by
 cases r with
 | ok p st' => exact fun as' H' y => h as' H' (x.trans y)
 | exc k st' => show 199
 | bad => exact h
theorem Ylx.ext {r : R (List P)} {Q : List V -> Hp -> Prop} (x : Ext as H as1 H1) (h : Ylx X as H ρ r Q) : Ylx X as1 H1 ρ r Q := by
 cases r with
 | ok p st' => exact fun as' H' vs y => h as' H' vs (x.trans y)
 | exc k st' => show 199
 | bad => exact h
theorem Yk3.ext {r : R (List P)} {Q : VK} (x : Ext as H as1 H1) (h : Yk3 X as H ρ r Q) : Yk3 X as1 H1 ρ r Q := by
 cases r with
 | ok p st' => exact fun as' H' l vs y => h as' H' l vs (x.trans y)
 | exc k st' => show 199
 | bad => exact h
theorem Yk1.ext {r : RS} {D : Ends} (x : Ext as H as1 H1) (h : Yk1 X as H r D) : Yk1 X as1 H1 r D := by
 cases r with
 | nx ρ' st' => exact fun as' H' σ' y => h as' H' σ' (x.trans y)
 | bk ρ' st' => exact fun as' H' σ' y => h as' H' σ' (x.trans y)
 | ct ρ' st' => exact fun as' H' σ' y => h as' H' σ' (x.trans y)
 | rt p st' => exact fun as' H' v y => h as' H' v (x.trans y)
 | exc k ρ' st' => show 199
 | bad => exact h
theorem YkV.bindE {r : R P} {f : P -> YkJ -> R P} {Q Q' : VK} (h : YkV X as H ρ (r.bind f) Q)
 (go : ∀ p st1 as1 H1 v, Ext as H as1 H1 -> Rep X.K as1 st1 H1 -> Den X.K as1 H1 v p -> YkV X as1 H1 ρ (f p st1) Q -> Q' v H1) : YkV X as H ρ r Q' := by
 cases r with
 | ok p st1 => exact fun as1 H1 v x rp d => go p st1 as1 H1 v x rp d (YkV.ext x h)
 | exc k st' => exact h
 | bad => exact h
theorem YkV.bindA {r : R (List P)} {f : List P -> YkJ -> R P} {Q : VK} {Q' : List V -> Hp -> Prop} (h : YkV X as H ρ (r.bind f) Q)
 (go : ∀ ps st1 as1 H1 vs, Ext as H as1 H1 -> Rep X.K as1 st1 H1 -> Dens X.K as1 H1 vs ps -> YkV X as1 H1 ρ (f ps st1) Q -> Q' vs H1) : Ylx X as H ρ r Q' := by
 cases r with
 | ok p st1 => exact fun as1 H1 v x rp d => go p st1 as1 H1 v x rp d (YkV.ext x h)
 | exc k st' => exact h
 | bad => exact h
theorem YkV.bindL {r : R (List P)} {f : List P -> YkJ -> R P} {Q Q' : VK} (h : YkV X as H ρ (r.bind f) Q)
 (go : ∀ ps st1 as1 H1 l vs, Ext as H as1 H1 -> Rep X.K as1 st1 H1 -> H1 l = some (.lst vs) -> YmJ as1 st1 l -> Dens X.K as1 H1 vs ps -> YkV X as1 H1 ρ (f ps st1) Q -> Q' (.ref l) H1) : Yk3 X as H ρ r Q' := by
 cases r with
 | ok p st1 => exact fun as1 H1 l v x rp hl nl d => go p st1 as1 H1 l v x rp hl nl d (YkV.ext x h)
 | exc k st' => exact h
 | bad => exact h
theorem YkV.bindB {r : R Bool} {f : Bool -> YkJ -> R P} {Q : VK} {Q' : Bool -> Hp -> Prop} (h : YkV X as H ρ (r.bind f) Q)
 (go : ∀ b st1 as1 H1, Ext as H as1 H1 -> Rep X.K as1 st1 H1 -> YkV X as1 H1 ρ (f b st1) Q -> Q' b H1) : Yls X as H ρ r Q' := by
 cases r with
 | ok p st1 => exact fun as1 H1 x rp => go p st1 as1 H1 x rp (YkV.ext x h)
 | exc k st' => exact h
 | bad => exact h
theorem Yls.bindE {r : R P} {f : P -> YkJ -> R Bool} {Q : Bool -> Hp -> Prop} {Q' : VK} (h : Yls X as H ρ (r.bind f) Q)
 (go : ∀ p st1 as1 H1 v, Ext as H as1 H1 -> Rep X.K as1 st1 H1 -> Den X.K as1 H1 v p -> Yls X as1 H1 ρ (f p st1) Q -> Q' v H1) : YkV X as H ρ r Q' := by
 cases r with
 | ok p st1 => exact fun as1 H1 v x rp d => go p st1 as1 H1 v x rp d (Yls.ext x h)
 | exc k st' => exact h
 | bad => exact h
theorem Yls.bindB {r : R Bool} {f : Bool -> YkJ -> R Bool} {Q : Bool -> Hp -> Prop} {Q' : Bool -> Hp -> Prop} (h : Yls X as H ρ (r.bind f) Q)
 (go : ∀ b st1 as1 H1, Ext as H as1 H1 -> Rep X.K as1 st1 H1 -> Yls X as1 H1 ρ (f b st1) Q -> Q' b H1) : Yls X as H ρ r Q' := by
 cases r with
 | ok p st1 => exact fun as1 H1 x rp => go p st1 as1 H1 x rp (Yls.ext x h)
 | exc k st' => exact h
 | bad => exact h
theorem Ylx.bindE {r : R P} {f : P -> YkJ -> R (List P)} {Q : List V -> Hp -> Prop} {Q' : VK} (h : Ylx X as H ρ (r.bind f) Q)
 (go : ∀ p st1 as1 H1 v, Ext as H as1 H1 -> Rep X.K as1 st1 H1 -> Den X.K as1 H1 v p -> Ylx X as1 H1 ρ (f p st1) Q -> Q' v H1) : YkV X as H ρ r Q' := by
 cases r with
 | ok p st1 => exact fun as1 H1 v x rp d => go p st1 as1 H1 v x rp d (Ylx.ext x h)
 | exc k st' => exact h
 | bad => exact h
theorem Ylx.bindA {r : R (List P)} {f : List P -> YkJ -> R (List P)} {Q : List V -> Hp -> Prop} {Q' : List V -> Hp -> Prop} (h : Ylx X as H ρ (r.bind f) Q)
 (go : ∀ p st1 as1 H1 v, Ext as H as1 H1 -> Rep X.K as1 st1 H1 -> Dens X.K as1 H1 v p -> Ylx X as1 H1 ρ (f p st1) Q -> Q' v H1) : Ylx X as H ρ r Q' := by
 cases r with
 | ok p st1 => exact fun as1 H1 v x rp d => go p st1 as1 H1 v x rp d (Ylx.ext x h)
 | exc k st' => exact h
 | bad => exact h
theorem Yk3.bindE {r : R P} {f : P -> YkJ -> R (List P)} {Q Q' : VK} (h : Yk3 X as H ρ (r.bind f) Q)
 (go : ∀ p st1 as1 H1 v, Ext as H as1 H1 -> Rep X.K as1 st1 H1 -> Den X.K as1 H1 v p -> Yk3 X as1 H1 ρ (f p st1) Q -> Q' v H1) : YkV X as H ρ r Q' := by
 cases r with
 | ok p st1 => exact fun as1 H1 v x rp d => go p st1 as1 H1 v x rp d (Yk3.ext x h)
 | exc k st' => exact h
 | bad => exact h
theorem Yk3.bindA {r : R (List P)} {f : List P -> YkJ -> R (List P)} {Q : VK} {Q' : List V -> Hp -> Prop} (h : Yk3 X as H ρ (r.bind f) Q)
 (go : ∀ p st1 as1 H1 v, Ext as H as1 H1 -> Rep X.K as1 st1 H1 -> Dens X.K as1 H1 v p -> Yk3 X as1 H1 ρ (f p st1) Q -> Q' v H1) : Ylx X as H ρ r Q' := by
 cases r with
 | ok p st1 => exact fun as1 H1 v x rp d => go p st1 as1 H1 v x rp d (Yk3.ext x h)
 | exc k st' => exact h
 | bad => exact h
theorem Yk3.bindL {r : R (List P)} {f : List P -> YkJ -> R (List P)} {Q Q' : VK} (h : Yk3 X as H ρ (r.bind f) Q)
 (go : ∀ ps st1 as1 H1 l vs, Ext as H as1 H1 -> Rep X.K as1 st1 H1 -> H1 l = some (.lst vs) -> YmJ as1 st1 l -> Dens X.K as1 H1 vs ps -> Yk3 X as1 H1 ρ (f ps st1) Q -> Q' (.ref l) H1) : Yk3 X as H ρ r Q' := by
 cases r with
 | ok p st1 => exact fun as1 H1 l v x rp hl nl d => go p st1 as1 H1 l v x rp hl nl d (Yk3.ext x h)
 | exc k st' => exact h
 | bad => exact h
theorem YkV.ofO {r : Option (P × YkJ)} {Q : VK} (h : YkV X as H ρ (ofO r) Q) : Yk4 X as H r Q := by
 cases r with
 | none => exact h
 | some p => exact h
end
end Mi
namespace Mi
open PySem PySem.Spec L2
open PyProof.Rows hiding St
def YkH (i : Nat) : ME := fun ρ st => match ρ[i]? with
 | some (some p) => .ok p st
 | _ => .bad
def eC (p : P) : ME := fun _ st => .ok p st
section
variable {X : Cx} {a b c : Expr} {ma mb mc : ME} {pos : Pos}
theorem YhK {i : Nat} (h : PE X a (Yn6 i)) : JE X a (YkH i) := PE.imp h fun σ H Q ⟨as, ρ, st, en, rp, h⟩ => by
 unfold YkH at h
 cases e : ρ[i]? with
 | none => rw [e] at h; exact h.elim
 | some o =>
  rw [e] at h
  cases o with
  | none => show 152
  | some p =>
   obtain ⟨v, h1, d⟩ := en.val i p e
   exact ⟨v, h1, h as H v Ext.refl rp d⟩
theorem jv (i : Nat) {x : Str} {pos : Pos} (hN : X.N[i]? = some x := by rfl) (hv : Vis X.env.scope x := by first | exact Or.inl rfl | exact Or.inr (Or.inl rfl) | exact Or.inr (Or.inr rfl)) (hd : (x == ("__debug__" : Str)) = false := by decide)
 (hcd : (x == ("__classdict__" : Str)) = false := by decide) : JE X (.Name x pos) (YkH i) := YhK (Ygn hN hv hd hcd)
theorem Yaj {v : V} {p : P} (h : PE X a (tC v)) (d : ∀ K as H, Den K as H v p) : JE X a (eC p) := PE.imp h fun σ H Q ⟨as, ρ, st, en, rp, h⟩ => h as H v Ext.refl rp (d _ _ _)
theorem Yb {i j pos} : JE X (.Constant (.int i) j pos) (eC (.int i)) := Yaj YiC fun _ _ _ => .int
theorem Yag {b j pos} : JE X (.Constant (.bool b) j pos) (eC (.bl b)) := Yaj Ykc fun _ _ _ => .bl
theorem YW {x j pos} : JE X (.Constant (.str x) j pos) (eC (.str x)) := Yaj Yjn fun _ _ _ => .str
abbrev G2 := P -> P -> YkJ -> Option (P × YkJ)
def rM (X : Cx) (g : G2) : R2 := fun x y H Q => ∃ as st p q, Rep X.K as st H /\ Den X.K as H x p /\ Den X.K as H y q /\ Yk4 X as H (g p q st) Q
def YkK (g : G2) (ma mb : ME) : ME := fun ρ st => (ma ρ st).bind fun p st1 => (mb ρ st1).bind fun q st2 => ofO (g p q st2)
theorem J4 {g : G2} {σ : St} {H : Hp} {Q : VK} (h : tE X (YkK g ma mb) σ H Q) : tOp (rM X g) (tE X ma) (tE X mb) σ H Q := by
 show 253
 exact ⟨as, ρ, st, en, rp, YkV.bindE h fun p st1 as1 H1 v x rp1 d h1 => ⟨as1, ρ, st1, en.ext x, rp1, YkV.bindE h1 fun q st2 as2 H2 u x2 rp2 d2 h2 => ⟨as2, st2, p, q, rp2, d.ext x2, d2, YkV.ofO h2⟩⟩⟩
theorem Ye {op : Operator} {g : G2} (ho : OpR X (binaryOp op) (rM X g)) (ha : JE X a ma) (hb : JE X b mb) : JE X (.BinOp a op b pos) (YkK g ma mb) :=
 PE.imp (Ykb ho ha hb) fun _ _ _ h => J4 h
theorem YbK {op : CmpOp} {g : G2} (ho : OpR X (compareOp op) (rM X g)) (ha : JE X a ma) (hb : JE X b mb) (hm : behindInMarks op b = false) : JE X (.Compare a [op] [b] pos) (YkK g ma mb) :=
 PE.imp (Yhi ho ha hb hm) fun _ _ _ h => J4 h
def Ylb (m : ME) : MT := fun ρ st => (m ρ st).bind fun p st1 => match p with
 | .bl c => .ok c st1
 | _ => .bad
theorem Yji {m : ME} {t : TE} (ht : ∀ σ H Q, tE X m σ H Q -> t σ H Q) {σ : St} {H : Hp} {Q : Bool -> Hp -> Prop} (h : tT X (Ylb m) σ H Q) : Yn5 t σ H Q := by
 show 253
 refine ht _ _ _ ⟨as, ρ, st, en, rp, Yls.bindE h fun p st1 as1 H1 v x rp1 d h1 => ?_⟩
 cases d with
 | bl => exact ⟨_, rfl, h1 as1 H1 Ext.refl rp1⟩
 | _ => exact False.elim h1
theorem Yv {op : CmpOp} {g : G2} (ho : OpR X (compareOp op) (rM X g)) (ha : JE X a ma) (hb : JE X b mb) (hm : behindInMarks op b = false) : JT X (.Compare a [op] [b] pos) (Ylb (YkK g ma mb)) :=
 PT.imp (Yhu ho ha hb hm) fun _ _ _ h => Yji (fun _ _ _ h => J4 h) h
def YmS (g g' : G2) (ma mb mc : ME) : ME := fun ρ st => (ma ρ st).bind fun p st1 => (mb ρ st1).bind fun q st2 => (ofO (g p q st2)).bind fun z st3 => match z with
 | .bl k => if k = true then (mc ρ st3).bind fun r st4 => ofO (g' q r st4) else .ok (.bl false) st3
 | _ => .bad
theorem YeN {g g' : G2} {σ : St} {H : Hp} {Q : VK} (h : tE X (YmS g g' ma mb mc) σ H Q) : YnC (rM X g) (rM X g') (tE X ma) (tE X mb) (tE X mc) σ H Q := by
 show 253
 refine ⟨as, ρ, st, en, rp, YkV.bindE h fun p st1 as1 H1 v x rp1 d h1 => ⟨as1, ρ, st1, en.ext x, rp1, YkV.bindE h1 fun q st2 as2 H2 u x2 rp2 d2 h2 => ⟨as2, st2, p, q, rp2, d.ext x2, d2, ?_⟩⟩⟩
 refine YkV.ofO (ρ := ρ) (YkV.bindE h2 fun z st3 as3 H3 w x3 rp3 d3 h3 => ?_)
 cases d3 with
 | bl =>
  rename_i k
  refine ⟨k, rfl, ?_⟩
  cases k with
  | true =>
   rw [ZAI rfl]
   exact ⟨as3, ρ, st3, ((en.ext x).ext x2).ext x3, rp3, YkV.bindE h3 fun r st4 as4 H4 w' x4 rp4 d4 h4 => ⟨as4, st4, q, r, rp4, (d2.ext x3).ext x4, d4, YkV.ofO h4⟩⟩
  | false =>
   rw [ZAJ ZAQ]
   exact h3 as3 H3 _ Ext.refl rp3 .bl
 | _ => exact False.elim h3
theorem YgE {op op' : CmpOp} {g g' : G2} (ho : OpR X (compareOp op) (rM X g)) (ho' : OpR X (compareOp op') (rM X g')) (ha : JE X a ma) (hb : JE X b mb) (hc : JE X c mc)
 (hm : lastMarks [op, op'] [b, c] = false := by with_unfolding_all rfl) : JE X (.Compare a [op, op'] [b, c] pos) (YmS g g' ma mb mc) := PE.imp (Yfa ho ho' ha hb hc hm) fun _ _ _ h => YeN h
variable {na nb : MT} {rest : List Expr}
abbrev JW (X : Cx) (e : Expr) (m : MT) : Prop := PW X e (tT X m)
theorem PW.imp {e : Expr} {t t' : TT} (h : PW X e t) (i : ∀ σ H Q, t' σ H Q -> t σ H Q) : PW X e t' := fun wh pins s σ H Q I q => h wh pins s σ H Q I (i σ H Q q)
def Yma (na nb : MT) : MT := fun ρ st => (na ρ st).bind fun c st1 => if c = true then nb ρ st1 else .ok false st1
def Yoe (na nb : MT) : MT := fun ρ st => (na ρ st).bind fun c st1 => if c = true then .ok true st1 else nb ρ st1
def Ym6 (na : MT) : MT := fun ρ st => (na ρ st).bind fun c st1 => .ok (!c) st1
theorem Vq (ha : JT X a na) : JW X (.BoolOp .And [a] pos) na := Yhc ha
theorem YjE (ha : JT X a na) : JW X (.BoolOp .Or [a] pos) na := YiF ha
theorem V6 (ha : JT X a na) (hb : JW X (.BoolOp .And (b :: rest) pos) nb) : JW X (.BoolOp .And (a :: b :: rest) pos) (Yma na nb) :=
 PW.imp (Yjh ha hb) fun σ H Q ⟨as, ρ, st, en, rp, h⟩ => ⟨as, ρ, st, en, rp, Yls.bindB h fun c st1 as1 H1 x rp1 h1 => by
  cases c with
  | true => rw [ZAI rfl] at h1 ⊢; exact ⟨as1, ρ, st1, en.ext x, rp1, h1⟩
  | false => rw [ZAJ ZAQ] at h1 ⊢; exact h1 as1 H1 Ext.refl rp1⟩
theorem YjO (ha : JT X a na) (hb : JW X (.BoolOp .Or (b :: rest) pos) nb) : JW X (.BoolOp .Or (a :: b :: rest) pos) (Yoe na nb) :=
 PW.imp (Yke ha hb) fun σ H Q ⟨as, ρ, st, en, rp, h⟩ => ⟨as, ρ, st, en, rp, Yls.bindB h fun c st1 as1 H1 x rp1 h1 => by
  cases c with
  | false => rw [ZAJ ZAQ] at h1 ⊢; exact ⟨as1, ρ, st1, en.ext x, rp1, h1⟩
  | true => rw [ZAI rfl] at h1 ⊢; exact h1 as1 H1 Ext.refl rp1⟩
theorem Ydo (ha : JT X a na) : JT X (.UnaryOp .Not a pos) (Ym6 na) :=
 PT.imp (Yja ha) fun σ H Q ⟨as, ρ, st, en, rp, h⟩ => ⟨as, ρ, st, en, rp, Yls.bindB h fun c st1 as1 H1 x rp1 h1 => h1 as1 H1 Ext.refl rp1⟩
def Yoc (ma mb : ME) : ME := fun ρ st => (ma ρ st).bind fun p st1 => match p with
 | .bl c => if c = true then mb ρ st1 else .ok (.bl false) st1
 | _ => .bad
def eOr (ma mb : ME) : ME := fun ρ st => (ma ρ st).bind fun p st1 => match p with
 | .bl c => if c = true then .ok (.bl true) st1 else mb ρ st1
 | _ => .bad
def YoU (ma : ME) : ME := fun ρ st => (ma ρ st).bind fun p st1 => match p with
 | .bl c => .ok (.bl (!c)) st1
 | _ => .bad
theorem YiS {op} (h : JE X a ma) : JE X (.BoolOp op [a] pos) ma := Yjk h
theorem Yic (ha : JE X a ma) (hb : JE X (.BoolOp .And (b :: rest) pos) mb) : JE X (.BoolOp .And (a :: b :: rest) pos) (Yoc ma mb) :=
 PE.imp (Yi8 ha hb) fun σ H Q ⟨as, ρ, st, en, rp, h⟩ => ⟨as, ρ, st, en, rp, YkV.bindE h fun p st1 as1 H1 v x rp1 d h1 => by
  cases d with
  | bl =>
   rename_i c
   refine ⟨c, rfl, ?_⟩
   cases c with
   | true => exact ⟨as1, ρ, st1, en.ext x, rp1, h1⟩
   | false => exact h1 as1 H1 _ Ext.refl rp1 .bl
  | _ => exact False.elim h1⟩
def eIf (nc : MT) (ma mb : ME) : ME := fun ρ st => (nc ρ st).bind fun c st1 => if c = true then ma ρ st1 else mb ρ st1
def cap : Nat := 1000000
def YmU (p : P) (st : YkJ) : Option Bool := match p with
 | .non => some false
 | .bl b => some b
 | .int i => some (i != 0)
 | .str x => if x.length <= cap then some (decide (x.length ≠ 0)) else none
 | .tup xs => some (!xs.isEmpty)
 | .ref k => match st[k]? with
  | some (.lst xs) => some (!xs.isEmpty)
  | some (.ro xs) => some (!xs.isEmpty)
  | some (.dct kvs) => some (!kvs.isEmpty)
  | _ => none
def Ym9 (m : ME) : MT := fun ρ st => (m ρ st).bind fun p st1 => match YmU p st1 with
 | some c => .ok c st1
 | none => .bad
theorem Ys : cap <= sizeLine := by rw [sizeLine_eq]; decide
theorem Dens.isEmpty {K : Frag} {as : List Addr} {H : Hp} {vs : List V} {ps : List P} (h : Dens K as H vs ps) : vs.isEmpty = ps.isEmpty := by cases h <;> rfl
theorem Z7 {K : Frag} {H : Hp} {a : Addr} {vs : List V} (h : (∃ o, H a = some (.frz o (.lst vs))) \/ ∃ (o : Obj) (its : Array Value) (n : Nat), K.lookup a = some o /\ o.cls = .type "list" /\ o.dict = none /\ o.data = .seq its n /\ its.size <= sizeLine /\ Vals vs its.toList) : SqL K H a vs := by
 rcases h with h | h
 ·exact .inl (.inr h)
 ·exact .inr h
theorem YhH {K : Frag} {as : List Addr} {st : YkJ} {H : Hp} {v : V} {p : P} {k : Bool} (rp : Rep K as st H) (d : Den K as H v p) (h : YmU p st = some k) : Yog K v H k := by
 cases d with
 | non => cases h; rfl
 | bl => cases h; rfl
 | int => cases h; rfl
 | str =>
  rename_i x
  unfold YmU at h
  dsimp only at h
  by_cases hx : x.length <= cap
  ·rw [ZAI hx] at h
   refine ⟨ZAH hx Ys, ?_⟩
   rw [<- Option.some.inj h]
   by_cases hz : x.length = 0
   ·simp [hz]
   ·have : ((x.length : Int) != 0) = true := by simp; omega
    rw [this]; simp [hz]
  ·rw [ZAJ hx] at h; cases h
 | ref e =>
  rename_i j a
  unfold YmU at h
  dsimp only at h
  cases q : st[j]? with
  | none => show 180
  | some o =>
   show 167
   have r := rp.ob j a o e q
   cases o with
   | lst xs => obtain ⟨vs, h1, h2⟩ := r; exact .inl ⟨vs, .of h1, by rw [h2.isEmpty]; exact (Option.some.inj h).symm⟩
   | ro xs => obtain ⟨vs, h1, h2⟩ := r; exact .inl ⟨vs, Z7 h1, by rw [h2.isEmpty]; exact (Option.some.inj h).symm⟩
   | dct kvs =>
    obtain ⟨ws, h1, h2, h3⟩ := r
    refine .inr (.inr ⟨ws, h1, ?_⟩)
    rw [<- Option.some.inj h]
    have := ZBj List.length h2
    cases ws <;> cases kvs <;> first | rfl | simp at this
   | exc c fs => cases h
   | dtt kvs => cases h
   | fdc kvs => cases h
 | @tup a vs ps e r tk =>
  exact .inr (.inl ⟨_, e, by rw [r.isEmpty]; exact (Option.some.inj h).symm⟩)
theorem Yac (ha : JE X a ma) (he : ∀ whole, isTrue a X.env whole = (do let v <- whole; standAt a.pos; holding [v] (truthy v))) : JT X a (Ym9 ma) :=
 PT.imp (Yfj ha he) fun σ H Q ⟨as, ρ, st, en, rp, h⟩ => ⟨as, ρ, st, en, rp, Yls.bindE h fun p st1 as1 H1 v x rp1 d h1 => by
  cases q : YmU p st1 with
  | none => rw [q] at h1; exact False.elim h1
  | some k => rw [q] at h1; exact ⟨k, YhH rp1 d q, h1 as1 H1 Ext.refl rp1⟩⟩
variable {e : Expr} {es : List Expr} {me : ME} {mr : MA}
def YkN : MA := fun _ st => .ok [] st
def YkI (me : ME) (mr : MA) : MA := fun ρ st => (me ρ st).bind fun p st1 => (mr ρ st1).bind fun ps st2 => .ok (p :: ps) st2
theorem Yd : JA X [] YkN := PA.imp VT fun σ H Q ⟨as, ρ, st, en, rp, h⟩ => h as H [] Ext.refl rp .nil
theorem Ya (ha : JE X e me) (hr : JA X es mr) (hs : starEach (e :: es) X.env = (false, eval e X.env) :: starEach es X.env := by rfl) : JA X (e :: es) (YkI me mr) :=
 PA.imp (Wq ha hr hs) fun σ H Q ⟨as, ρ, st, en, rp, h⟩ => ⟨as, ρ, st, en, rp, Ylx.bindE h fun p st1 as1 H1 v x rp1 d h1 =>
  ⟨as1, ρ, st1, en.ext x, rp1, Ylx.bindA h1 fun ps st2 as2 H2 vs x2 rp2 d2 h2 => h2 as2 H2 _ Ext.refl rp2 (.cons (d.ext x2) d2)⟩⟩
def Yl1 (mr : MA) : ME := fun ρ st => (mr ρ st).bind fun ps st1 => if ps.length <= cap then .ok (.tup ps) st1 else .bad
theorem ZT {x1} (h : JA X es mr) : JE X (.Tuple es x1 pos) (Yl1 mr) :=
 PE.imp (Yi5 h) fun σ H Q ⟨as, ρ, st, en, rp, h⟩ => ⟨as, ρ, st, en, rp, YkV.bindA h fun ps st1 as1 H1 vs x rp1 d h1 => by
  by_cases hl : ps.length <= cap
  ·rw [ZAI hl] at h1
   exact ⟨by rw [d.length]; exact ZAH hl Ys, fun p hp => h1 as1 _ _ (Ext.laid hp) (rp1.laid hp) (.tup (.of Yl) (d.ext (Ext.laid hp)))⟩
  ·rw [ZAJ hl] at h1; exact False.elim h1⟩
def lMk (mr : MA) : MA := fun ρ st => (mr ρ st).bind fun ps st1 => if ps.length <= cap then .ok ps st1 else .bad
theorem WT (h : JA X es mr) : JL X (.List es pos) (lMk mr) :=
 PE.imp (Yjs h) fun σ H Q ⟨as, ρ, st, en, rp, h⟩ => ⟨as, ρ, st, en, rp, by
  unfold lMk at h
  cases q : mr ρ st with
  | bad => show 164
  | exc k st' => show 164
  | ok ps st1 =>
   show 167
   intro as1 H1 vs x rp1 d
   by_cases hl : ps.length <= cap
   ·rw [R.bind_ok, ZAI hl] at h
    exact ⟨by rw [d.length]; exact ZAH hl Ys, fun p hp => h as1 _ p vs (x.trans (Ext.laid hp)) (rp1.laid hp) Yl (rp1.fresh hp) (d.ext (Ext.laid hp))⟩
   ·rw [R.bind_ok, ZAJ hl] at h; exact False.elim h⟩
def Yl7 (m : MA) : ME := fun ρ st => (m ρ st).bind fun ps st1 => .ok (.ref st1.length) (st1 ++ [.lst ps])
theorem Zy {m : MA} (h : JL X e m) : JE X e (Yl7 m) :=
 PE.imp h fun σ H Q ⟨as, ρ, st, en, rp, h⟩ => ⟨as, ρ, st, en, rp, YkV.bindL h fun ps st1 as1 H1 l vs x rp1 hl fr d h1 =>
  h1 (as1 ++ [l]) H1 (.ref l) Ext.add (rp1.add fr ⟨vs, hl, d.ext Ext.add⟩) (.ref (by rw [<- rp1.len]; exact Yby))⟩
end
section
variable {X : Cx}
theorem opM {f : Value -> Value -> Sem Value} {g : G2} (h : ∀ pins s σ H x y v u Q as st p q, Inv X pins σ H s -> RelV x v -> RelV y u -> Rep X.K as st H -> Den X.K as H x p -> Den X.K as H y q -> Yk4 X as H (g p q st) Q ->
 wpAny (model X.prog X.w) X.A (f v u) (EP X pins σ Q) X.xe s) : OpR X f (rM X g) :=
 fun pins s σ H x y v u Q I rx ry ⟨as, st, p, q, rp, d1, d2, po⟩ => h pins s σ H x y v u Q as st p q I rx ry rp d1 d2 po
def okP (p : P) (st : YkJ) : Option (P × YkJ) := some (p, st)
def YlW (xs : List P) (st : YkJ) : Option (P × YkJ) := if xs.length <= cap then some (.ref st.length, st ++ [.lst xs]) else none
def Ylq (st : YkJ) (k : Nat) : Option (List P) := match st[k]? with
 | some (.lst xs) => some xs
 | _ => none
def Ylf (p : P) (st : YkJ) : Option (List P) := match p with
 | .tup xs => some xs
 | .ref k => match st[k]? with
  | some (.lst xs) => some xs
  | some (.ro xs) => some xs
  | _ => none
 | _ => none
theorem YbO {K : Frag} {as : List Addr} {st : YkJ} {H : Hp} {k : Nat} {xs : List P} {v : V} (rp : Rep K as st H) (d : Den K as H v (.ref k)) (h : Ylq st k = some xs) :
 ∃ a vs, v = .ref a /\ as[k]? = some a /\ st[k]? = some (.lst xs) /\ H a = some (.lst vs) /\ Dens K as H vs xs := by
 unfold Ylq at h
 cases d with
 | ref e =>
  rename_i a
  cases q : st[k]? with
  | none => show 180
  | some o =>
   show 167
   cases o with
   | lst ys =>
    cases h
    obtain ⟨vs, h1, h2⟩ := rp.ob k a _ e q
    exact ⟨a, vs, rfl, e, rfl, h1, h2⟩
   | ro ys => cases h
   | dct ys => cases h
   | exc c ys => cases h
   | dtt kvs => cases h
   | fdc kvs => cases h
theorem Ybu {K : Frag} {as : List Addr} {st : YkJ} {H : Hp} {p : P} {xs : List P} {v : V} (rp : Rep K as st H) (d : Den K as H v p) (h : Ylf p st = some xs) :
 ∃ a vs, v = .ref a /\ (SqL K H a vs \/ SqT K H a vs) /\ Dens K as H vs xs := by
 unfold Ylf at h
 cases d with
 | ref e =>
  rename_i k a
  simp only at h
  cases q : st[k]? with
  | none => show 180
  | some o =>
   show 167
   have ob := rp.ob k a _ e q
   cases o with
   | lst ys =>
    show 75
    exact ⟨a, vs, rfl, .inl (.of h1), h2⟩
   | ro ys =>
    show 75
    exact ⟨a, vs, rfl, .inl (Z7 h1), h2⟩
   | dct ys => cases h
   | exc c ys => cases h
   | dtt kvs => cases h
   | fdc kvs => cases h
 | tup e r => cases h; exact ⟨_, _, rfl, .inr e, r⟩
 | _ => cases h
theorem YhZ {K : Frag} {as : List Addr} {st : YkJ} {H : Hp} {p : P} {xs : List P} {v : V} (rp : Rep K as st H) (d : Den K as H v p) (h : Ylf p st = some xs) :
 ∃ a vs, v = .ref a /\ (SqL K H a vs \/ SqT K H a vs /\ H a = some (.tup vs)) /\ Dens K as H vs xs := by
 unfold Ylf at h
 cases d with
 | ref e =>
  rename_i k a
  simp only at h
  cases q : st[k]? with
  | none => show 180
  | some o =>
   show 167
   have ob := rp.ob k a _ e q
   cases o with
   | lst ys =>
    show 75
    exact ⟨a, vs, rfl, .inl (.of h1), h2⟩
   | ro ys =>
    show 75
    exact ⟨a, vs, rfl, .inl (Z7 h1), h2⟩
   | dct ys => cases h
   | exc c ys => cases h
   | dtt kvs => cases h
   | fdc kvs => cases h
 | tup e r tk => cases h; exact ⟨_, _, rfl, .inr ⟨e, tk⟩, r⟩
 | _ => cases h
theorem WY {as : List Addr} {st : YkJ} {H : Hp} {xs : List P} {vs : List V} {Q : VK} {l : Addr} (rp : Rep X.K as st H) (d : Dens X.K as H vs xs) (h : Yk4 X as H (YlW xs st) Q) (hl : H l = none) : Q (.ref l) (upd H l (.lst vs)) := by
 unfold YlW at h
 by_cases z : xs.length <= cap
 ·rw [ZAI z] at h
  exact h (as ++ [l]) _ _ (Ext.new hl) (rp.lnew hl d) (.ref (by rw [<- rp.len]; exact Yby))
 ·rw [ZAJ z] at h; exact h.elim
theorem Yb8 {as : List Addr} {st : YkJ} {H : Hp} {xs : List P} {Q : VK} (h : Yk4 X as H (YlW xs st) Q) : xs.length <= sizeLine := by
 unfold YlW at h
 by_cases z : xs.length <= cap
 ·exact ZAH z Ys
 ·rw [ZAJ z] at h; exact h.elim
def YkY : G2 := fun p q st => match p, q with
 | .int i, .int j => okP (.int (i + j)) st
 | .str x, .str y => if x.length + y.length <= cap then okP (.str (x ++ y)) st else none
 | .tup xs, .tup ys => if xs.length + ys.length <= cap then okP (.tup (xs ++ ys)) st else none
 | .ref k, .ref l => match Ylq st k, Ylq st l with
  | some xs, some ys => YlW (xs ++ ys) st
  | _, _ => none
 | _, _ => none
theorem Yj : OpR X (binaryOp .Add) (rM X YkY) := opM fun pins s σ H x y v u Q as st p q I rx ry rp d1 d2 h => by
 cases d1 with
 | int =>
  cases d2 with
  | int => exact Yiq pins s σ H _ _ v u Q I rx ry ⟨_, _, rfl, rfl, h as H _ Ext.refl rp .int⟩
  | _ => show 152
 | str =>
  rename_i x
  cases d2 with
  | str =>
   rename_i y
   have h' : Yk4 X as H (if x.length + y.length <= cap then okP (.str (x ++ y)) st else none) Q := h
   by_cases z : x.length + y.length <= cap
   ·rw [ZAI z] at h'
    exact Ydl pins s σ H _ _ v u Q I rx ry ⟨_, _, rfl, rfl, ZAH z Ys, h' as H _ Ext.refl rp .str⟩
   ·show 208
  | _ => show 152
 | @tup a vs xs e r tk =>
  cases d2 with
  | @tup b ws ys e2 r2 tk =>
   have h' : Yk4 X as H (if xs.length + ys.length <= cap then okP (.tup (xs ++ ys)) st else none) Q := h
   by_cases z : xs.length + ys.length <= cap
   ·rw [ZAI z] at h'
    show 112
    obtain ⟨its, r1, p1, _⟩ := I.tuple e
    obtain ⟨its2, r3, p2, _⟩ := I.tuple e2
    obtain ⟨⟨cls, dd, data, sl⟩, ho, hc, n, hd⟩ := id p1
    obtain ⟨⟨cls2, dd2, data2, sl2⟩, ho2, hc2, n2, hd2⟩ := id p2
    simp only at hc hd hc2 hd2
    subst hc hd hc2 hd2
    by_cases hv : its = []
    ·have hz : xs = [] := ZBz (by rw [<- r.length, r1.length, hv]; rfl)
     subst hz
     exact concat_meets ⟨_, ho, rfl⟩ ⟨_, ho2, rfl⟩ noFill_tuple_add seq_tuple_add PySem.F.slot_tuple_add PySem.F.entry_tuple_add (PySem.F.args_tuple_add_2 _ _)
      (tuple_addW0 a b its.toArray its2.toArray n n2 dd dd2 sl sl2 (by simp [hv])) ⟨ho, ho2, ⟨.ref b, H, I, rfl, h' as H _ Ext.refl rp (.tup e2 r2)⟩⟩
    ·refine Yh1 pins s σ H (.ref a) (.ref b) _ _ Q I rfl rfl ⟨a, b, vs, ws, rfl, rfl, e, e2, fun w => hv (r1.nil_iff.mpr w), ?_, fun w => ?_, fun _ p hp => ?_⟩
     ·rw [r.length, r2.length]; exact ZAH z Ys
     ·subst w
      cases r2
      refine h' as H _ Ext.refl rp ?_
      rw [ZBW]
      exact .tup e r
     ·exact h' as _ _ (Ext.laid hp) (rp.laid hp) (.tup (.of Yl) ((r.append r2).ext (Ext.laid hp)))
   ·show 208
  | _ => show 152
 | ref e =>
  rename_i k a
  cases d2 with
  | ref e2 =>
   rename_i l b
   have h' : Yk4 X as H (match Ylq st k, Ylq st l with | some xs, some ys => YlW (xs ++ ys) st | _, _ => none) Q := h
   cases q1 : Ylq st k with
   | none => rw [q1] at h'; exact h'.elim
   | some xs =>
    cases q2 : Ylq st l with
    | none => rw [q1, q2] at h'; exact h'.elim
    | some ys =>
     rw [q1, q2] at h'
     obtain ⟨a', vs, z1, _, _, h1, h2⟩ := YbO rp (.ref e) q1
     obtain ⟨b', ws, z2, _, _, h3, h4⟩ := YbO rp (.ref e2) q2
     cases z1; cases z2
     have hn := Yb8 h'
     rw [ZAK] at hn
     exact Yi7 pins s σ H _ _ v u Q I rx ry ⟨a, b, vs, ws, rfl, rfl, h1, h3, by rw [h2.length, h4.length]; exact hn, fun p hp => WY rp (h2.append h4) h' hp⟩
  | _ => show 152
 | _ => show 152
def Yo6 : G2 := fun p q st => match p, q with
 | .int i, .int j => okP (.int (i - j)) st
 | _, _ => none
def small64 (i : Int) : Bool := decide (-(2 ^ 64) < i) && decide (i < 2 ^ 64)
def Yn9 : G2 := fun p q st => match p, q with
 | .int i, .int j => if (small64 i || small64 j) = true then okP (.int (i * j)) st else none
 | _, _ => none
theorem Yjm : OpR X (binaryOp .Mult) (rM X Yn9) := opM fun pins s σ H x y v u Q as st p q I rx ry rp d1 d2 h => by
 cases d1 with
 | int =>
  rename_i i
  cases d2 with
  | int =>
   rename_i j
   have h' : Yk4 X as H (if (small64 i || small64 j) = true then okP (.int (i * j)) st else none) Q := h
   by_cases z : (small64 i || small64 j) = true
   ·rw [ZAI z] at h'
    refine Yi2 pins s σ H _ _ v u Q I rx ry ⟨_, _, rfl, rfl, ?_, h' as H _ Ext.refl rp .int⟩
    unfold small64 at z
    rcases Bool.or_eq_true_iff.mp z with w | w
    ·exact .inl ⟨ZAs (ZBK.mp w).1, ZAs (ZBK.mp w).2⟩
    ·exact .inr ⟨ZAs (ZBK.mp w).1, ZAs (ZBK.mp w).2⟩
   ·show 208
  | _ => show 152
 | _ => show 152
def Ylg : G2 := fun p q st => match p, q with
 | .int i, .int j => if 0 < j /\ j < 1073741824 then okP (.int (i / j)) st else none
 | _, _ => none
theorem YE : OpR X (binaryOp .FloorDiv) (rM X Ylg) := opM fun pins s σ H x y v u Q as st p q I rx ry rp d1 d2 h => by
 cases d1 with
 | int =>
  rename_i i
  cases d2 with
  | int =>
   rename_i j
   have h' : Yk4 X as H (if 0 < j /\ j < 1073741824 then okP (.int (i / j)) st else none) Q := h
   by_cases z : 0 < j /\ j < 1073741824
   ·rw [ZAI z] at h'
    exact Yhr pins s σ H _ _ v u Q I rx ry ⟨_, _, rfl, rfl, z, h' as H _ Ext.refl rp .int⟩
   ·show 208
  | _ => show 152
 | _ => show 152
def Yla : G2 := fun p q st => match p, q with
 | .int i, .int j => if 0 < j then okP (.int (i % j)) st else none
 | _, _ => none
theorem Yu : OpR X (binaryOp .Mod) (rM X Yla) := opM fun pins s σ H x y v u Q as st p q I rx ry rp d1 d2 h => by
 cases d1 with
 | int =>
  rename_i i
  cases d2 with
  | int =>
   rename_i j
   have h' : Yk4 X as H (if 0 < j then okP (.int (i % j)) st else none) Q := h
   by_cases z : 0 < j
   ·rw [ZAI z] at h'
    exact YiH pins s σ H _ _ v u Q I rx ry ⟨_, _, rfl, rfl, z, h' as H _ Ext.refl rp .int⟩
   ·show 208
  | _ => show 152
 | _ => show 152
def Ymq (x y : Str) : Bool := decide (x.cps.toList < y.cps.toList)
def ltP : G2 := fun p q st => match p, q with
 | .int i, .int j => okP (.bl (decide (i < j))) st
 | .str x, .str y => okP (.bl (Ymq x y)) st
 | _, _ => none
def leP : G2 := fun p q st => match p, q with
 | .int i, .int j => okP (.bl (decide (i <= j))) st
 | .str x, .str y => okP (.bl (!Ymq y x)) st
 | _, _ => none
def gtP : G2 := fun p q st => match p, q with
 | .int i, .int j => okP (.bl (decide (j < i))) st
 | _, _ => none
def geP : G2 := fun p q st => match p, q with
 | .int i, .int j => okP (.bl (decide (j <= i))) st
 | _, _ => none
theorem Yb7 : OpR X (compareOp .Lt) (rM X ltP) := opM fun pins s σ H x y v u Q as st p q I rx ry rp d1 d2 h => by
 cases d1 with
 | int =>
  cases d2 with
  | int => exact Ykl pins s σ H _ _ v u Q I rx ry ⟨_, _, rfl, rfl, h as H _ Ext.refl rp .bl⟩
  | _ => show 152
 | str =>
  cases d2 with
  | str => exact YeQ pins s σ H _ _ v u Q I rx ry ⟨_, _, rfl, rfl, h as H _ Ext.refl rp .bl⟩
  | _ => show 152
 | _ => show 152
theorem Yh9 : OpR X (compareOp .LtE) (rM X leP) := opM fun pins s σ H x y v u Q as st p q I rx ry rp d1 d2 h => by
 cases d1 with
 | int =>
  cases d2 with
  | int => exact Ykp pins s σ H _ _ v u Q I rx ry ⟨_, _, rfl, rfl, h as H _ Ext.refl rp .bl⟩
  | _ => show 152
 | str =>
  cases d2 with
  | str =>
   show 30
   exact PySem.P.le_str ⟨.bl _, H, I, rfl, h as H _ Ext.refl rp .bl⟩
  | _ => show 152
 | _ => show 152
theorem Ydy : OpR X (compareOp .Gt) (rM X gtP) := opM fun pins s σ H x y v u Q as st p q I rx ry rp d1 d2 h => by
 cases d1 with
 | int =>
  cases d2 with
  | int => exact Ykr pins s σ H _ _ v u Q I rx ry ⟨_, _, rfl, rfl, h as H _ Ext.refl rp .bl⟩
  | _ => show 152
 | _ => show 152
end
def RS.ofE {α : Type} (ρ : Rho) (r : R α) (f : α -> YkJ -> RS) : RS := match r with
 | .ok p st => f p st
 | .exc k st => .exc k ρ st
 | .bad => .bad
@[simp] theorem RS.ofE_ok {α : Type} {ρ : Rho} {p : α} {st : YkJ} {f : α -> YkJ -> RS} : RS.ofE ρ (.ok p st) f = f p st := rfl
@[simp] theorem RS.ofE_exc {α : Type} {ρ : Rho} {k : Xc} {st : YkJ} {f : α -> YkJ -> RS} : RS.ofE ρ (.exc k st) f = .exc k ρ st := rfl
@[simp] theorem RS.ofE_bad {α : Type} {ρ : Rho} {f : α -> YkJ -> RS} : RS.ofE ρ .bad f = .bad := rfl
def YlG : MS := fun ρ st => .nx ρ st
def RS.seq (r : RS) (m : MS) : RS := match r with
 | .nx ρ st => m ρ st
 | r => r
@[simp] theorem RS.seq_nx {ρ : Rho} {st : YkJ} {m : MS} : (RS.nx ρ st).seq m = m ρ st := rfl
@[simp] theorem RS.seq_rt {p : P} {st : YkJ} {m : MS} : (RS.rt p st).seq m = .rt p st := rfl
@[simp] theorem RS.seq_bk {ρ : Rho} {st : YkJ} {m : MS} : (RS.bk ρ st).seq m = .bk ρ st := rfl
@[simp] theorem RS.seq_ct {ρ : Rho} {st : YkJ} {m : MS} : (RS.ct ρ st).seq m = .ct ρ st := rfl
@[simp] theorem RS.seq_exc {k : Xc} {ρ : Rho} {st : YkJ} {m : MS} : (RS.exc k ρ st).seq m = .exc k ρ st := rfl
@[simp] theorem RS.seq_bad {m : MS} : RS.bad.seq m = .bad := rfl
def YkT (m1 m2 : MS) : MS := fun ρ st => (m1 ρ st).seq m2
section
variable {X : Cx} {a b c e : Expr} {me ma : ME} {pos : Pos} {s : Stmt} {rest ss tt : List Stmt} {m m1 m2 : MS} {nc : MT}
theorem Yk1.ofE {as : List Addr} {H : Hp} {ρ : Rho} {r : R P} {f : P -> YkJ -> RS} {D : Ends} {Q' : VK} (h : Yk1 X as H (RS.ofE ρ r f) D)
 (go : ∀ p st1 as1 H1 v, Ext as H as1 H1 -> Rep X.K as1 st1 H1 -> Den X.K as1 H1 v p -> Yk1 X as1 H1 (f p st1) D -> Q' v H1) : YkV X as H ρ r Q' := by
 cases r with
 | ok p st1 => exact fun as1 H1 v x rp d => go p st1 as1 H1 v x rp d (Yk1.ext x h)
 | exc k st' => exact h
 | bad => exact h
theorem Yk1.ofB {as : List Addr} {H : Hp} {ρ : Rho} {r : R Bool} {f : Bool -> YkJ -> RS} {D : Ends} {Q' : Bool -> Hp -> Prop} (h : Yk1 X as H (RS.ofE ρ r f) D)
 (go : ∀ b st1 as1 H1, Ext as H as1 H1 -> Rep X.K as1 st1 H1 -> Yk1 X as1 H1 (f b st1) D -> Q' b H1) : Yls X as H ρ r Q' := by
 cases r with
 | ok p st1 => exact fun as1 H1 x rp => go p st1 as1 H1 x rp (Yk1.ext x h)
 | exc k st' => exact h
 | bad => exact h
theorem YK : JSs X [] YlG := PSs.imp YhV fun D σ H ⟨as, ρ, st, en, rp, h⟩ => h as H σ Ext.refl rp en
theorem Yk1.seq {as : List Addr} {H : Hp} {r : RS} {m : MS} {D : Ends} (h : Yk1 X as H (r.seq m) D) : Yk1 X as H r { D with nx := tS X m D } := by
 cases r with
 | nx ρ st => exact fun as' H' σ' x rp en => ⟨as', ρ, st, en, rp, Yk1.ext x h⟩
 | rt p st => exact h
 | bk ρ st => exact h
 | ct ρ st => exact h
 | exc k ρ st => exact h
 | bad => exact h
theorem Yc (h1 : JS X s m1) (h2 : JSs X rest m2) : JSs X (s :: rest) (YkT m1 m2) :=
 PSs.imp (Yf5 h1 h2) fun D σ H ⟨as, ρ, st, en, rp, h⟩ => ⟨as, ρ, st, en, rp, Yk1.seq h⟩
theorem Yg (h1 : JS X s m1) : JSs X [s] m1 := YhQ h1
def Ylp (me : ME) : MS := fun ρ st => RS.ofE ρ (me ρ st) fun p st1 => .rt p st1
def YoL : MS := fun _ st => .rt .non st
def Ymf (me : ME) : MS := fun ρ st => RS.ofE ρ (me ρ st) fun _ st1 => .nx ρ st1
def Yk2 (i : Nat) (me : ME) : MS := fun ρ st => RS.ofE ρ (me ρ st) fun p st1 => .nx (ρ.set i (some p)) st1
def sIf (nc : MT) (m1 m2 : MS) : MS := fun ρ st => RS.ofE ρ (nc ρ st) fun c st1 => if c = true then m1 ρ st1 else m2 ρ st1
def Yon : MS := fun ρ st => .bk ρ st
def YoH : MS := fun ρ st => .ct ρ st
theorem Yt (he : JE X e me) : JS X (.Return (some e) pos) (Ylp me) :=
 PS.imp (Yit he) fun D σ H ⟨as, ρ, st, en, rp, h⟩ => ⟨as, ρ, st, en, rp, Yk1.ofE h fun p st1 as1 H1 v x rp1 d h1 => h1 as1 H1 v Ext.refl rp1 d⟩
theorem W5 (he : JE X e me) (hs : swapsWith e none pos.line X.env = pure false := by rfl) : JS X (.Expr e pos) (Ymf me) :=
 PS.imp (YgY he hs) fun D σ H ⟨as, ρ, st, en, rp, h⟩ => ⟨as, ρ, st, en, rp, Yk1.ofE h fun p st1 as1 H1 v x rp1 d h1 => h1 as1 H1 σ Ext.refl rp1 (en.ext x)⟩
theorem Yi {i : Nat} {x : Str} {pos' : Pos} (hN : X.N.Nodup) (hi : X.N[i]? = some x) (hx : Loc X.env.scope x) (he : JE X e me) (hs : swapsWith e (some (.Name x pos')) pos.line X.env = pure false := by rfl) (hf : X.fn x = true \/ X.env.scope.names.lookup x = some .local := by first | exact .inl rfl | exact .inr rfl | assumption) :
 JS X (.Assign [.Name x pos'] e pos) (Yk2 i me) :=
 PS.imp (Yir hN hi hx he hs hf) fun D σ H ⟨as, ρ, st, en, rp, h⟩ => ⟨as, ρ, st, en, rp, Yk1.ofE h fun p st1 as1 H1 v x rp1 d h1 => h1 as1 H1 _ Ext.refl rp1 ((en.ext x).set d)⟩
theorem Zj (hc : JT X c nc) (h1 : JSs X ss m1) (h2 : JSs X tt m2) : JS X (.If c ss tt pos) (sIf nc m1 m2) :=
 PS.imp (Ykk hc h1 h2) fun D σ H ⟨as, ρ, st, en, rp, h⟩ => ⟨as, ρ, st, en, rp, Yk1.ofB h fun k st1 as1 H1 x rp1 h1 => by
  cases k with
  | true => rw [ZAI rfl] at h1 ⊢; exact ⟨as1, ρ, st1, en.ext x, rp1, h1⟩
  | false => rw [ZAJ ZAQ] at h1 ⊢; exact ⟨as1, ρ, st1, en.ext x, rp1, h1⟩⟩
def YlX (nc : MT) (m : MS) : Nat -> Rho -> YkJ -> RS
 | 0, _, _ => .bad
 | n + 1, ρ, st => RS.ofE ρ (nc ρ st) fun c st1 => if c = true then
  match m ρ st1 with
  | .nx ρ' st' => YlX nc m n ρ' st'
  | .ct ρ' st' => YlX nc m n ρ' st'
  | .bk ρ' st' => .nx ρ' st'
  | r => r
  else .nx ρ st1
def turns : Nat := 1000000
def Ynb (nc : MT) (m : MS) : MS := YlX nc m turns
theorem Ygf {pos : Pos} (hp : PassesOwn (model X.prog X.w) X.A X.env X.xe) (hc : JT X c nc) (hb : JSs X ss m) : JS X (.While c ss [] pos) (Ynb nc m) :=
 PS.imp (Ygs hp hc hb) fun D σ H ⟨as, ρ, st, en, rp, h⟩ => by
  refine ⟨fun n σ H => ∃ as ρ st, YkZ X.K as H ρ σ /\ Rep X.K as st H /\ Yk1 X as H (YlX nc m n ρ st) D, ⟨turns, as, ρ, st, en, rp, h⟩, ?_⟩
  rintro n σ H ⟨as, ρ, st, en, rp, h⟩
  cases n with
  | zero => show 152
  | succ n =>
   refine ⟨as, ρ, st, en, rp, Yk1.ofB h fun k st1 as1 H1 x rp1 h1 => ?_⟩
   cases k with
   | false => rw [ZAJ ZAQ] at h1 ⊢; exact h1 as1 H1 σ Ext.refl rp1 (en.ext x)
   | true =>
    rw [ZAI rfl] at h1 ⊢
    refine ⟨fun σ' H' => ∃ as ρ st, YkZ X.K as H' ρ σ' /\ Rep X.K as st H' /\ Yk1 X as H' (YlX nc m n ρ st) D, fun σ' H' q => ⟨n, ZAz n, q⟩, as1, ρ, st1, en.ext x, rp1, ?_⟩
    cases q : m ρ st1 with
    | nx ρ' st' => rw [q] at h1; exact fun as' H' σ' x rp en => ⟨as', ρ', st', en, rp, Yk1.ext x h1⟩
    | ct ρ' st' => rw [q] at h1; exact fun as' H' σ' x rp en => ⟨as', ρ', st', en, rp, Yk1.ext x h1⟩
    | bk ρ' st' => rw [q] at h1; exact h1
    | rt p st' => rw [q] at h1; exact h1
    | exc k ρ' st' => rw [q] at h1; exact h1
    | bad => rw [q] at h1; exact h1
abbrev MG := P -> Rho -> YkJ -> Option Rho
abbrev MGs := List P -> Rho -> YkJ -> Option Rho
def tG (X : Cx) (g : MG) : TG := fun v σ H Q => ∃ as ρ st p ρ', YkZ X.K as H ρ σ /\ Rep X.K as st H /\ Den X.K as H v p /\ g p ρ st = some ρ' /\ ∀ σ', YkZ X.K as H ρ' σ' -> Q σ' H
def tGs (X : Cx) (g : MGs) : TGs := fun vs σ H Q => ∃ as ρ st ps ρ', YkZ X.K as H ρ σ /\ Rep X.K as st H /\ Dens X.K as H vs ps /\ g ps ρ st = some ρ' /\ ∀ σ', YkZ X.K as H ρ' σ' -> Q σ' H
abbrev JG (X : Cx) (t : Expr) (g : MG) : Prop := PG X t (tG X g)
abbrev JGs (X : Cx) (ts : List Expr) (g : MGs) : Prop := PGs X ts (tGs X g)
theorem PG.imp {t t' : TG} (h : PG X e t) (i : ∀ v σ H Q, t' v σ H Q -> t v σ H Q) : PG X e t' := fun pins s σ H v u Q I r q => h pins s σ H v u Q I r (i v σ H Q q)
theorem PGs.imp {es : List Expr} {t t' : TGs} (h : PGs X es t) (i : ∀ v σ H Q, t' v σ H Q -> t v σ H Q) : PGs X es t' := fun pins s σ H v u Q I r q => h pins s σ H v u Q I r (i v σ H Q q)
def YkM (i : Nat) : MG := fun p ρ _ => some (ρ.set i (some p))
def YlR : MGs := fun ps ρ _ => match ps with
 | [] => some ρ
 | _ => none
def Yk8 (g : MG) (r : MGs) : MGs := fun ps ρ st => match ps with
 | p :: qs => (g p ρ st).bind fun ρ1 => r qs ρ1 st
 | [] => none
theorem Ym {i : Nat} {x : Str} (hN : X.N.Nodup) (hi : X.N[i]? = some x) (hx : Loc X.env.scope x) (hf : X.fn x = true \/ X.env.scope.names.lookup x = some .local := by first | exact .inl rfl | exact .inr rfl | assumption) : JG X (.Name x pos) (YkM i) :=
 PG.imp (Yhb hN hi hx hf) fun v σ H Q ⟨as, ρ, st, p, ρ', en, rp, d, g, h⟩ => by cases g; exact h _ (en.set d)
theorem WX : JGs X [] YlR := PGs.imp Yhm fun vs σ H Q ⟨as, ρ, st, ps, ρ', en, rp, d, g, h⟩ => by
 cases d with
 | nil => cases g; exact ⟨rfl, h _ en⟩
 | cons a b => cases g
theorem YY {es : List Expr} {g : MG} {r : MGs} (h1 : JG X e g) (h2 : JGs X es r) (hs : (assignEach (e :: es) X.env).map (·.2) = assign e X.env :: (assignEach es X.env).map (·.2) := by rfl) : JGs X (e :: es) (Yk8 g r) :=
 PGs.imp (YfX h1 h2 hs) fun vs σ H Q ⟨as, ρ, st, ps, ρ', en, rp, d, q, h⟩ => by
  cases d with
  | nil => cases q
  | @cons v p vs ps a b =>
   have q' : (g p ρ st).bind (fun ρ1 => r ps ρ1 st) = some ρ' := q
   cases z : g p ρ st with
   | none => rw [z] at q'; cases q'
   | some ρ1 =>
    rw [z] at q'
    exact ⟨v, vs, rfl, as, ρ, st, p, ρ1, en, rp, a, z, fun σ' en' => ⟨as, ρ1, st, ps, ρ', en', rp, b, q', h⟩⟩
structure Src where
 n : Nat
 nx : Nat -> YkJ -> Option (Option P)
abbrev MI := Rho -> YkJ -> R Src
structure YmF (K : Frag) (as : List Addr) (H : Hp) (src : Src) (J : It) : Prop where
 go : ∀ i as2 st2 H2 p, Ext as H as2 H2 -> Rep K as2 st2 H2 -> src.nx i st2 = some (some p) -> J.go i H2 /\ ∀ x H3, J.yld i H2 x H3 -> Ext as2 H2 as2 H3 /\ Rep K as2 st2 H3 /\ Den K as2 H3 x p
 stop : ∀ i as2 st2 H2, Ext as H as2 H2 -> Rep K as2 st2 H2 -> src.nx i st2 = some none -> J.stop i H2
def Ylh (X : Cx) (as : List Addr) (H : Hp) (ρ : Rho) (r : R Src) (Q : It -> Hp -> Prop) : Prop :=
 match r with
 | .ok src st' => ∀ as' H' J, Ext as H as' H' -> Rep X.K as' st' H' -> YmF X.K as' H' src J -> Q J H'
 | .exc k st' => XOk X as H ρ k st'
 | .bad => False
def tI (X : Cx) (m : MI) : TI := fun σ H R => ∃ as ρ st, YkZ X.K as H ρ σ /\ Rep X.K as st H /\ Ylh X as H ρ (m ρ st) R
abbrev JI (X : Cx) (tg iter : Expr) (m : MI) : Prop := PI X tg iter (tI X m)
def YlF (src : Src) (g : MG) (m : MS) : Nat -> Nat -> Rho -> YkJ -> RS
 | 0, i, ρ, st => match src.nx i st with
  | some none => .nx ρ st
  | _ => .bad
 | n + 1, i, ρ, st => match src.nx i st with
  | some none => .nx ρ st
  | none => .bad
  | some (some p) => match g p ρ st with
   | none => .bad
   | some ρ1 => match m ρ1 st with
    | .nx ρ' st' => YlF src g m n (i + 1) ρ' st'
    | .ct ρ' st' => YlF src g m n (i + 1) ρ' st'
    | .bk ρ' st' => .nx ρ' st'
    | r => r
def Yl2 (mi : MI) (g : MG) (m : MS) : MS := fun ρ st => RS.ofE ρ (mi ρ st) fun src st1 => YlF src g m src.n 0 ρ st1
theorem Zw {tg iter : Expr} {mi : MI} {g : MG} {pos : Pos} (hp : PassesOwn (model X.prog X.w) X.A X.env X.xe) (hc : X.calm = true) (hi : JI X tg iter mi) (hg : JG X tg g) (hb : JSs X ss m)
 (hs : ∀ x, foldedSetIterable iter X.env x = pure x := by intro _; rfl) : JS X (.For tg iter ss [] pos) (Yl2 mi g m) :=
 PS.imp (Yih hp hc hi hg hb hs) fun D σ H ⟨as, ρ, st, en, rp, h⟩ => by
  refine ⟨as, ρ, st, en, rp, ?_⟩
  unfold Yl2 at h
  cases q : mi ρ st with
  | bad => show 164
  | exc k st' => show 164
  | ok src st1 =>
   show 167
   intro as1 H1 J x rp1 ok
   have h1 : Yk1 X as1 H1 (YlF src g m src.n 0 ρ st1) D := Yk1.ext x h
   refine ⟨fun i n σ H => ∃ as ρ st, Ext as1 H1 as H /\ YkZ X.K as H ρ σ /\ Rep X.K as st H /\ Yk1 X as H (YlF src g m n i ρ st) D, ⟨src.n, as1, ρ, st1, Ext.refl, en.ext x, rp1, h1⟩, ?_⟩
   rintro i n σ H ⟨as2, ρ, st2, x2, en, rp2, h⟩
   have stopC : src.nx i st2 = some none -> Yk1 X as2 H (.nx ρ st2) D -> J.stop i H /\ D.nx σ H := fun e p => ⟨ok.stop i as2 st2 H x2 rp2 e, p as2 H σ Ext.refl rp2 en⟩
   cases n with
   | zero =>
    cases e : src.nx i st2 with
    | none => simp only [YlF, e] at h; exact h.elim
    | some o =>
     cases o with
     | some p => simp only [YlF, e] at h; exact h.elim
     | none => simp only [YlF, e] at h; exact .inl (stopC e h)
   | succ n =>
    cases e : src.nx i st2 with
    | none => simp only [YlF, e] at h; exact h.elim
    | some o =>
     cases o with
     | none => simp only [YlF, e] at h; exact .inl (stopC e h)
     | some p =>
      obtain ⟨g1, g2⟩ := ok.go i as2 st2 H p x2 rp2 e
      cases z : g p ρ st2 with
      | none => simp only [YlF, e, z] at h; exact h.elim
      | some ρ1 =>
       simp only [YlF, e, z] at h
       refine .inr ⟨g1, fun σ' H' => ∃ as ρ st, Ext as1 H1 as H' /\ YkZ X.K as H' ρ σ' /\ Rep X.K as st H' /\ Yk1 X as H' (YlF src g m n (i + 1) ρ st) D, fun σ' H' q => ⟨n, ZAz n, q⟩, fun v H3 y => ?_⟩
       obtain ⟨x3, rp3, d⟩ := g2 v H3 y
       refine ⟨as2, ρ, st2, p, ρ1, en.ext x3, rp3, d, z, fun σ2 en2 => ⟨as2, ρ1, st2, en2, rp3, ?_⟩⟩
       have h := Yk1.ext x3 h
       cases w : m ρ1 st2 with
       | nx ρ' st' => rw [w] at h; exact fun as' H' σ' x4 rp en => ⟨as', ρ', st', (x2.trans x3).trans x4, en, rp, Yk1.ext x4 h⟩
       | ct ρ' st' => rw [w] at h; exact fun as' H' σ' x4 rp en => ⟨as', ρ', st', (x2.trans x3).trans x4, en, rp, Yk1.ext x4 h⟩
       | bk ρ' st' => rw [w] at h; exact h
       | rt p st' => rw [w] at h; exact h
       | exc k ρ' st' => rw [w] at h; exact h
       | bad => rw [w] at h; exact h
end
def ItR (X : Cx) (tg : Expr) (r : V -> Hp -> (It -> Hp -> Prop) -> Prop) : Prop :=
 ∀ (pins : LAO) (s : Shared) (σ : St) (H : Hp) (x : V) (v : Value) (R : It -> Hp -> Prop), Inv X pins σ H s -> RelV x v -> r x H R -> wpAny (model X.prog X.w) X.A (pyIter v) (PIE X pins σ tg R) X.xe s
def Its (z : Str) : It := ⟨fun i _ => i < z.cps.size, fun i H x H' => H' = H /\ ∃ c, z.cps[i]? = some c /\ x = .str ⟨#[c]⟩, fun i _ => i = z.cps.size⟩
section
variable {X : Cx} {tg : Expr}
theorem Yg0 : ItR X tg (fun x H R => ∃ a, x = .ref a /\ (∃ xs, SqL X.K H a xs) /\ R (Itl X.K a) H) := by
 show 249
 obtain ⟨a, rfl, ⟨xs, hq⟩, q⟩ := h
 cases rx
 obtain ⟨its, rv, p, hz⟩ := I.list hq
 refine ZBc p.isList ?_
 refine ⟨s.heap.objs.size, [s.heap.objs.size], _, _, H, rfl, I.kept (t' := s.toks) fun b o e => ZAB _ e, YeZ a _, ⟨_, ZAF _ rfl, rfl, rfl⟩, fun b hb => ?_, q⟩
 show 67
theorem Yin : ItR X tg (fun x H R => ∃ a, x = .ref a /\ (∃ xs, SqT X.K H a xs) /\ R (Itt X.K a) H) := by
 show 249
 obtain ⟨a, rfl, ⟨xs, hq⟩, q⟩ := h
 cases rx
 obtain ⟨its, rv, p, hz⟩ := I.tuple hq
 refine wpAny_pyIter_tuple (show s.heap.IsTuple a its.toArray from p) ?_
 refine ⟨s.heap.objs.size, [s.heap.objs.size], _, _, H, rfl, I.kept (t' := s.toks) fun b o e => ZAB _ e, YcY a _, ⟨_, ZAF _ rfl, rfl, rfl⟩, fun b hb => ?_, q⟩
 show 67
theorem YbU {P : Program} {w : World} {K : Frag} {n : String} {z : Str} {t : Tok} (it : Addr)
 (hn : ["enumerate", "zip", "dict_itemiterator", "dict_reverseitemiterator", "odict_iterator", "itertools.zip_longest", "itertools.pairwise"].contains n = false)
 (W : ∀ A : Around, A.handled = none -> Walks P w A it [it] [it] z.cps.size (SignAt z) (fun i h => h.IsStrIter it n z t i))
 (sf : ∀ (A : Around) (i : Nat) (s : Shared) (Q : VSP) (E : VSP), s.heap.IsStrIter it n z t i -> Q (.ref it) s -> wpAny (model P w) A (pyIter (.ref it)) Q E s) : Turn P w K tg (Its z) [it] it (fun i h => h.IsStrIter it n z t i) where
 mem := by simp
 obj := fun i h st b hb => by
  show 80
 keep := fun i h h' st k => by
  obtain ⟨o, e, r⟩ := st
  exact ⟨o, k it (by simp) o e, r⟩
 item := by
  show 89
  refine (W X.A (I.ok.hd hc)).item i s _ _ hg st fun v h' tk hv st' kk => ?_
  obtain ⟨c, u, hc', rfl⟩ := hv
  have I1 : Inv X pins σ H { s with heap := h', toks := tk } := I.turned (fun b o hb e => kk b o (by simpa using hb) e) f0 f1 f3 f4 f5
  obtain ⟨o, e, c', d⟩ := id st'
  exact ⟨_, rfl, YcC (s := { s with heap := h', toks := tk }) e c' d hn ⟨.str ⟨#[c]⟩, H, I1, ⟨u, rfl⟩, ⟨rfl, c, hc', rfl⟩, st', fun b hb => (hf b hb).1⟩⟩
 done := by
  show 89
  have e : i = z.cps.size := hg
  subst e
  exact (W X.A (I.ok.hd hc)).done s _ _ st fun h' tk kk => ⟨rfl, I.turned (fun b o hb e => kk b o (by simpa using hb) e) f0 f1 f3 f4 f5⟩
 self := fun A i s Q E st h => sf A i s Q E st h
theorem Yjg : ItR X tg (fun x H R => ∃ z, x = .str z /\ R (Its z) H) := by
 show 249
 obtain ⟨z, rfl, q⟩ := h
 show 181
 have fp : ∀ b ∈ [s.heap.objs.size], YlA X pins H b := fun b hb => by
  show 67
 cases ha : z.cps.all (· < 128)
 ·refine wpAny_pyIter_wide ha ?_
  exact ⟨s.heap.objs.size, [s.heap.objs.size], _, _, H, rfl, I.kept (t' := s.toks) fun b o e => ZAB _ e, YbU _ (by decide) (fun A hA => Walks.strWide hA _ z t) (fun A i s Q E st h => wpAny_pyIter_striter_wide st h), ⟨_, ZAF _ rfl, rfl, rfl⟩, fp, q⟩
 ·refine wpAny_pyIter_ascii ha ?_
  exact ⟨s.heap.objs.size, [s.heap.objs.size], _, _, H, rfl, I.kept (t' := s.toks) fun b o e => ZAB _ e, YbU _ (by decide) (fun A hA => Walks.strAscii hA _ z t) (fun A i s Q E st h => wpAny_pyIter_striter_ascii st h), ⟨_, ZAF _ rfl, rfl, rfl⟩, fp, q⟩
def Ym4 (c : Nat) : P := .str ⟨#[c]⟩
def Yng (xs : List P) : Src := ⟨xs.length, fun i _ => some xs[i]?⟩
def Ymp (z : Str) : Src := ⟨z.cps.size, fun i _ => if i < z.cps.size then some ((z.cps[i]?).map Ym4) else if i = z.cps.size then some none else none⟩
def Ymg (k : Nat) (n : Nat) : Src := ⟨n, fun i st => match st[k]? with
 | some (.lst ys) => some ys[i]?
 | some (.ro ys) => some ys[i]?
 | _ => none⟩
def srcOf (p : P) (st : YkJ) : Option Src := match p with
 | .tup xs => some (Yng xs)
 | .str z => some (Ymp z)
 | .ref k => match st[k]? with
  | some (.lst xs) => some (Ymg k xs.length)
  | some (.ro xs) => some (Ymg k xs.length)
  | _ => none
 | _ => none
theorem Ya5 {K : Frag} {as : List Addr} {H : Hp} {k n : Nat} {a : Addr} (hk : as[k]? = some a) : YmF K as H (Ymg k n) (Itl K a) where
 go := fun i as2 st2 H2 p x rp e => by
  have hk2 := x.pre k a hk
  have e' : (match st2[k]? with | some (.lst ys) => some ys[i]? | some (.ro ys) => some ys[i]? | _ => none) = some (some p) := e
  cases q : st2[k]? with
  | none => rw [q] at e'; cases e'
  | some o =>
   rw [q] at e'
   have ob := rp.ob k a o hk2 q
   cases o with
   | lst ys =>
    show 196
    obtain ⟨v, h3, h4⟩ := h2.get (Option.some.inj e')
    exact ⟨⟨vs, v, .of h1, h3⟩, fun y H3 ⟨z1, z2⟩ => by subst z1; rw [z2 vs (.of h1)] at h3; cases h3; exact ⟨Ext.refl, rp, h4⟩⟩
   | ro ys =>
    show 196
    obtain ⟨v, h3, h4⟩ := h2.get (Option.some.inj e')
    exact ⟨⟨vs, v, Z7 h1, h3⟩, fun y H3 ⟨z1, z2⟩ => by subst z1; rw [z2 vs (Z7 h1)] at h3; cases h3; exact ⟨Ext.refl, rp, h4⟩⟩
   | dct ys => cases e'
   | exc c ys => cases e'
   | dtt kvs => cases e'
   | fdc kvs => cases e'
 stop := fun i as2 st2 H2 x rp e => by
  have hk2 := x.pre k a hk
  have e' : (match st2[k]? with | some (.lst ys) => some ys[i]? | some (.ro ys) => some ys[i]? | _ => none) = some none := e
  cases q : st2[k]? with
  | none => rw [q] at e'; cases e'
  | some o =>
   rw [q] at e'
   have ob := rp.ob k a o hk2 q
   cases o with
   | lst ys =>
    show 196
    exact ⟨vs, .of h1, by rw [h2.length]; exact ZAk.mp (Option.some.inj e')⟩
   | ro ys =>
    show 196
    exact ⟨vs, Z7 h1, by rw [h2.length]; exact ZAk.mp (Option.some.inj e')⟩
   | dct ys => cases e'
   | exc c ys => cases e'
   | dtt kvs => cases e'
   | fdc kvs => cases e'
theorem YfR {K : Frag} {as : List Addr} {H : Hp} {a : Addr} {vs : List V} {xs : List P} (h1 : SqT K H a vs) (h2 : Dens K as H vs xs) : YmF K as H (Yng xs) (Itt K a) where
 go := fun i as2 st2 H2 p x rp e => by
  have e' : some xs[i]? = some (some p) := e
  obtain ⟨v, h3, h4⟩ := (h2.ext x).get (Option.some.inj e')
  exact ⟨⟨vs, v, SqT.ext x h1, h3⟩, fun y H3 ⟨z1, z2⟩ => by subst z1; rw [z2 vs (SqT.ext x h1)] at h3; cases h3; exact ⟨Ext.refl, rp, h4⟩⟩
 stop := fun i as2 st2 H2 x rp e => by
  have e' : some xs[i]? = some none := e
  exact ⟨vs, SqT.ext x h1, by rw [h2.length]; exact ZAk.mp (Option.some.inj e')⟩
theorem YfC {K : Frag} {as : List Addr} {H : Hp} {z : Str} : YmF K as H (Ymp z) (Its z) where
 go := fun i as2 st2 H2 p x rp e => by
  have e' : (if i < z.cps.size then some ((z.cps[i]?).map Ym4) else if i = z.cps.size then some none else none) = some (some p) := e
  by_cases hi : i < z.cps.size
  ·rw [ZAI hi] at e'
   refine ⟨hi, fun y H3 ⟨z1, c, z2, z3⟩ => ?_⟩
   subst z1; subst z3
   rw [z2] at e'
   cases Option.some.inj (Option.some.inj e')
   exact ⟨Ext.refl, rp, .str⟩
  ·rw [ZAJ hi] at e'
   by_cases hj : i = z.cps.size
   ·rw [ZAI hj] at e'; cases e'
   ·rw [ZAJ hj] at e'; cases e'
 stop := fun i as2 st2 H2 x rp e => by
  have e' : (if i < z.cps.size then some ((z.cps[i]?).map Ym4) else if i = z.cps.size then some none else none) = some none := e
  by_cases hi : i < z.cps.size
  ·rw [ZAI hi] at e'
   have := Option.some.inj e'
   simp [hi] at this
  ·rw [ZAJ hi] at e'
   by_cases hj : i = z.cps.size
   ·exact hj
   ·rw [ZAJ hj] at e'; cases e'
def YlP (me : ME) : MI := fun ρ st => (me ρ st).bind fun p st1 => match srcOf p st1 with
 | some s => .ok s st1
 | none => .bad
theorem Ylh.ext {as as1 : List Addr} {H H1 : Hp} {ρ : Rho} {r : R Src} {Q : It -> Hp -> Prop} (x : Ext as H as1 H1) (h : Ylh X as H ρ r Q) : Ylh X as1 H1 ρ r Q := by
 cases r with
 | ok p st' => exact fun as' H' J y => h as' H' J (x.trans y)
 | exc k st' => show 199
 | bad => exact h
theorem Ylh.bindE {as : List Addr} {H : Hp} {ρ : Rho} {r : R P} {f : P -> YkJ -> R Src} {Q : It -> Hp -> Prop} {Q' : VK} (h : Ylh X as H ρ (r.bind f) Q)
 (go : ∀ p st1 as1 H1 v, Ext as H as1 H1 -> Rep X.K as1 st1 H1 -> Den X.K as1 H1 v p -> Ylh X as1 H1 ρ (f p st1) Q -> Q' v H1) : YkV X as H ρ r Q' := by
 cases r with
 | ok p st1 => exact fun as1 H1 v x rp d => go p st1 as1 H1 v x rp d (Ylh.ext x h)
 | exc k st' => exact h
 | bad => exact h
theorem Ylh.bindA {as : List Addr} {H : Hp} {ρ : Rho} {r : R (List P)} {f : List P -> YkJ -> R Src} {Q : It -> Hp -> Prop} {Q' : List V -> Hp -> Prop} (h : Ylh X as H ρ (r.bind f) Q)
 (go : ∀ p st1 as1 H1 v, Ext as H as1 H1 -> Rep X.K as1 st1 H1 -> Dens X.K as1 H1 v p -> Ylh X as1 H1 ρ (f p st1) Q -> Q' v H1) : Ylx X as H ρ r Q' := by
 cases r with
 | ok p st1 => exact fun as1 H1 v x rp d => go p st1 as1 H1 v x rp d (Ylh.ext x h)
 | exc k st' => exact h
 | bad => exact h
theorem Ylh.bindL {as : List Addr} {H : Hp} {ρ : Rho} {r : R (List P)} {f : List P -> YkJ -> R Src} {Q : It -> Hp -> Prop} {Q' : VK} (h : Ylh X as H ρ (r.bind f) Q)
 (go : ∀ ps st1 as1 H1 l vs, Ext as H as1 H1 -> Rep X.K as1 st1 H1 -> H1 l = some (.lst vs) -> YmJ as1 st1 l -> Dens X.K as1 H1 vs ps -> Ylh X as1 H1 ρ (f ps st1) Q -> Q' (.ref l) H1) : Yk3 X as H ρ r Q' := by
 cases r with
 | ok p st1 => exact fun as1 H1 l v x rp hl nl d => go p st1 as1 H1 l v x rp hl nl d (Ylh.ext x h)
 | exc k st' => exact h
 | bad => exact h
theorem YjF : ItR X tg (fun x H R => (∃ a, x = .ref a /\ (∃ xs, SqL X.K H a xs) /\ R (Itl X.K a) H) \/ (∃ a, x = .ref a /\ (∃ xs, SqT X.K H a xs) /\ R (Itt X.K a) H) \/ ∃ z, x = .str z /\ R (Its z) H) := by
 show 249
 rcases h with h | h | h
 ·exact Yg0 pins s σ H x v R I rx h
 ·exact Yin pins s σ H x v R I rx h
 ·exact Yjg pins s σ H x v R I rx h
theorem Y4 {e : Expr} {me : ME} (he : JE X e me) : JI X tg e (YlP me) := by
 show 226
 refine thn (he pins s σ H (fun x H1 => (∃ a, x = .ref a /\ (∃ xs, SqL X.K H1 a xs) /\ R (Itl X.K a) H1) \/ (∃ a, x = .ref a /\ (∃ xs, SqT X.K H1 a xs) /\ R (Itt X.K a) H1) \/ ∃ z, x = .str z /\ R (Its z) H1) I
  ⟨as, ρ, st, en, rp, Ylh.bindE h fun p st1 as1 H1 v x rp1 d h1 => ?_⟩) fun v s1 ⟨x, H1, I1, r1, q1⟩ => YjF pins s1 σ H1 x v R I1 r1 q1
 cases d with
 | str => exact .inr (.inr ⟨_, rfl, h1 as1 H1 _ Ext.refl rp1 YfC⟩)
 | tup e r => exact .inr (.inl ⟨_, rfl, ⟨_, e⟩, h1 as1 H1 _ Ext.refl rp1 (YfR e r)⟩)
 | ref e =>
  rename_i k a
  have h2 : Ylh X as1 H1 ρ (match (match st1[k]? with | some (.lst xs) => some (Ymg k xs.length) | some (.ro xs) => some (Ymg k xs.length) | _ => none) with | some s => .ok s st1 | none => .bad) R := h1
  cases q : st1[k]? with
  | none => rw [q] at h2; exact h2.elim
  | some o =>
   rw [q] at h2
   have ob := rp1.ob k a o e q
   cases o with
   | lst ys => obtain ⟨vs, g1, g2⟩ := ob; exact .inl ⟨a, rfl, ⟨vs, .of g1⟩, h2 as1 H1 _ Ext.refl rp1 (Ya5 e)⟩
   | ro ys => obtain ⟨vs, g1, g2⟩ := ob; exact .inl ⟨a, rfl, ⟨vs, Z7 g1⟩, h2 as1 H1 _ Ext.refl rp1 (Ya5 e)⟩
   | dct ys => exact h2.elim
   | exc c ys => exact h2.elim
   | dtt kvs => exact h2.elim
   | fdc kvs => exact h2.elim
 | _ => show 173
def YlO (lo : Int) (n : Nat) : Src := ⟨n, fun i _ => some (if i < n then some (.int (lo + i)) else none)⟩
theorem J8 {K : Frag} {as : List Addr} {H : Hp} {lo : Int} {n : Nat} : YmF K as H (YlO lo n) (Itr lo n) where
 go := fun i as2 st2 H2 p x rp e => by
  have e' : some (if i < n then some (P.int (lo + i)) else none) = some (some p) := e
  by_cases hi : i < n
  ·rw [ZAI hi] at e'
   cases Option.some.inj (Option.some.inj e')
   exact ⟨hi, fun y H3 ⟨z1, z2⟩ => by subst z1; subst z2; exact ⟨Ext.refl, rp, .int⟩⟩
  ·rw [ZAJ hi] at e'; cases Option.some.inj e'
 stop := fun i as2 st2 H2 x rp e => by
  have e' : some (if i < n then some (P.int (lo + i)) else none) = some none := e
  by_cases hi : i < n
  ·rw [ZAI hi] at e'; cases Option.some.inj e'
  ·exact Nat.le_of_not_lt hi
def small62 (i : Int) : Bool := decide (-(2 ^ 62) <= i) && decide (i < 2 ^ 62)
theorem Zc {i : Int} (h : small62 i = true) : -(2 ^ 62) <= i /\ i < 2 ^ 62 := ⟨ZAs (ZBK.mp h).1, ZAs (ZBK.mp h).2⟩
def Ylr (mr : MA) : MI := fun ρ st => (mr ρ st).bind fun ps st1 => match ps with
 | [.int j] => if small62 j = true then .ok (YlO 0 j.toNat) st1 else .bad
 | [.int i, .int j] => if small62 i = true /\ small62 j = true then .ok (YlO i (j - i).toNat) st1 else .bad
 | _ => .bad
theorem Zb {a : Expr} {mr : MA} {p pos : Pos} (hg : Gl X "range") (hm : X.mg "range" = none) (ha : JA X [a] mr) (hl : ∀ ρ st ps st', mr ρ st = .ok ps st' -> ps.length = 1) (hs : starEach [a] X.env = [(false, eval a X.env)] := by rfl) : JI X tg (.Call (.Name "range" p) [a] [] pos) (Ylr mr) := by
 show 226
 refine Yet (tg := tg) hg hm ha hs pins s σ H R I ⟨as, ρ, st, en, rp, ?_⟩
 unfold Ylr at h
 cases q : mr ρ st with
 | bad => show 164
 | exc k st' => show 164
 | ok ps st1 =>
  show 167
  have hl := hl ρ st ps st1 q
  intro as1 H1 vs x rp1 d
  have h1 := Ylh.ext x h
  cases d with
  | nil => cases hl
  | cons d1 d2 =>
   cases d2 with
   | cons d3 d4 => cases hl
   | nil =>
    cases d1 with
    | int =>
     rename_i j
     have h2 : Ylh X as1 H1 ρ (if small62 j = true then .ok (YlO 0 j.toNat) st1 else .bad) R := h1
     by_cases hj : small62 j = true
     ·rw [ZAI hj] at h2
      exact ⟨j, rfl, (Zc hj).1, (Zc hj).2, h2 as1 H1 _ Ext.refl rp1 J8⟩
     ·rw [ZAJ hj] at h2; exact h2.elim
    | _ => show 173
theorem YeR {a b : Expr} {mr : MA} {p pos : Pos} (hg : Gl X "range") (hm : X.mg "range" = none) (ha : JA X [a, b] mr) (hl : ∀ ρ st ps st', mr ρ st = .ok ps st' -> ps.length = 2) (hs : starEach [a, b] X.env = [(false, eval a X.env), (false, eval b X.env)] := by rfl) (hs2 : starEach [b] X.env = [(false, eval b X.env)] := by rfl) :
 JI X tg (.Call (.Name "range" p) [a, b] [] pos) (Ylr mr) := by
 show 226
 refine YdY (tg := tg) hg hm ha hs hs2 pins s σ H R I ⟨as, ρ, st, en, rp, ?_⟩
 unfold Ylr at h
 cases q : mr ρ st with
 | bad => show 164
 | exc k st' => show 164
 | ok ps st1 =>
  show 167
  have hl := hl ρ st ps st1 q
  intro as1 H1 vs x rp1 d
  have h1 := Ylh.ext x h
  cases d with
  | nil => cases hl
  | cons d1 d2 =>
   cases d2 with
   | nil => cases hl
   | cons d3 d4 =>
    cases d4 with
    | cons d5 d6 => cases hl
    | nil =>
     cases d1 with
     | int =>
      rename_i i
      cases d3 with
      | int =>
       rename_i j
       have h2 : Ylh X as1 H1 ρ (if small62 i = true /\ small62 j = true then .ok (YlO i (j - i).toNat) st1 else .bad) R := h1
       by_cases hj : small62 i = true /\ small62 j = true
       ·rw [ZAI hj] at h2
        exact ⟨i, j, rfl, ⟨(Zc hj.1).1, (Zc hj.1).2, (Zc hj.2).1, (Zc hj.2).2⟩, h2 as1 H1 _ Ext.refl rp1 J8⟩
       ·rw [ZAJ hj] at h2; exact h2.elim
      | _ => show 173
     | _ => show 173
theorem Y0 {me : ME} {mr : MA} {n : Nat} (h : ∀ ρ st ps st', mr ρ st = .ok ps st' -> ps.length = n) : ∀ ρ st ps st', YkI me mr ρ st = .ok ps st' -> ps.length = n + 1 := by
 intro ρ st ps st' e
 unfold YkI at e
 cases q : me ρ st with
 | bad => show 209
 | exc k s => show 209
 | ok p s1 =>
  rw [q, R.bind_ok] at e
  cases q2 : mr ρ s1 with
  | bad => rw [q2] at e; cases e
  | exc k s => rw [q2] at e; cases e
  | ok qs s2 =>
   rw [q2, R.bind_ok] at e
   cases e
   rw [ZBk, h _ _ _ _ q2]
theorem Zg : ∀ ρ st ps st', YkN ρ st = .ok ps st' -> ps.length = 0 := by
 intro ρ st ps st' e
 cases e
 rfl
end
def Yk9 (cells : List (Str × Addr)) : List (Str × NameKind) -> List (Str × Addr) -> List (Str × Addr)
 | [], acc => acc
 | (n, k) :: r, acc => if (k == NameKind.free) = true then match cells.lookup n with
  | some c => Yk9 cells r ((n, c) :: acc)
  | none => Yk9 cells r acc
  else Yk9 cells r acc
theorem Va {scope : Scope} {env : Env} (h : ∀ x ∈ scope.names, x.2 = .free -> ∃ c, env.cells.lookup x.1 = some c) : closureFor scope env = pure (Yk9 env.cells scope.names []) := by
 unfold closureFor
 have key : ∀ (names : List (Str × NameKind)) (acc : List (Str × Addr)), (∀ x ∈ names, x.2 = .free -> ∃ c, env.cells.lookup x.1 = some c) ->
  (forIn names acc fun x r => match x with | (name, kind) => (if (kind == NameKind.free) = true then do let y <- cellOf env name; pure (ForInStep.yield ((name, y) :: r)) else pure (ForInStep.yield r) : Sem (ForInStep (List (Str × Addr))))) = (pure (Yk9 env.cells names acc) : Sem _) := by
  intro names
  induction names with
  | nil => intro acc _; rfl
  | cons x r ih =>
   intro acc hx
   obtain ⟨n, k⟩ := x
   rw [List.forIn_cons]
   have hr := fun y hy => hx y (ZAd _ hy)
   by_cases hk : (k == NameKind.free) = true
   ·obtain ⟨c, hc⟩ := hx (n, k) List.mem_cons_self (by simpa using hk)
    simp only [hk, if_true, Yk9]
    have hc' : env.cells.lookup n = some c := hc
    have e : cellOf env n = pure c := by unfold cellOf; rw [hc']
    rw [e, hc']
    exact ih _ hr
   ·simp only [hk, Yk9]
    exact ih _ hr
 exact Eq.trans (ZBj (fun m => m >>= fun cs => pure cs) (key scope.names [] h)) rfl
theorem Zp {cells : List (Str × Addr)} {x : Str} {c : Addr} : ∀ {names : List (Str × NameKind)} {acc : List (Str × Addr)}, (Yk9 cells names acc).lookup x = some c -> acc.lookup x = some c \/ cells.lookup x = some c
 | [], acc, h => .inl h
 | (n, k) :: r, acc, h => by
  unfold Yk9 at h
  split at h
  ·split at h
   ·rename_i c' hc
    rcases Zp h with z | z
    ·rw [ZBG] at z
     cases hx : x == n with
     | true =>
      rw [hx] at z
      have := eq_of_beq hx
      subst this
      exact .inr (by rw [hc]; exact z)
     | false => rw [hx] at z; exact .inl z
    ·exact .inr z
   ·exact Zp h
  ·exact Zp h
theorem Wo {cells : List (Str × Addr)} {x : Str} : ∀ {names : List (Str × NameKind)} {acc : List (Str × Addr)}, (∃ c, acc.lookup x = some c) -> ∃ c, (Yk9 cells names acc).lookup x = some c
 | [], acc, h => h
 | (n, k) :: r, acc, h => by
  unfold Yk9
  split
  ·split
   ·refine Wo ?_
    rw [ZBG]
    cases hx : x == n with
    | true => exact ⟨_, rfl⟩
    | false => exact h
   ·exact Wo h
  ·exact Wo h
theorem ZM {cells : List (Str × Addr)} {x : Str} {c : Addr} (hc : cells.lookup x = some c) : ∀ {names : List (Str × NameKind)} {acc : List (Str × Addr)}, (x, NameKind.free) ∈ names -> ∃ c, (Yk9 cells names acc).lookup x = some c
 | [], acc, h => by cases h
 | (n, k) :: r, acc, h => by
  unfold Yk9
  rcases ZAV.mp h with e | e
  ·cases e
   simp only [beq_self_eq_true, if_true, hc]
   exact Wo ⟨c, by simp [List.lookup_cons]⟩
  ·split
   ·split
    ·exact ZM hc e
    ·exact ZM hc e
   ·exact ZM hc e
theorem ZJ {scope : Scope} {env : Env} {x : Str} {k : NameKind} (h : (relabel scope env).names.lookup x = some k) : scope.names.lookup x = some k \/ (k = .cell /\ scope.names.lookup x = some .free) := by
 unfold relabel at h
 simp only at h
 generalize scope.names = names at h ⊢
 induction names with
 | nil => cases h
 | cons y r ih =>
  obtain ⟨n, j⟩ := y
  rw [ZAe] at h
  rw [ZBG]
  cases hx : x == n with
  | true =>
   simp only
   split at h
   ·rename_i hc
    rw [ZBG, hx] at h
    simp only [Bool.and_eq_true, beq_iff_eq] at hc
    rw [hc.1.1]
    exact .inr ⟨(Option.some.inj h).symm, rfl⟩
   ·rw [ZBG, hx] at h
    exact .inl h
  | false =>
   simp only
   split at h
   ·rw [ZBG, hx] at h; exact ih h
   ·rw [ZBG, hx] at h; exact ih h
theorem YaW {prog : Program} {w : World} {A : Around} {R : Result -> Shared -> Prop} {s : Shared} {elt target iter : Expr} {ifs : List Expr} {scope : Scope} {pos : Pos} {it acc : Value} {env : Env} (I : Nat -> Shared -> Prop)
 (turn : ∀ n s, I n s -> wpAny (model prog w) A (pyNext it) (fun r s₁ => match r with
  | none => R (.ok .next) s₁
  | some v => wpAny (model prog w) A (letOwnedTupleGo target it v) (fun _ s₁' => wpAny (model prog w) A (assign target env v) (fun _ s₂ =>
   wpAny (model prog w) A (forIn ifs true fun c r => if r = true then do let ok <- isTrue c env (eval c env); pure (ForInStep.yield ok) else pure (ForInStep.yield r)) (fun ok s₃ =>
    if ok = true then wpAny (model prog w) A (eval elt env) (fun x s₄ =>
     wpAny (model prog w) A (call (.builtin "list.append") [acc, x]) (fun _ s₅ => ∃ m, m < n /\ I m s₅) (notedBy (model prog w) A env fun e s' => R (.error e) s') s₄) (notedBy (model prog w) A env fun e s' => R (.error e) s') s₃
    else ∃ m, m < n /\ I m s₃) (notedBy (model prog w) A env fun e s' => R (.error e) s') s₂) (notedBy (model prog w) A env fun e s' => R (.error e) s') s₁') (notedBy (model prog w) A env fun e s' => R (.error e) s') s₁) (notedBy (model prog w) A env fun e s' => R (.error e) s') s)
 (n : Nat) (h : I n s) :
 codeAny (model prog w) A (.compLoop (.ListComp elt [⟨target, iter, ifs, 0⟩] scope pos) 0 it acc env) R s := by
 refine codeAny_loop rfl I (fun n s hI => ?_) n h
 show wpAny _ A ((compTurn (.ListComp elt [⟨target, iter, ifs, 0⟩] scope pos) 0 it acc env).onRaise (fun x => do noteFrame x env; theTreesLotGoes x)) _ _ s
 refine wpAny_noted ?_
 rw [compTurn_list]
 refine ZAA (ZCg (ZAA (ZAw (turn n s hI) (fun r s₁ h₁ => ?_) fun _ _ h' => h')))
 cases r with
 | none => exact ZAC h₁
 | some v =>
  refine ZAA (ZAw h₁ (fun _ s₁' h₁' => ?_) fun _ _ h' => h')
  refine ZAA (ZAw h₁' (fun _ s₂ h₂ => ZAA (ZAw h₂ (fun ok s₃ h₃ => ?_) fun _ _ h' => h')) fun _ _ h' => h')
  cases ok with
  | false => exact ZAC ⟨rfl, h₃⟩
  | true =>
   exact ZAA (ZAA (ZAw h₃ (fun x s₄ h₄ => ZAA (ZAw h₄ (fun _ s₅ h₅ => ZAC (ZAC ⟨rfl, h₅⟩)) fun _ _ h' => h')) fun _ _ h' => h'))
def YkR (X : Cx) (scope : Scope) (N : List Str) (C : Addr) (s₀ : Shared) (H₀ : Hp) (ex : List Addr) : Cx where
 prog := X.prog
 w := X.w
 K := X.K
 mg := X.mg
 base := X.base
 A := X.A
 N := N
 s₀ := s₀
 H₀ := H₀
 env := compEnvC scope (Yk9 X.env.cells scope.names []) C X.env
 outer := X.stack
 stack := X.stack
 ex := ex
 fn := fun _ => false
 calm := X.calm
 pn := []
 xe := fun _ _ => False
structure Ylw (X : Cx) (scope : Scope) (TN FN : List Str) (fr : List Nat) : Prop where
 cell : ∀ y ∈ scope.names, y.2 ≠ .cell
 kind : scope.kind = .function
 names : ∀ y ∈ scope.names, y.2 = .local -> scope.names.lookup y.1 = some .local
 free : ∀ y ∈ scope.names, y.2 = .free -> X.env.kindOf y.1 = some .cell \/ X.env.kindOf y.1 = some .free
 lk : ∀ y, scope.names.lookup y = some .free -> (y, NameKind.free) ∈ scope.names
 flen : FN.length = fr.length
 at_ : ∀ (j : Nat) x k, FN[j]? = some x -> fr[j]? = some k -> X.N[k]? = some x /\ scope.names.lookup x = some .free
def rho0 (n : Nat) (fr : List Nat) (ρ : Rho) : Rho := List.replicate n none ++ fr.map fun k => (ρ[k]?).join
section
variable {X : Cx} {scope : Scope} {TN FN : List Str} {fr : List Nat} {pins : LAO} {σ : St} {H : Hp} {s₂ s₄ : Shared} {fp : List Addr} {C : Addr}
theorem Ylw.has (c : Ylw X scope TN FN fr) (ok : X.Ok) : ∀ x ∈ scope.names, x.2 = .free -> ∃ c, X.env.cells.lookup x.1 = some c := fun x hx e => ok.has x.1 (c.free x hx e)
theorem Ylw.cl (c : Ylw X scope TN FN fr) {x : Str} {a : Addr} (h : (Yk9 X.env.cells scope.names []).lookup x = some a) : X.env.cells.lookup x = some a := by
 rcases Zp h with z | z
 ·cases z
 ·exact z
theorem Ylw.freeOf (c : Ylw X scope TN FN fr) {x : Str} (h : (relabel scope X.env).names.lookup x = some .cell \/ (relabel scope X.env).names.lookup x = some .free) : scope.names.lookup x = some .free := by
 have nc : scope.names.lookup x ≠ some .cell := fun z => c.cell _ (PySem.mem_of_lookup z) rfl
 rcases h with h | h
 ·rcases ZJ h with z | ⟨_, z⟩
  ·exact absurd z nc
  ·exact z
 ·rcases ZJ h with z | ⟨z, _⟩
  ·exact z
  ·cases z
theorem Yj7 (c : Ylw X scope TN FN fr) (I : Inv X pins σ H s₂) (hf : ∀ b ∈ fp, YlA X pins H b) (hfo : ∀ b ∈ fp, ∃ o, s₂.heap.get? b = some o) (hC : s₂.heap.objs.size <= C) : (YkR X scope (TN ++ FN) C s₂ H fp).Ok where
 mod := I.ok.mod
 kind := c.kind
 glob := I.ok.glob
 blt := I.ok.blt
 above := hC
 inj := fun x y a h1 h2 => I.ok.inj x y a (c.cl h1) (c.cl h2)
 has := fun x h => by
  have hx := c.freeOf h
  obtain ⟨a, ha⟩ := c.has I.ok _ (c.lk x hx) rfl
  exact ZM ha (c.lk x hx)
 cab := fun x a h => by cases h
 hd := I.ok.hd
 frames := I.ok.frames
 stk := .inl rfl
 exf := fun b hb => by
  obtain ⟨f0, f1, f2, f3, f4, f5⟩ := hf b hb
  obtain ⟨o, ho⟩ := hfo b hb
  exact ⟨ZAL (ZAN (ZAD ho) hC), fun x a h => f4 x a (c.cl h)⟩
 bs := I.bs
 bsz := ZAH I.ok.bsz I.sz
 noex := fun b o e hb => by
  obtain ⟨f0, f1, f2, f3, f4, f5⟩ := hf b hb
  rcases f3 with z | z
  ·exact I.ok.noex b o e z
  ·exact absurd (ZAN (ZAD e) (ZAH I.ok.bsz z)) (ZA5 _)
 exfs := fun b hb hz => by
  obtain ⟨f0, f1, f2, f3, f4, f5⟩ := hf b hb
  rcases ZAV.mp (I.stkSub b hz) with e | e
  ·exact f1 e
  ·exact f2 e
 funs := I.stack
 frf := I.stkFree
theorem getElem?_rho0 {n : Nat} {ρ : Rho} {i : Nat} {p : P} (h : (rho0 n fr ρ)[i]? = some (some p)) : ∃ j k, i = n + j /\ fr[j]? = some k /\ ρ[k]? = some (some p) := by
 unfold rho0 at h
 by_cases hi : i < n
 ·rw [List.getElem?_append_left (by simpa using hi), List.getElem?_replicate, if_pos hi] at h
  cases h
 ·rw [List.getElem?_append_right (by simpa using hi), List.length_replicate, List.getElem?_map] at h
  refine ⟨i - n, ?_⟩
  cases q : fr[i - n]? with
  | none => show 180
  | some k =>
   show 167
   refine ⟨k, by omega, rfl, ?_⟩
   have h' : (ρ[k]?).join = some p := Option.some.inj h
   cases w : ρ[k]? with
   | none => rw [w] at h'; cases h'
   | some o => rw [w] at h'; rw [show o = some p from h']
def sig0 (n : Nat) (fr : List Nat) (σ : St) : St := List.replicate n none ++ fr.map fun k => (σ[k]?).join
theorem YfI {n : Nat} : (sig0 n fr σ).length = n + fr.length := by simp [sig0]
theorem getElem?_sig0 {n : Nat} {i : Nat} {v : V} (h : (sig0 n fr σ)[i]? = some (some v)) : ∃ j k, i = n + j /\ fr[j]? = some k /\ σ[k]? = some (some v) := by
 unfold sig0 at h
 by_cases hi : i < n
 ·rw [List.getElem?_append_left (by simpa using hi), List.getElem?_replicate, if_pos hi] at h
  cases h
 ·rw [List.getElem?_append_right (by simpa using hi), List.length_replicate, List.getElem?_map] at h
  refine ⟨i - n, ?_⟩
  cases q : fr[i - n]? with
  | none => show 180
  | some k =>
   show 167
   refine ⟨k, by omega, rfl, ?_⟩
   have h' : (σ[k]?).join = some v := Option.some.inj h
   cases w : σ[k]? with
   | none => rw [w] at h'; cases h'
   | some o => rw [w] at h'; rw [show o = some v from h']
theorem env0 {K : Frag} {as : List Addr} {ρ : Rho} {n : Nat} (en : YkZ K as H ρ σ) : YkZ K as H (rho0 n fr ρ) (sig0 n fr σ) :=
 ⟨by simp [rho0, sig0], fun i p e => by
  obtain ⟨j, k, e1, e2, e3⟩ := getElem?_rho0 e
  obtain ⟨v, h1, h2⟩ := en.val k p e3
  refine ⟨v, ?_, h2⟩
  subst e1
  unfold sig0
  rw [List.getElem?_append_right (by simp), List.length_replicate, List.getElem?_map]
  have : n + j - n = j := by omega
  rw [this, e2]
  simp [h1]⟩
theorem Yb9 (c : Ylw X scope TN FN fr) (I : Inv X pins σ H s₂) (hf : ∀ b ∈ fp, YlA X pins H b) (hfo : ∀ b ∈ fp, ∃ o, s₂.heap.get? b = some o) (hC : s₂.heap.objs.size <= C) {h' : Heap} {tk : Nat}
 (hk : ∀ b o, s₂.heap.get? b = some o -> h'.get? b = some o) (hn : h'.Ns C fun _ => none) : Inv (YkR X scope (TN ++ FN) C s₂ H fp) [] (sig0 TN.length fr σ) H { s₂ with heap := h', toks := tk } where
 ok := Yj7 c I hf hfo hC
 os := rfl
 bare := I.bare
 base := Un.kept hk
 loc := ⟨_, hn, fun i x v h1 h2 h3 => by
  obtain ⟨j, k, e1, e2, e3⟩ := getElem?_sig0 h2
  have h1' : (TN ++ FN)[i]? = some x := h1
  subst e1
  rw [ZBQ (by omega)] at h1'
  have : TN.length + j - TN.length = j := by omega
  rw [this] at h1'
  obtain ⟨g1, g2⟩ := c.at_ j x k h1' e2
  obtain ⟨m, _, hl⟩ := I.loc
  have hcf := c.free _ (c.lk x g2) rfl
  have vis : Vis X.env.scope x := .inr hcf
  obtain ⟨u, r, q⟩ := hl k x v g1 e3 vis
  refine ⟨u, r, .inr ?_⟩
  rcases q with ⟨q1, _⟩ | ⟨_, a, q2, q3⟩
  ·rcases hcf with z | z
   ·have : X.env.kindOf x = some .cell := z
    rw [q1] at this; cases this
   ·have : X.env.kindOf x = some .free := z
    rw [q1] at this; cases this
  ·refine ⟨?_, a, ?_, ?_⟩
   ·rcases h3 with z | z | z
    ·have w : (relabel scope X.env).names.lookup x = some .local := z
     rcases ZJ w with w | ⟨w, _⟩
     ·rw [g2] at w; cases w
     ·cases w
    ·exact .inl z
    ·exact .inr z
   ·obtain ⟨a', ha'⟩ := ZM (cells := X.env.cells) q2 (acc := []) (c.lk x g2)
    have := c.cl ha'
    rw [q2] at this; cases this
    exact ha'
   ·obtain ⟨o, ho, hd⟩ := q3
    exact ⟨o, hk a o ho, hd⟩⟩
 cell := fun x a h => by
  obtain ⟨v, o, ho, hd⟩ := I.cell x a (c.cl h)
  exact ⟨v, o, hk a o ho, hd⟩
 free := I.hok.fresh hC
 freeC := fun x a h => I.freeC x a (c.cl h)
 pin := fun p hp => absurd (show p ∈ ([] : LAO) from hp) (by simp)
 hok := I.hok.kept hk
 len := by
  rw [YfI]
  show _ = (TN ++ FN).length
  rw [ZAK, c.flen]
theorem Inv.track {s : Shared} {D : Addr} {vs : List V} {its : List Value} {n : Nat} (I : Inv X pins σ H s) (hD : s.heap.get? D = some { cls := .type "list", data := .seq its.toArray n }) (hn : H D = none) (rv : Vals vs its) (hz : vs.length <= sizeLine)
 (h1 : X.s₀.heap.objs.size <= D) (h2 : D ≠ X.env.locals) (h3 : ∀ x c, X.env.cells.lookup x = some c -> c ≠ D) (h4 : ∀ p ∈ X.pn ++ pins, p.1 ≠ D) : Inv X pins σ (upd H D (.lst vs)) s := by
 have q := I.step (H' := upd H D (.lst vs)) (h' := s.heap) (g' := s.gens) (t' := s.toks) (d' := s.drawn) (ch := [D]) (fun b hb => by
  have e : b = D := by simpa using hb
  subst e
  exact ⟨.inr h1, h2, h3, h4⟩) (fun b o _ _ _ e _ => e) (fun b o _ _ _ e _ => ⟨o.slots, e⟩) (fun b o hb e n => by rw [Yh (by simpa using hb)]; exact n) (fun b o _ e => ⟨o, e⟩)
  (fun b xs e => by rw [Yh (Yf e hn)]; exact e) (fun b o u e => by rw [Yh (Yf e hn)]; exact e) (fun b ps e => ⟨#[], by rw [Yh (Yf e hn), e]; simp⟩) (fun m h => h) (fun b u e => ?_) I.bare
 ·exact q
 ·by_cases hb : b = D
  ·subst hb
   rw [Yl] at e
   cases e
   exact ⟨hz, its, n, rv, hD⟩
  ·rw [Yh hb] at e
   exact (I.hok b u e).stay (fun c v _ q => q) (fun c q => by rw [Yh (Yf q hn)]; exact q) fun c xs q => by rw [Yh (Yf q hn)]; exact q
end
def Yld (src : Src) (g : MG) (nt : MT) (me : ME) (ρ0 : Rho) : Nat -> Nat -> YkJ -> List P -> R (List P)
 | 0, i, st, acc => match src.nx i st with
  | some none => .ok acc st
  | _ => .bad
 | n + 1, i, st, acc => match src.nx i st with
  | some none => .ok acc st
  | none => .bad
  | some (some p) => match g p ρ0 st with
   | none => .bad
   | some ρ1 => match nt ρ1 st with
    | .ok false st1 => Yld src g nt me ρ0 n (i + 1) st1 acc
    | .ok true st1 => match me ρ1 st1 with
     | .ok q st2 => if acc.length < cap then Yld src g nt me ρ0 n (i + 1) st2 (acc ++ [q]) else .bad
     | _ => .bad
    | _ => .bad
def Ylj (mi : MI) (n : Nat) (fr : List Nat) (g : MG) (nt : MT) (me : ME) : MA := fun ρ st => (mi ρ st).bind fun src st1 => Yld src g nt me (rho0 n fr ρ) src.n 0 st1 []
def PTs (X : Cx) (ifs : List Expr) (t : TT) : Prop :=
 ∀ (pins : LAO) (s : Shared) (σ : St) (H : Hp) (Q : Bool -> Hp -> Prop), Inv X pins σ H s -> t σ H Q ->
  wpAny (model X.prog X.w) X.A (forIn ifs true fun c r => if r = true then do let ok <- isTrue c X.env (eval c X.env); pure (ForInStep.yield ok) else pure (ForInStep.yield r)) (TP X pins σ Q) X.xe s
abbrev JTs (X : Cx) (ifs : List Expr) (nt : MT) : Prop := PTs X ifs (tT X nt)
def Ylz : MT := fun _ st => .ok true st
theorem Zq {X : Cx} : JTs X [] Ylz := fun pins s σ H Q I ⟨as, ρ, st, en, rp, h⟩ => wpAny_tests_nil ⟨H, I, h as H Ext.refl rp⟩
theorem Wl {X : Cx} {c : Expr} {nt : MT} (h : JT X c nt) : JTs X [c] nt := fun pins s σ H Q I t => wpAny_tests_one (h pins s σ H Q I t)
def Yms (n : Nat) (g : MG) : Prop := ∀ p ρ st ρ1, g p ρ st = some ρ1 -> ρ1.length = ρ.length /\ ∀ i : Nat, n <= i -> ρ1[i]? = ρ[i]?
def YmR (n : Nat) (g : MGs) : Prop := ∀ p ρ st ρ1, g p ρ st = some ρ1 -> ρ1.length = ρ.length /\ ∀ i : Nat, n <= i -> ρ1[i]? = ρ[i]?
theorem Yy {n i : Nat} (h : i < n) : Yms n (YkM i) := fun p ρ st ρ1 e => by
 cases e
 exact ⟨by simp, fun j hj => by rw [List.getElem?_set_ne (by omega)]⟩
theorem Ybn {n : Nat} : YmR n YlR := fun p ρ st ρ1 e => by
 cases p with
 | nil => cases e; exact ⟨rfl, fun _ _ => rfl⟩
 | cons a b => cases e
theorem Z3 {n : Nat} {g : MG} {r : MGs} (h1 : Yms n g) (h2 : YmR n r) : YmR n (Yk8 g r) := fun p ρ st ρ1 e => by
 cases p with
 | nil => cases e
 | cons a b =>
  have e' : (g a ρ st).bind (fun ρ1 => r b ρ1 st) = some ρ1 := e
  cases z : g a ρ st with
  | none => rw [z] at e'; cases e'
  | some ρ2 =>
   rw [z] at e'
   obtain ⟨a1, a2⟩ := h1 _ _ _ _ z
   obtain ⟨b1, b2⟩ := h2 _ _ _ _ (show r b ρ2 st = some ρ1 from e')
   exact ⟨b1.trans a1, fun i hi => (b2 i hi).trans (a2 i hi)⟩
section
variable {X : Cx}
theorem YkZ.back {K : Frag} {as : List Addr} {H : Hp} {n : Nat} {fr : List Nat} {ρ ρ1 : Rho} {σ : St} (e : YkZ K as H ρ1 σ) (hl : ρ1.length = (rho0 n fr ρ).length) (hk : ∀ i : Nat, n <= i -> ρ1[i]? = (rho0 n fr ρ)[i]?) : YkZ K as H (rho0 n fr ρ) σ :=
 ⟨by rw [<- hl]; exact e.len, fun i p q => by
  obtain ⟨j, k, e1, _, _⟩ := getElem?_rho0 q
  exact e.val i p (by rw [hk i (by omega)]; exact q)⟩
set_option maxHeartbeats 4000000 in
theorem Ybd {elt tg iter : Expr} {ifs : List Expr} {scope : Scope} {pos pos0 : Pos} {TN FN : List Str} {fr : List Nat} {mi : MI} {g : MG} {nt : MT} {me : ME} {use : Option (Value -> Sem Unit)} {Q0 : VSP} {pins : LAO} {s : Shared} {σ : St} {H : Hp} {Q : VK}
 (hc : X.calm = true) (c : Ylw X scope TN FN fr) (hi : JI X tg iter mi) (hgo : Yms TN.length g)
 (hb : ∀ C s₀ H₀ ex, JG (YkR X scope (TN ++ FN) C s₀ H₀ ex) tg g /\ JTs (YkR X scope (TN ++ FN) C s₀ H₀ ex) ifs nt /\ JE (YkR X scope (TN ++ FN) C s₀ H₀ ex) elt me)
 (hs : ∀ x, foldedSetIterable iter X.env x = pure x) (I : Inv X pins σ H s) (ht : tL X (Ylj mi TN.length fr g nt me) σ H Q)
 (hend : ∀ (s4 : Shared) (C D : Addr) (H' : Hp), (∃ m, s4.heap.Ns C m) -> H' C = none -> YlA X pins H' C -> (∀ h', Heap.SameBut C s4.heap h' -> Inv X pins σ H' { s4 with heap := h' }) -> Q (.ref D) H' -> compPost (model X.prog X.w) X.A X.xe use Q0 (.ref D) C (.ok .next) s4) :
 wpAny (model X.prog X.w) X.A (comprehension (.ListComp elt [⟨tg, iter, ifs, 0⟩] scope pos) scope X.env pos0 (newList []) false (eval iter X.env) use) Q0 X.xe s := by
 obtain ⟨as, ρ, st, en, rp, h⟩ := ht
 refine ZCM (use := use) rfl hs (Va (c.has I.ok)) c.kind c.names ?_
 refine thn (hi pins s σ H (fun J H1 => ∃ as1 src st1, Ext as H as1 H1 /\ Rep X.K as1 st1 H1 /\ YmF X.K as1 H1 src J /\ Yk3 X as1 H1 ρ (Yld src g nt me (rho0 TN.length fr ρ) src.n 0 st1 []) Q) I ⟨as, ρ, st, en, rp, ?_⟩) fun v s1 h1 => thn h1 fun itv s2 h2 => ?_
 ·unfold Ylj at h
  cases q : mi ρ st with
  | bad => show 164
  | exc k st' => show 164
  | ok src st1 =>
   show 167
   exact fun as1 H1 J x rp1 ok => ⟨as1, src, st1, x, rp1, ok, Yk3.ext x h⟩
 obtain ⟨it, fp, tn, J, H2, rfl, I2, T, st2, f2, as1, src, st1, x1, rp1, ok, hp⟩ := h2
 have hfo : ∀ b ∈ fp, ∃ o, s2.heap.get? b = some o := fun b hb => let ⟨o, e, _⟩ := T.obj 0 _ st2 b hb; ⟨o, e⟩
 have hfl : ∀ b ∈ fp, b < s2.heap.objs.size := fun b hb => let ⟨o, e⟩ := hfo b hb; ZAD e
 refine wpAny_newObj_type (wpAny_newFunctionEnv c.cell (by intro y hy; simp at hy) (fun h₁ hns hsb => ?_) c.kind)
 dsimp only at hns hsb ⊢
 generalize hH2 : s2.heap.push { cls := .type "list", dict := none, data := .seq ([] : List Value).toArray } = G at hns hsb ⊢
 have hGC : G.objs.size = s2.heap.objs.size + 1 := by rw [<- hH2, ZAa]
 have hDC : s2.heap.objs.size ≠ G.objs.size := by omega
 have hC : s2.heap.objs.size <= G.objs.size := by omega
 have keep : ∀ b o, s2.heap.get? b = some o -> h₁.get? b = some o := fun b o e => hsb.extBut b o (ZAL (ZAN (ZAD e) hC)) (ZAB _ (hH2 ▸ ZAB _ e))
 have hD0 : h₁.get? s2.heap.objs.size = some { cls := .type "list", data := .seq ([] : List Value).toArray 0 } := hsb.extBut _ _ hDC (ZAB _ (hH2 ▸ ZAF _ rfl))
 have hns' : h₁.Ns G.objs.size fun _ => none := by simpa using hns
 obtain ⟨bg, bt, be⟩ := hb G.objs.size s2 H2 fp
 have HD0 : H2 s2.heap.objs.size = none := I2.hok.fresh (ZAE _)
 have loop : ∀ s₃ : Shared, s₃ = { s2 with heap := h₁, toks := s2.toks + ([] : List (Str × Value)).length } ->
  codeAny (model X.prog X.w) X.A (.compLoop (.ListComp elt [⟨tg, iter, ifs, 0⟩] scope pos) 0 (.ref it) (.ref s2.heap.objs.size) (compEnvC scope (Yk9 X.env.cells scope.names []) G.objs.size X.env))
   (compPost (model X.prog X.w) X.A X.xe use Q0 (.ref s2.heap.objs.size) G.objs.size) s₃ := by
  rintro s₃ rfl
  have IY := Yb9 (tk := s2.toks + ([] : List (Str × Value)).length) c I2 f2 hfo hC keep hns'
  have stat : ∀ {H' : Hp} {pl : LAO}, (∀ b ∈ fp, H' b = none) -> (∀ p ∈ pl, ∀ b ∈ fp, p.1 ≠ b) -> ∀ b ∈ fp, YlA (YkR X scope (TN ++ FN) G.objs.size s2 H2 fp) pl H' b := fun {H' pl} hn hpl b hb => by
   obtain ⟨f0, f1, f2', f3, f4, f5⟩ := f2 b hb
   refine ⟨hn b hb, ?_, ?_, .inl hb, fun y a e => f4 y a (c.cl e), fun p hp => hpl p hp b hb⟩
   ·exact ZAL (ZAN (hfl b hb) hC)
   ·intro z
    rcases ZAV.mp (I2.stkSub b z) with e | e
    ·exact f1 e
    ·exact f2' e
  have nDf : s2.heap.objs.size ∉ frs X.stack := fun z => by
   rcases ZAV.mp (I2.stkSub _ z) with e | e
   ·exact absurd (e ▸ I2.lt) (ZA5 _)
   ·exact I2.nofs (ZAE _) e
  have cellD : ∀ y a, X.env.cells.lookup y = some a -> a ≠ s2.heap.objs.size := fun y a e => by
   obtain ⟨v, q⟩ := I2.cell y a e
   exact ZAL q.lt
  refine YaW (fun n s' => ∃ i as' st' H' σ' acc vs its m, Inv (YkR X scope (TN ++ FN) G.objs.size s2 H2 fp) [] σ' H' s' /\ YkZ X.K as' H' (rho0 TN.length fr ρ) σ' /\ Ext as1 H2 as' H' /\ Rep X.K as' st' H' /\ tn i s'.heap /\ (∀ b ∈ fp, H' b = none) /\
   s'.heap.get? s2.heap.objs.size = some { cls := .type "list", data := .seq its.toArray m } /\ H' s2.heap.objs.size = none /\ Vals vs its /\ Dens X.K as' H' vs acc /\ acc.length <= cap /\ Yk3 X as' H' ρ (Yld src g nt me (rho0 TN.length fr ρ) n i st' acc) Q) ?_ src.n
   ⟨0, as1, st1, H2, _, [], [], [], 0, IY, env0 (YkZ.ext x1 en), Ext.refl, rp1, T.keep _ _ _ st2 fun b hb o e => keep b o e, fun b hb => (f2 b hb).1, hD0, HD0, .nil, .nil, ZBZ _, hp⟩
  rintro n s3 ⟨i, as3, st3, H3, σ3, acc, vs, its, m, I3, en3, x3, rp3, tn3, fr3, hD, nD, rv, dn, hl, h⟩
  have nDloc : s2.heap.objs.size ≠ (YkR X scope (TN ++ FN) G.objs.size s2 H2 fp).env.locals := hDC
  have IP : Inv (YkR X scope (TN ++ FN) G.objs.size s2 H2 fp) [(s2.heap.objs.size, { cls := .type "list", data := .seq its.toArray m })] σ3 H3 s3 := I3.pins_of fun p hp => by
   show 66
   exact ⟨hD, nD, nDloc, nDf, fun v z => by cases z⟩
  have hpl : ∀ p ∈ [(s2.heap.objs.size, ({ cls := .type "list", data := .seq its.toArray m } : Obj))], ∀ b ∈ fp, p.1 ≠ b := fun p hp b hb => by
   show 66
   exact ZBE (hfl b hb)
  have done : src.nx i st3 = some none -> Yk3 X as3 H3 ρ (.ok acc st3) Q -> wpAny (model X.prog X.w) X.A (pyNext (.ref it)) (fun r s₁ => r = none /\ compPost (model X.prog X.w) X.A X.xe use Q0 (.ref s2.heap.objs.size) G.objs.size (.ok .next) s₁)
   (notedBy (model X.prog X.w) X.A (compEnvC scope (Yk9 X.env.cells scope.names []) G.objs.size X.env) fun e s' => compPost (model X.prog X.w) X.A X.xe use Q0 (.ref s2.heap.objs.size) G.objs.size (.error e) s') s3 := fun e h => by
   refine thn (T.done (YkR X scope (TN ++ FN) G.objs.size s2 H2 fp) rfl rfl rfl hc i _ s3 σ3 H3 _ IP (stat fr3 hpl) tn3 (ok.stop i as3 st3 H3 x3 rp3 e)) fun r s4 ⟨hr, I4⟩ => ⟨hr, ?_⟩
   obtain ⟨m4, hn4, _⟩ := id I4.loc
   obtain ⟨hD4, nD4, _⟩ := I4.pin _ (ZAP _ ZAU)
   have inv : ∀ h', Heap.SameBut G.objs.size s4.heap h' -> Inv X pins σ (upd H3 s2.heap.objs.size (.lst vs)) { s4 with heap := h' } := fun h' sb => by
    have un : Un (frs X.stack) fp H2 H3 s2.heap h' := by
     have u := I4.base
     have up : ∀ b o, s2.heap.get? b = some o -> b ≠ G.objs.size := fun b o e => ZAL (ZAN (ZAD e) hC)
     exact ⟨fun b o e n hb hx => (sb.2 b (up b o e)).trans (u.keep b o e n hb hx), fun b o e n hb hx => let ⟨sl, q⟩ := u.slot b o e n hb hx; ⟨sl, (sb.2 b (up b o e)).trans q⟩, u.free, fun b o e hx => let ⟨o', q⟩ := u.there b o e hx; ⟨o', (sb.2 b (up b o e)).trans q⟩, u.tups, u.frzs, u.tbls⟩
    have hok : HOk X.prog X.w H3 h' := fun b u e => (I4.hok b u e).stay (fun c' v hc' q => by
     refine (sb.2 c' ?_).trans q
     rintro rfl
     have nC : H3 G.objs.size = none := I4.free
     rcases hc' with z | z
     ·rw [<- z, nC] at e; cases e
     ·rw [nC] at z; cases z) (fun _ q => q) fun _ _ q => q
    have IX : Inv X pins σ H3 { s4 with heap := h' } := I2.call' (s' := { s4 with heap := h' }) (ch := fp) I4.os un hok I4.bare fun b hb => ⟨(f2 b hb).2.2.2.1, (f2 b hb).2.1, (f2 b hb).2.2.2.2.1, (f2 b hb).2.2.2.2.2⟩
    have hDh : h'.get? s2.heap.objs.size = some { cls := .type "list", data := .seq its.toArray m } := (sb.2 _ hDC).trans hD4
    have IT := Inv.track (s := { s4 with heap := h' }) IX hDh nD rv (by rw [dn.length]; exact ZAH hl Ys) I2.sz (by have := I2.lt; exact ZBE this) cellD (fun p hp => ZAL (ZAD (I2.pin p hp).1))
    exact IT
   have nC : (upd H3 s2.heap.objs.size (.lst vs)) G.objs.size = none := by rw [Yh (ZA1 hDC)]; exact I4.free
   exact hend s4 G.objs.size s2.heap.objs.size _ ⟨m4, hn4⟩ nC (I2.fpOk hC nC) inv (h as3 _ _ vs (Ext.laid nD) (rp3.laid nD) Yl (rp3.fresh nD) (dn.ext (Ext.laid nD)))
  have bad : ∀ {r : Option Value -> Shared -> Prop} {E : VSP}, False -> wpAny (model X.prog X.w) X.A (pyNext (.ref it)) r E s3 := fun f => f.elim
  cases e : src.nx i st3 with
  | none => cases n <;> (simp only [Yld, e] at h; exact h.elim)
  | some o =>
   cases o with
   | none =>
    have h' : Yk3 X as3 H3 ρ (.ok acc st3) Q := by cases n <;> (simp only [Yld, e] at h; exact h)
    exact thn (done e h') fun r s4 ⟨hr, q⟩ => by subst hr; exact q
   | some p =>
    cases n with
    | zero => simp only [Yld, e] at h; exact h.elim
    | succ n =>
     obtain ⟨g1, g2⟩ := ok.go i as3 st3 H3 p x3 rp3 e
     cases zg : g p (rho0 TN.length fr ρ) st3 with
     | none => simp only [Yld, e, zg] at h; exact h.elim
     | some ρ1 =>
      obtain ⟨gl, gk⟩ := hgo _ _ _ _ zg
      refine thn (T.item (YkR X scope (TN ++ FN) G.objs.size s2 H2 fp) rfl rfl rfl hc i _ s3 σ3 H3 _ IP (stat fr3 hpl) tn3 g1) fun r s4 ⟨u, hr, h4⟩ => ?_
      subst hr
      refine thn h4 fun _ s5 ⟨x, H5, I5, r5, y5, st5, fr5⟩ => ?_
      obtain ⟨x5, rp5, d5⟩ := g2 x H5 y5
      have nD5 : H5 s2.heap.objs.size = none := (I5.pin _ (ZAP _ ZAU)).2.1
      have I5' := I5.pinned (stat fr5 hpl) (T.obj _ _ st5)
      refine ZAw (bg _ s5 σ3 H5 x u (fun σ' H' => H' = H5 /\ YkZ X.K as3 H5 ρ1 σ') I5' r5 ⟨as3, _, st3, p, ρ1, en3.ext x5, rp5, d5, zg, fun σ' en' => ⟨rfl, en'⟩⟩) (fun _ s6 ⟨σ6, H6, I6, e6, en6⟩ => ?_) fun _ _ f => f.elim
      subst e6
      cases zt : nt ρ1 st3 with
      | bad => simp only [Yld, e, zg, zt] at h; exact h.elim
      | exc k st' => simp only [Yld, e, zg, zt] at h; exact h.elim
      | ok k st4 =>
       refine ZAw (bt _ s6 σ6 H6 (fun k' H' => k' = k /\ ∃ as', Ext as3 H6 as' H' /\ Rep X.K as' st4 H') I6 ⟨as3, ρ1, st3, en6, rp5, by rw [zt]; exact fun as' H' x rp => ⟨rfl, as', x, rp⟩⟩) (fun k' s7 ⟨H7, I7, ek, as7, x7, rp7⟩ => ?_) fun _ _ f => f.elim
       subst ek
       have fin : ∀ {H8 : Hp} {s8 : Shared} {as8 : List Addr} {st8 : YkJ} {acc' : List P} {vs' : List V} {its' : List Value} {m' : Nat} {s9 : Shared}, Inv (YkR X scope (TN ++ FN) G.objs.size s2 H2 fp) ([] : LAO) σ6 H8 s9 -> Ext as7 H7 as8 H8 -> Rep X.K as8 st8 H8 ->
        tn (i + 1) s9.heap -> (∀ b ∈ fp, H8 b = none) -> s9.heap.get? s2.heap.objs.size = some { cls := .type "list", data := .seq its'.toArray m' } -> H8 s2.heap.objs.size = none -> Vals vs' its' -> Dens X.K as8 H8 vs' acc' -> acc'.length <= cap ->
        Yk3 X as8 H8 ρ (Yld src g nt me (rho0 TN.length fr ρ) n (i + 1) st8 acc') Q -> ∃ m, m < n + 1 /\ ∃ i as' st' H' σ' acc vs its m_1, Inv (YkR X scope (TN ++ FN) G.objs.size s2 H2 fp) [] σ' H' s9 /\ YkZ X.K as' H' (rho0 TN.length fr ρ) σ' /\ Ext as1 H2 as' H' /\ Rep X.K as' st' H' /\ tn i s9.heap /\ (∀ b ∈ fp, H' b = none) /\
         s9.heap.get? s2.heap.objs.size = some { cls := .type "list", data := .seq its.toArray m_1 } /\ H' s2.heap.objs.size = none /\ Vals vs its /\ Dens X.K as' H' vs acc /\ acc.length <= cap /\ Yk3 X as' H' ρ (Yld src g nt me (rho0 TN.length fr ρ) m i st' acc) Q :=
        fun {H8 s8 as8 st8 acc' vs' its' m' s9} I8 x8 rp8 t8 fr8 hD8 nD8 rv8 dn8 hl8 h8 => ⟨n, ZAz n, i + 1, as8, st8, H8, σ6, acc', vs', its', m', I8, YkZ.ext x8 (YkZ.ext x7 (en6.back gl gk)), ((x3.trans x5).trans x7).trans x8, rp8, t8, fr8, hD8, nD8, rv8, dn8, hl8, h8⟩
       have stay : ∀ {H8 : Hp} {s8 : Shared}, Inv (YkR X scope (TN ++ FN) G.objs.size s2 H2 fp) ([(s2.heap.objs.size, ({ cls := .type "list", data := .seq its.toArray m } : Obj))] ++ Ymk fp s5.heap) σ6 H8 s8 ->
        tn (i + 1) s8.heap /\ (∀ b ∈ fp, H8 b = none) /\ s8.heap.get? s2.heap.objs.size = some { cls := .type "list", data := .seq its.toArray m } /\ H8 s2.heap.objs.size = none := fun {H8 s8} I8 => by
        refine ⟨T.keep _ _ _ st5 fun b hb o e => (I8.pin (b, o) (ZAP _ (ZAP _ (Za hb e)))).1, fun b hb => ?_, ?_⟩
        ·obtain ⟨o, e, d⟩ := T.obj _ _ st5 b hb
         exact (I8.pin (b, o) (ZAP _ (ZAP _ (Za hb e)))).2.1
        ·have q := I8.pin (s2.heap.objs.size, { cls := .type "list", data := .seq its.toArray m }) (ZAP _ (ZAo _ ZAU))
         exact ⟨q.1, q.2.1⟩
       have nopins : ∀ {H8 : Hp} {s8 : Shared} {pl : LAO}, Inv (YkR X scope (TN ++ FN) G.objs.size s2 H2 fp) pl σ6 H8 s8 -> Inv (YkR X scope (TN ++ FN) G.objs.size s2 H2 fp) [] σ6 H8 s8 := fun {H8 s8 pl} I8 => I8.pins_of fun p hp => by cases hp
       cases k' with
       | false =>
        simp only [Yld, e, zg, zt] at h
        rw [ZAJ ZAQ]
        obtain ⟨t7, f7, hD7, nD7⟩ := stay I7
        exact fin (s8 := s7) (nopins I7) Ext.refl rp7 t7 f7 hD7 nD7 rv (dn.ext (x5.trans x7)) hl (Yk3.ext (x5.trans x7) h)
       | true =>
        rw [ZAI rfl]
        cases ze : me ρ1 st4 with
        | bad => simp only [Yld, e, zg, zt, ze] at h; exact h.elim
        | exc k st' => simp only [Yld, e, zg, zt, ze] at h; exact h.elim
        | ok q st8 =>
         simp only [Yld, e, zg, zt, ze] at h
         by_cases hlt : acc.length < cap
         ·rw [ZAI hlt] at h
          refine ZAw (be _ s7 σ6 H7 (fun v' H' => ∃ as', Ext as7 H7 as' H' /\ Rep X.K as' st8 H' /\ Den X.K as' H' v' q) I7 ⟨as7, ρ1, st4, en6.ext x7, rp7, by rw [ze]; exact fun as' H' v' x rp d => ⟨as', x, rp, d⟩⟩) (fun w' s8 ⟨y, H8, I8, r8, as8, x8, rp8, d8⟩ => ?_) fun _ _ f => f.elim
          obtain ⟨t8, f8, hD8, nD8⟩ := stay I8
          have hll : its.length <= cap := by rw [<- rv.length, dn.length]; exact hl
          refine call_meets F.slot_list_append ⟨_, hD8, rfl⟩ F.entry_list_append (F.args_list_append_2 _ _) (PySem.list_append s2.heap.objs.size its.toArray m w' (by rw [ZAZ]; exact ZAH hll Ys)) ⟨hD8, ?_⟩
          have hD9 := PySem.IsL.update hD8 (fun a => a.push w')
          rw [show its.toArray.push w' = (its ++ [w']).toArray by simp] at hD9
          have oth : ∀ b o, b ≠ s2.heap.objs.size -> s8.heap.get? b = some o -> (s8.heap.update s2.heap.objs.size (Obj.mapSeq fun a => a.push w')).get? b = some o := fun b o hb e => (ZAT _ _ (ZA1 hb)).trans e
          have I9 : Inv (YkR X scope (TN ++ FN) G.objs.size s2 H2 fp) [] σ6 H8 { s8 with heap := s8.heap.update s2.heap.objs.size (Obj.mapSeq fun a => a.push w'), toks := s8.toks } :=
           Inv.turned (it := s2.heap.objs.size) (nopins I8) oth nD8 nDloc (.inr (ZAE _)) (fun y a e => cellD y a (c.cl e)) fun p hp => by cases hp
          refine fin (s8 := s8) (its' := its ++ [w']) I9 x8 rp8 (T.keep _ _ _ t8 fun b hb o e => oth b o (ZAL (hfl b hb)) e) f8 hD9 nD8 (rv.append (.cons r8 .nil)) ((dn.ext ((x5.trans x7).trans x8)).append (.cons d8 .nil)) ?_ (Yk3.ext ((x5.trans x7).trans x8) h)
          rw [ZAK, ZAW]; exact hlt
         ·rw [ZAJ hlt] at h; exact h.elim
 exact codeAny_compStart_list (loop _ rfl) (T.self _ 0 _ _ _ (T.keep _ _ _ st2 fun b hb o e => keep b o e) (loop _ rfl))
theorem ZB {elt tg iter : Expr} {ifs : List Expr} {scope : Scope} {pos : Pos} {TN FN : List Str} {fr : List Nat} {mi : MI} {g : MG} {nt : MT} {me : ME} (hc : X.calm = true) (c : Ylw X scope TN FN fr) (hi : JI X tg iter mi) (hgo : Yms TN.length g)
 (hb : ∀ C s₀ H₀ ex, JG (YkR X scope (TN ++ FN) C s₀ H₀ ex) tg g /\ JTs (YkR X scope (TN ++ FN) C s₀ H₀ ex) ifs nt /\ JE (YkR X scope (TN ++ FN) C s₀ H₀ ex) elt me)
 (hs : ∀ x, foldedSetIterable iter X.env x = pure x := by intro _; rfl) : JL X (.ListComp elt [⟨tg, iter, ifs, 0⟩] scope pos) (Ylj mi TN.length fr g nt me) := by
 intro pins s σ H Q I ht
 rw [eval_ListComp]
 exact Ybd hc c hi hgo hb hs I ht fun s4 C D H' ⟨m, hn⟩ _ _ inv q => ⟨m, hn, fun h' sb => ⟨.ref D, H', inv h' sb, rfl, q⟩⟩
def YlU (i : Nat) (ml : MA) : MS := fun ρ st => RS.ofE ρ (ml ρ st) fun ps st1 => .nx (ρ.set i (some (.ref st1.length))) (st1 ++ [.lst ps])
theorem Y9 {elt tg iter : Expr} {ifs : List Expr} {scope : Scope} {pos pos' cpos : Pos} {TN FN : List Str} {fr : List Nat} {mi : MI} {g : MG} {nt : MT} {me : ME} {i : Nat} {x : Str} (hN : X.N.Nodup) (hi' : X.N[i]? = some x) (hx : Loc X.env.scope x)
 (hc : X.calm = true) (c : Ylw X scope TN FN fr) (hi : JI X tg iter mi) (hgo : Yms TN.length g)
 (hb : ∀ C s₀ H₀ ex, JG (YkR X scope (TN ++ FN) C s₀ H₀ ex) tg g /\ JTs (YkR X scope (TN ++ FN) C s₀ H₀ ex) ifs nt /\ JE (YkR X scope (TN ++ FN) C s₀ H₀ ex) elt me)
 (hs : ∀ x, foldedSetIterable iter X.env x = pure x := by intro _; rfl) (hsw : swapsWith (.ListComp elt [⟨tg, iter, ifs, 0⟩] scope cpos) (some (.Name x pos')) pos.line X.env = pure true := by rfl)
 (hf : X.fn x = true \/ X.env.scope.names.lookup x = some .local := by first | exact .inl rfl | exact .inr rfl | assumption) :
 JS X (.Assign [.Name x pos'] (.ListComp elt [⟨tg, iter, ifs, 0⟩] scope cpos) pos) (YlU i (Ylj mi TN.length fr g nt me)) := by
 intro pins s σ H D I ⟨as, ρ, st, en, rp, h⟩
 rw [exec_Assign_Name_used _ _ _ _ hsw]
 refine ZAA (ZCg (ZAA ?_))
 rw [arm_evalThenUse_ListComp]
 show 176
 refine Ybd (Q := fun v H' => ∃ as' ρ' st', YkZ X.K as' H' ρ σ /\ Rep X.K as' st' H' /\ Den X.K as' H' v (.ref (st'.length - 1)) /\ ρ' = ρ.set i (some (.ref (st'.length - 1))) /\ Yk1 X as' H' (.nx ρ' st') D) hc c hi hgo hb hs I ⟨as, ρ, st, en, rp, ?_⟩ ?_
 ·unfold YlU at h
  cases q : Ylj mi TN.length fr g nt me ρ st with
  | bad => show 164
  | exc k st' => show 164
  | ok ps st1 =>
   show 167
   intro as' H' l vs x rp' hl fr' d
   have en' : YkZ X.K (as' ++ [l]) H' ρ σ := (en.ext x).ext Ext.add
   have rp'' : Rep X.K (as' ++ [l]) (st1 ++ [.lst ps]) H' := rp'.add fr' ⟨vs, hl, d.ext Ext.add⟩
   have el : (st1 ++ [O.lst ps]).length - 1 = st1.length := by simp
   refine ⟨as' ++ [l], _, st1 ++ [.lst ps], en', rp'', ?_, rfl, ?_⟩
   ·rw [el]; exact .ref (by rw [<- rp'.len]; exact Yby)
   ·rw [el]; exact Yk1.ext (x.trans Ext.add) h
 ·intro s4 C Dl H' ⟨m, hn⟩ nC fo inv ⟨as', ρ', st', en', rp', d', hρ, hq⟩
  have I4 : Inv X pins σ H' s4 := inv s4.heap (Heap.SameBut.refl _ _)
  show wpAny _ _ (assign (.Name x pos') X.env (.ref Dl)) _ _ _
  refine wpAny_assign_Name (Ybe I4 hN hi' hx (v := .ref Dl) rfl (fun s5 I5 ⟨a, sb, ha⟩ => ?_) hf)
  have hCa : C ≠ a := by
   rcases ha with rfl | ha
   ·exact fo.2.1
   ·exact fun z => fo.2.2.2.2.1 x a ha z.symm
  have hn5 : s5.heap.Ns C m := by
   obtain ⟨o, es, ep, e, r⟩ := hn
   exact ⟨o, es, ep, (sb.2 C hCa).trans e, r⟩
  refine ⟨m, hn5, fun h' sb' => ZAC ?_⟩
  have I6 : Inv X pins (σ.set i (some (.ref Dl))) H' { s5 with heap := h', toks := s5.toks } := I5.turned (it := C) (fun b o hb e => (sb'.2 b hb).trans e) nC fo.2.1 fo.2.2.2.1 fo.2.2.2.2.1 fo.2.2.2.2.2
  refine ZAC ⟨σ.set i (some (.ref Dl)), H', I6, hq as' H' _ Ext.refl rp' ?_⟩
  rw [hρ]
  exact en'.set d'
end
abbrev MF := List P -> YkJ -> R P
def fnM (n : Nat) (m : MS) : MF := fun ps st => match m (ps.map some ++ List.replicate (n - ps.length) none) st with
 | .nx _ st' => .ok .non st'
 | .rt p st' => .ok p st'
 | _ => .bad
def spM (K : Frag) (n : Nat) (mf : MF) : Sp := fun vs H Q _ => vs.length = n /\ ∃ as st ps, Rep K as st H /\ Dens K as H vs ps /\ match mf ps st with
 | .ok p st' => ∀ as' H' v, Ext as H as' H' -> Rep K as' st' H' -> Den K as' H' v p -> Q v H'
 | _ => False
abbrev FM (P' : Program) (w : World) (K : Frag) (mg : SOV) (base : Heap) (k : Nat) (f : Addr) (fd : FuncData) (ps : List Str) (mf : MF) : Prop := Ymb P' w K mg base CX0 k f fd ps (spM K ps.length mf)
theorem YaX {K : Frag} {as : List Addr} {H : Hp} {vs : List V} {ps : List P} {N : List Str} (d : Dens K as H vs ps) : YkZ K as H (ps.map some ++ List.replicate (N.length - ps.length) none) (L2.start N vs) :=
 ⟨by unfold L2.start; simp [d.length], fun i p e => by
  have hl := d.length
  by_cases hi : i < ps.length
  ·rw [List.getElem?_append_left (by simpa using hi), List.getElem?_map] at e
   cases q : ps[i]? with
   | none => show 209
   | some p' =>
    rw [q] at e
    cases e
    obtain ⟨v, h1, h2⟩ := d.get q
    refine ⟨v, ?_, h2⟩
    unfold L2.start
    rw [List.getElem?_append_left (by simp; omega), List.getElem?_map, h1]
    rfl
  ·rw [List.getElem?_append_right (by simpa using hi), List.getElem?_replicate] at e
   split at e <;> cases e⟩
section
variable {P' : Program} {w : World} {K : Frag} {mg : SOV} {base : Heap}
theorem Fun.mirror {x qual : Str} {st : Stmt} {f : Addr} {fd : FuncData} {N ps : List Str} {k : Nat} {m : MS} (F : Fun K x qual st f fd) (S : YkU N ps (YkL st))
 (hbody : ∀ (cdv : Value) (A : Around) (outer : List Env) (s : Shared) (H : Hp) (E : XK), Ylu k (A.deeper (envOfC qual (YkL st) s.heap.objs.size f cdv)) -> JSs (YlY CX0 P' w K mg base N qual (YkL st) f cdv A outer s H E).nox (YkQ st) m) :
 FM P' w K mg base (k + 1) f fd ps (fnM N.length m) := by
 refine F.ok S (fun vs H Q E h => h.1) (fun cdv A outer s H vs Q E hr h => ⟨_, hbody cdv A outer s H E hr, ?_⟩)
 obtain ⟨hl, as, st', qs, rp, d, h⟩ := h
 refine ⟨as, _, st', YaX d, rp, ?_⟩
 unfold fnM at h
 cases q : m (qs.map some ++ List.replicate (N.length - qs.length) none) st' with
 | nx ρ' s' => rw [q] at h; exact fun as' H' σ' x rp en => h as' H' .non x rp .non
 | rt p s' => show 164
 | bk ρ' s' => show 195
 | ct ρ' s' => show 195
 | exc k ρ' s' => show 195
 | bad => show 195
end
section
variable {X : Cx} {k : Nat} {f : Addr} {fd : FuncData} {ps : List Str} {mf : MF} {x : Str} {p pos : Pos} {e : Expr} {es : List Expr} {mr : MA}
def YkX (n : Nat) (mf : MF) (mr : MA) : ME := fun ρ st => (mr ρ st).bind fun ps st1 => if ps.length = n then match mf ps st1 with
 | .ok p st2 => .ok p st2
 | _ => .bad else .bad
theorem YhB (F : FM X.prog X.w X.K X.mg X.base k f fd ps mf) (hr : Ylu k X.A) (hg : Gl X x) (hm : X.mg x = some (.ref f)) (hk : PySem.W.keepIn X.K (.ref f) = true) (hb : Binds X.K fd ps [])
 (ha : JA X (e :: es) mr) (hdb : (x == ("__debug__" : Str)) = false := by decide) (he : starEach (e :: es) X.env = (false, eval e X.env) :: starEach es X.env := by rfl) (hpl : (backTo pos (starEach es X.env)).any (·.1) = false := by rfl) :
 JE X (.Call (.Name x p) (e :: es) [] pos) (YkX ps.length mf mr) :=
 PE.imp (YgV F hr hg hm hk hb .nil (pass0 (X := X)) ha hdb he hpl) fun σ H Q ⟨as, ρ, st, en, rp, h⟩ => ⟨as, ρ, st, en, rp, YkV.bindA h fun qs st1 as1 H1 vs x rp1 d h1 => by
  rw [ZBW]
  by_cases hl : qs.length = ps.length
  ·rw [ZAI hl] at h1
   refine ⟨by rw [d.length]; exact hl, as1, st1, qs, rp1, d, ?_⟩
   cases z : mf qs st1 with
   | ok p' st2 => rw [z] at h1; exact h1
   | exc k s' => rw [z] at h1; exact h1.elim
   | bad => rw [z] at h1; exact h1.elim
  ·rw [ZAJ hl] at h1; exact h1.elim⟩
end
abbrev GC := List P -> YkJ -> Option (P × YkJ)
def rMC (X : Cx) (g : GC) : List V -> Hp -> VK -> Prop := fun xs H Q => ∃ as st ps, Rep X.K as st H /\ Dens X.K as H xs ps /\ Yk4 X as H (g ps st) Q
def eB (g : GC) (mr : MA) : ME := fun ρ st => (mr ρ st).bind fun ps st1 => ofO (g ps st1)
section
variable {X : Cx} {x : Str} {p pos : Pos} {e : Expr} {es : List Expr} {mr : MA} {id T : String} {g : GC}
theorem Ygt {σ : St} {H : Hp} {Q : VK} (h : tE X (eB g mr) σ H Q) : tCB (rMC X g) (tA X mr) σ H Q := by
 show 253
 exact ⟨as, ρ, st, en, rp, YkV.bindA h fun ps st1 as1 H1 vs x rp1 d h1 => ⟨as1, st1, ps, rp1, d, YkV.ofO h1⟩⟩
theorem je_B (hc : YlD X (.builtin id) (rMC X g)) (hg : Gl X x) (hm : X.mg x = none) (hv : bootBuiltins x = some (.builtin id)) (ha : JA X (e :: es) mr) (hn : x ≠ "__name__" := by decide) (hdb : (x == ("__debug__" : Str)) = false := by decide)
 (he : starEach (e :: es) X.env = (false, eval e X.env) :: starEach es X.env := by rfl) (hpl : (backTo pos (starEach es X.env)).any (·.1) = false := by rfl) : JE X (.Call (.Name x p) (e :: es) [] pos) (eB g mr) :=
 PE.imp (Yaf hc hg hm hv ha hn hdb he hpl) fun _ _ _ h => Ygt h
theorem YcD (hc : YlD X (.type T) (rMC X g)) (hg : Gl X x) (hm : X.mg x = none) (hv : bootBuiltins x = some (.type T)) (ha : JA X (e :: es) mr) (hn : x ≠ "__name__" := by decide) (hdb : (x == ("__debug__" : Str)) = false := by decide)
 (he : starEach (e :: es) X.env = (false, eval e X.env) :: starEach es X.env := by rfl) (hpl : (backTo pos (starEach es X.env)).any (·.1) = false := by rfl) : JE X (.Call (.Name x p) (e :: es) [] pos) (eB g mr) :=
 PE.imp (Ya1 hc hg hm hv ha hn hdb he hpl) fun _ _ _ h => Ygt h
theorem cM {f : Value} (h : ∀ pins s σ H xs us Q as st ps, Inv X pins σ H s -> Vals xs us -> Rep X.K as st H -> Dens X.K as H xs ps -> Yk4 X as H (g ps st) Q -> wpAny (model X.prog X.w) X.A (call f us) (EP X pins σ Q) X.xe s) : YlD X f (rMC X g) :=
 fun pins s σ H xs us Q I rv ⟨as, st, ps, rp, d, po⟩ => h pins s σ H xs us Q as st ps I rv rp d po
def Yln : GC := fun ps st => match ps with
 | [.str z] => if z.length <= cap then okP (.int z.length) st else none
 | [.ref k] => match st[k]? with
  | some (.lst xs) => okP (.int xs.length) st
  | some (.ro xs) => okP (.int xs.length) st
  | some (.dct kvs) => okP (.int kvs.length) st
  | _ => none
 | [.tup xs] => okP (.int xs.length) st
 | _ => none
theorem Dens.one {K : Frag} {as : List Addr} {H : Hp} {xs : List V} {p : P} (d : Dens K as H xs [p]) : ∃ v, xs = [v] /\ Den K as H v p := by
 cases d with
 | cons a b => cases b; exact ⟨_, rfl, a⟩
theorem Dens.two {K : Frag} {as : List Addr} {H : Hp} {xs : List V} {p q : P} (d : Dens K as H xs [p, q]) : ∃ v w, xs = [v, w] /\ Den K as H v p /\ Den K as H w q := by
 cases d with
 | cons a b =>
  cases b with
  | cons c d => cases d; exact ⟨_, _, rfl, a, c⟩
theorem YkC {ps : List P} {α : Type} {f : P -> Option α} {r : α} (h : (match ps with | [p] => f p | _ => none) = some r) : ∃ p, ps = [p] /\ f p = some r := by
 match ps, h with
 | [p], h => exact ⟨p, rfl, h⟩
theorem YU : YlD X (.builtin "len") (rMC X Yln) := cM fun pins s σ H xs us Q as st ps I rv rp d h => by
 match ps, d, h with
 | [], _, h => show 152
 | _ :: _ :: _, _, h => exact (by simp only [Yln] at h; exact h.elim)
 | [p], d, h =>
  obtain ⟨v, rfl, d1⟩ := d.one
  cases d1 with
  | @str z =>
   have h' : Yk4 X as H (if z.length <= cap then okP (.int z.length) st else none) Q := h
   by_cases hz : z.length <= cap
   ·rw [ZAI hz] at h'
    exact YbQ pins s σ H _ us Q I rv ⟨z, rfl, ZAH hz Ys, h' as H _ Ext.refl rp .int⟩
   ·rw [ZAJ hz] at h'; exact h'.elim
  | tup e r =>
   refine Wc pins s σ H _ us Q I rv ⟨_, _, rfl, .inr e, ?_⟩
   rw [r.length]
   exact h as H _ Ext.refl rp .int
  | @ref k a e =>
   have h' : Yk4 X as H (match st[k]? with | some (.lst xs) => okP (.int xs.length) st | some (.ro xs) => okP (.int xs.length) st | some (.dct kvs) => okP (.int kvs.length) st | _ => none) Q := h
   cases q : st[k]? with
   | none => show 216
   | some o =>
    rw [q] at h'
    have ob := rp.ob k a o e q
    cases o with
    | lst ys =>
     show 196
     refine Wc pins s σ H _ us Q I rv ⟨_, _, rfl, .inl (.of h1), ?_⟩
     rw [h2.length]
     exact h' as H _ Ext.refl rp .int
    | ro ys =>
     show 196
     refine Wc pins s σ H _ us Q I rv ⟨_, _, rfl, .inl (Z7 h1), ?_⟩
     rw [h2.length]
     exact h' as H _ Ext.refl rp .int
    | dct kvs =>
     obtain ⟨ws, h1, h2, h3⟩ := ob
     refine Yej pins s σ H _ us Q I rv ⟨_, _, rfl, h1, ?_⟩
     have : ws.length = kvs.length := by simpa using congrArg List.length h2
     show 191
     exact h' as H _ Ext.refl rp .int
    | exc c fs => show 174
    | dtt kvs => show 174
    | fdc kvs => show 174
  | _ => show 152
def Ymi : GC := fun ps st => match ps with
 | [p] => match Ylf p st with
  | some xs => okP (.tup xs) st
  | none => none
 | _ => none
theorem Ygo : YlD X (.type "tuple") (rMC X Ymi) := cM fun pins s σ H xs us Q as st ps I rv rp d h => by
 match ps, d, h with
 | [], _, h => show 152
 | _ :: _ :: _, _, h => exact (by simp only [Ymi] at h; exact h.elim)
 | [p], d, h =>
  obtain ⟨v, rfl, d1⟩ := d.one
  have h' : Yk4 X as H (match Ylf p st with | some xs => okP (.tup xs) st | none => none) Q := h
  cases q : Ylf p st with
  | none => show 216
  | some xs =>
   rw [q] at h'
   obtain ⟨a, vs, rfl, hq, r⟩ := YhZ rp d1 q
   refine Vb pins s σ H _ us Q I rv ⟨a, vs, rfl, ?_⟩
   rcases hq with hq | ⟨hq, tk⟩
   ·exact .inl ⟨hq, fun l hl => h' as _ _ (Ext.laid hl) (rp.laid hl) (.tup (.of Yl) (r.ext (Ext.laid hl)))⟩
   ·exact .inr ⟨hq, h' as H _ Ext.refl rp (.tup hq r)⟩
def Ynj (m : MA) : ME := fun ρ st => (m ρ st).bind fun ps st1 => .ok (.tup ps) st1
theorem YaL {m : MA} (hg : Gl X "tuple") (hm : X.mg "tuple" = none) (hv : bootBuiltins "tuple" = some (.type "tuple")) (h : JL X e m)
 (he : starEach [e] X.env = (false, eval e X.env) :: starEach [] X.env := by rfl) : JE X (.Call (.Name "tuple" p) [e] [] pos) (Ynj m) :=
 PE.imp (Ya1 Vb hg hm hv (Wq h VT he) (by decide) (by decide) he) fun σ H Q ⟨as, ρ, st, en, rp, h⟩ => ⟨as, ρ, st, en, rp, YkV.bindL h fun ps st1 as1 H1 l vs x rp1 hl fr d h1 =>
  ⟨l, vs, rfl, .inl ⟨.of hl, fun p hp => h1 as1 _ _ (Ext.laid hp) (rp1.laid hp) (.tup (.of Yl) (d.ext (Ext.laid hp)))⟩⟩⟩
end
abbrev GM := P -> List P -> YkJ -> Option (P × YkJ)
def rMM (X : Cx) (g : GM) : V -> List V -> Hp -> VK -> Prop := fun x xs H Q => ∃ as st p ps, Rep X.K as st H /\ Den X.K as H x p /\ Dens X.K as H xs ps /\ Yk4 X as H (g p ps st) Q
def isStr : P -> YkJ -> Bool := fun p _ => match p with
 | .str _ => true
 | _ => false
def Ymr : P -> YkJ -> Bool := fun p st => match p with
 | .ref k => (match st[k]? with
  | some (.lst _) => true
  | some (.ro _) => true
  | _ => false)
 | _ => false
def eM (ty : P -> YkJ -> Bool) (g : GM) (me : ME) (mr : MA) : ME := fun ρ st => (me ρ st).bind fun p st1 => if ty p st1 = true then (mr ρ st1).bind fun ps st2 => ofO (g p ps st2) else .bad
def YnV (T : String) (ty : P -> YkJ -> Bool) : Prop := ∀ (K : Frag) as st H v p, Rep K as st H -> Den K as H v p -> ty p st = true -> tyV K T v H
theorem Yae : YnV "str" isStr := fun K as st H v p rp d h => by
 cases d with
 | str => rfl
 | _ => cases h
theorem Ybo : YnV "list" Ymr := fun K as st H v p rp d h => by
 cases d with
 | @ref k a e =>
  have h' : (match st[k]? with | some (.lst _) => true | some (.ro _) => true | _ => false) = true := h
  cases q : st[k]? with
  | none => rw [q] at h'; cases h'
  | some o =>
   rw [q] at h'
   have ob := rp.ob k a o e q
   cases o with
   | lst ys => obtain ⟨vs, h1, _⟩ := ob; exact .inl ⟨rfl, vs, .of h1⟩
   | ro ys => obtain ⟨vs, h1, _⟩ := ob; exact .inl ⟨rfl, vs, Z7 h1⟩
   | dct ys => cases h'
   | exc c fs => cases h'
   | dtt kvs => cases h'
   | fdc kvs => cases h'
 | _ => cases h
section
variable {X : Cx} {o e : Expr} {es : List Expr} {me : ME} {mr : MA} {name : Str} {apos cpos : Pos} {T id : String} {g : GM} {ty : P -> YkJ -> Bool}
theorem YjZ (hT : YnV T ty) (pa : PlainAttrs T) (slot : Slot T name id) (hty : typeOf (.builtin id) = pure (.type "method_descriptor")) (hm : MtR X id (rMM X g)) (ho : JE X o me)
 (hbase : attributeBase o name X.env (eval o X.env) = eval o X.env := by rfl) (hline : (apos.endLine == cpos.line) = true := by rfl) : JE X (.Call (.Attribute o name apos) [] [] cpos) (eM ty g me YkN) :=
 PE.imp (Yi6 pa slot hty hm ho hbase hline) fun σ H Q ⟨as, ρ, st, en, rp, h⟩ => ⟨as, ρ, st, en, rp, YkV.bindE h fun p st1 as1 H1 v x rp1 d h1 => by
  by_cases z : ty p st1 = true
  ·rw [ZAI z] at h1
   exact ⟨hT _ _ _ _ _ _ rp1 d z, as1, st1, p, [], rp1, d, .nil, YkV.ofO h1⟩
  ·rw [ZAJ z] at h1; exact h1.elim⟩
theorem je_M (hT : YnV T ty) (pa : PlainAttrs T) (slot : Slot T name id) (hty : typeOf (.builtin id) = pure (.type "method_descriptor")) (hm : MtR X id (rMM X g)) (ho : JE X o me) (ha : JA X (e :: es) mr)
 (hbase : attributeBase o name X.env (eval o X.env) = eval o X.env := by rfl)
 (hfew : ((backTo cpos (starEach (e :: es) X.env)).all (fun x => !x.1) && (backToKw cpos (keywordEach [] X.env)).all (fun x => x.1.isSome)
  && decide ((e :: es).length + ([] : List Keyword).length + (if ([] : List Keyword).isEmpty then 0 else 1) < 30)) = true := by rfl)
 (hline : (apos.endLine == cpos.line) = true := by rfl) (hs : starEach (e :: es) X.env = (false, eval e X.env) :: starEach es X.env := by rfl) (hplain : (backTo cpos (starEach es X.env)).any (·.1) = false := by rfl) :
 JE X (.Call (.Attribute o name apos) (e :: es) [] cpos) (eM ty g me mr) :=
 PE.imp (YgH pa slot hty hm ho ha hbase hfew hline hs hplain) fun σ H Q ⟨as, ρ, st, en, rp, h⟩ => ⟨as, ρ, st, en, rp, YkV.bindE h fun p st1 as1 H1 v x rp1 d h1 => by
  by_cases z : ty p st1 = true
  ·rw [ZAI z] at h1
   exact ⟨hT _ _ _ _ _ _ rp1 d z, as1, ρ, st1, en.ext x, rp1, YkV.bindA h1 fun ps st2 as2 H2 vs x2 rp2 d2 h2 => ⟨as2, st2, p, ps, rp2, d.ext x2, d2, YkV.ofO h2⟩⟩
  ·rw [ZAJ z] at h1; exact h1.elim⟩
theorem mM (h : ∀ pins s σ H x xs v us Q as st p ps, Inv X pins σ H s -> RelV x v -> Vals xs us -> Rep X.K as st H -> Den X.K as H x p -> Dens X.K as H xs ps -> Yk4 X as H (g p ps st) Q ->
 wpAny (model X.prog X.w) X.A (call (.builtin id) (v :: us)) (EP X pins σ Q) X.xe s) : MtR X id (rMM X g) :=
 fun pins s σ H x xs v us Q I rx rv ⟨as, st, p, ps, rp, d1, d2, po⟩ => h pins s σ H x xs v us Q as st p ps I rx rv rp d1 d2 po
def YoS : GM := fun p ps st => match p, ps with
 | .str x, [] => if x.length <= cap then okP (.str (Txt.upper x)) st else none
 | _, _ => none
def YmD : GM := fun p ps st => match p, ps with
 | .str x, [] => okP (.bl (Txt.isupper x)) st
 | _, _ => none
theorem YcM : MtR X "str.isupper" (rMM X YmD) := mM fun pins s σ H x xs v us Q as st p ps I rx rv rp d1 d2 h => by
 cases d1 with
 | str =>
  cases d2 with
  | cons a b => show 152
  | nil =>
   cases rv
   show 181
   exact SC.isupper ⟨.bl _, H, I, rfl, h as H _ Ext.refl rp .bl⟩
 | _ => show 152
def YlL : GM := fun p ps st => match p, ps with
 | .ref k, [q] => match Ylq st k with
  | some xs => if xs.length < cap then some (.non, st.set k (.lst (xs ++ [q]))) else none
  | none => none
 | _, _ => none
theorem W4 : MtR X "list.append" (rMM X YlL) := mM fun pins s σ H x xs v us Q as st p ps I rx rv rp d1 d2 h => by
 match p, ps, d1, d2, h with
 | .ref k, [q], d1, d2, h =>
  have h' : Yk4 X as H (match Ylq st k with | some xs => if xs.length < cap then some (.non, st.set k (.lst (xs ++ [q]))) else none | none => none) Q := h
  cases z : Ylq st k with
  | none => rw [z] at h'; exact h'.elim
  | some ys =>
   rw [z] at h'
   obtain ⟨a, vs, rfl, e, hk, h1, h2⟩ := YbO rp d1 z
   obtain ⟨y, rfl, dy⟩ := d2.one
   by_cases hl : ys.length < cap
   ·simp only [if_pos hl] at h'
    refine Yeu pins s σ H _ _ v us Q I rx rv ⟨a, vs, y, rfl, rfl, h1, by rw [h2.length]; exact ZAN hl Ys, ?_⟩
    exact h' as _ _ (Ext.write h1 trivial) (rp.lset e h1 hk (h2.append (.cons dy .nil))) .non
   ·simp only [if_neg hl] at h'; exact h'.elim
 | .ref k, [], _, _, h => show 152
 | .ref k, _ :: _ :: _, _, _, h => show 152
 | .non, _, _, _, h => show 152
 | .bl _, _, _, _, h => show 152
 | .int _, _, _, _, h => show 152
 | .str _, _, _, _, h => show 152
 | .tup _, _, _, _, h => show 152
def Ylv : List P -> Option (List Str)
 | [] => some []
 | .str x :: r => (Ylv r).map (x :: ·)
 | _ :: _ => none
theorem ZL {K : Frag} {as : List Addr} {H : Hp} : ∀ {ps : List P} {vs : List V} {us : List Value} {ys : List Str}, Dens K as H vs ps -> Vals vs us -> Ylv ps = some ys -> StrsAre us ys
 | [], _, _, _, .nil, .nil, h => by cases h; exact .nil
 | p :: r, _, _, ys, .cons d d', .cons r1 r2, h => by
  cases d with
  | @str x =>
   have h' : (Ylv r).map (x :: ·) = some ys := h
   cases q : Ylv r with
   | none => rw [q] at h'; cases h'
   | some zs =>
    rw [q] at h'
    cases h'
    show 225
    exact .cons x t (ZL d' r2 q)
  | _ => cases h
def Yly (x : Str) (ys : List Str) : Nat := (ys.map (·.length)).sum + ys.length * x.length
def Yl8 (me : ME) (m : MA) : ME := fun ρ st => (me ρ st).bind fun p st1 => match p with
 | .str x => (m ρ st1).bind fun ps st2 => match Ylv ps with
  | some ys => if Yly x ys <= cap then .ok (.str (Txt.join x ys)) st2 else .bad
  | none => .bad
 | _ => .bad
theorem Ycm : MtR X "str.join" (fun x xs H Q => ∃ z a vs ys, x = .str z /\ xs = [.ref a] /\ (SqL X.K H a vs \/ SqT X.K H a vs) /\ (∀ us, Vals vs us -> StrsAre us ys) /\ Yly z ys <= cap /\ Q (.str (Txt.join z ys)) H) := by
 intro pins s σ H x xs v us Q I rx rv h
 obtain ⟨z, a, vs, ys, rfl, rfl, hq, hs, hl, q⟩ := h
 show 181
 obtain ⟨u, rfl, ru⟩ := rv.one
 cases ru
 have hc : Yly z ys <= 16777216 := ZAH hl (by decide)
 show 233
 ·obtain ⟨its, r, p, _⟩ := I.list hq
  exact join_list p.isList (hs _ (by simpa using r)) hc fun t' k => ⟨.str _, H, I.tok _, ⟨_, rfl⟩, q⟩
 ·obtain ⟨its, r, p, _⟩ := I.tuple hq
  exact join_tuple p (hs _ (by simpa using r)) hc fun t' k => ⟨.str _, H, I.tok _, ⟨_, rfl⟩, q⟩
theorem WK {m : MA} (ho : JE X o me) (h : JL X e m)
 (hbase : attributeBase o "join" X.env (eval o X.env) = eval o X.env := by rfl)
 (hfew : ((backTo cpos (starEach [e] X.env)).all (fun x => !x.1) && (backToKw cpos (keywordEach [] X.env)).all (fun x => x.1.isSome)
  && decide (([e] : List Expr).length + ([] : List Keyword).length + (if ([] : List Keyword).isEmpty then 0 else 1) < 30)) = true := by rfl)
 (hline : (apos.endLine == cpos.line) = true := by rfl) (hs : starEach [e] X.env = (false, eval e X.env) :: starEach [] X.env := by rfl) : JE X (.Call (.Attribute o "join" apos) [e] [] cpos) (Yl8 me m) :=
 PE.imp (YgH PySem.F.plainAttrs_str PySem.F.slot_str_join PySem.F.type_str_join Ycm ho (Wq h VT hs) hbase hfew hline hs) fun σ H Q ⟨as, ρ, st, en, rp, h⟩ => ⟨as, ρ, st, en, rp, YkV.bindE h fun p st1 as1 H1 v x rp1 d h1 => by
  cases d with
  | @str z =>
   refine ⟨rfl, as1, ρ, st1, en.ext x, rp1, YkV.bindL h1 fun ps st2 as2 H2 l vs x2 rp2 hl fr d2 h2 => ?_⟩
   cases q : Ylv ps with
   | none => rw [q] at h2; exact h2.elim
   | some ys =>
    rw [q] at h2
    by_cases hz : Yly z ys <= cap
    ·simp only [if_pos hz] at h2
     exact ⟨z, l, vs, ys, rfl, rfl, .inl (.of hl), fun us r => ZL d2 r q, hz, h2 as2 H2 _ Ext.refl rp2 .str⟩
    ·simp only [if_neg hz] at h2; exact h2.elim
  | _ => exact h1.elim⟩
end
def YlQ : P -> Option Key
 | .int i => some (.inl i)
 | .str x => some (.inr x)
 | _ => none
theorem V3 {K : Frag} {as : List Addr} {H : Hp} {v : V} {p : P} {k : Key} (d : Den K as H v p) (h : YlQ p = some k) : v = kV k := by
 cases d with
 | int => cases h; rfl
 | str => cases h; rfl
 | _ => cases h
def Ylt {κ : Type} [DecidableEq κ] (kvs : List (κ × P)) (k : κ) : Option P := (kvs.find? fun kv => decide (kv.1 = k)).map (·.2)
def Ynd {κ : Type} [DecidableEq κ] (kvs : List (κ × P)) (k : κ) (v : P) : List (κ × P) :=
 if (kvs.any fun kv => decide (kv.1 = k)) = true then kvs.map fun kv => if kv.1 = k then (kv.1, v) else kv else kvs ++ [(k, v)]
inductive OptDen (K : Frag) (as : List Addr) (H : Hp) : Option V -> Option P -> Prop where
 | none : OptDen K as H none none
 | some {v : V} {p : P} : Den K as H v p -> OptDen K as H (some v) (some p)
section
variable {K : Frag} {as : List Addr} {H : Hp}
theorem Z2 {κ : Type} [DecidableEq κ] {k : κ} : ∀ {ws : List (κ × V)} {kvs : List (κ × P)}, ws.map (·.1) = kvs.map (·.1) -> Dens K as H (ws.map (·.2)) (kvs.map (·.2)) -> OptDen K as H (Yl6 ws k) (Ylt kvs k)
 | [], [], _, _ => .none
 | [], _ :: _, h, _ => by simp at h
 | _ :: _, [], h, _ => by simp at h
 | (k1, v) :: ws, (k2, p) :: kvs, h, d => by
  simp only [List.map_cons, List.cons.injEq] at h
  obtain ⟨rfl, h⟩ := h
  cases d with
  | cons d1 d2 =>
   by_cases e : k1 = k
   ·rw [Vw (p := (k1, v)) e]
    have : Ylt ((k1, p) :: kvs) k = some p := by simp [Ylt, List.find?_cons, e]
    rw [this]; exact .some d1
   ·rw [VC (p := (k1, v)) e]
    have : Ylt ((k1, p) :: kvs) k = Ylt kvs k := by simp [Ylt, List.find?_cons, e]
    rw [this]; exact Z2 h d2
theorem Yh0 {κ : Type} [DecidableEq κ] {k : κ} {v : V} {p : P} (dv : Den K as H v p) {ws : List (κ × V)} {kvs : List (κ × P)} (h : ws.map (·.1) = kvs.map (·.1)) (d : Dens K as H (ws.map (·.2)) (kvs.map (·.2))) :
 (putK ws k v).map (·.1) = (Ynd kvs k p).map (·.1) /\ Dens K as H ((putK ws k v).map (·.2)) ((Ynd kvs k p).map (·.2)) := by
 have hany : (ws.any fun kv => decide (kv.1 = k)) = (kvs.any fun kv => decide (kv.1 = k)) := by
  have e1 : (ws.any fun kv => decide (kv.1 = k)) = (ws.map (·.1)).any fun x => decide (x = k) := by rw [List.any_map]; rfl
  have e2 : (kvs.any fun kv => decide (kv.1 = k)) = (kvs.map (·.1)).any fun x => decide (x = k) := by rw [List.any_map]; rfl
  rw [e1, e2, h]
 unfold putK Ynd
 rw [hany]
 by_cases z : (kvs.any fun kv => decide (kv.1 = k)) = true
 ·rw [ZAI z, ZAI z]
  clear z hany
  induction ws generalizing kvs with
  | nil =>
   cases kvs with
   | nil => exact ⟨rfl, .nil⟩
   | cons a b => simp at h
  | cons a ws ih =>
   cases kvs with
   | nil => simp at h
   | cons b kvs =>
    obtain ⟨k1, v1⟩ := a
    obtain ⟨k2, p2⟩ := b
    simp only [List.map_cons, List.cons.injEq] at h
    obtain ⟨rfl, h⟩ := h
    cases d with
    | cons d1 d2 =>
     obtain ⟨i1, i2⟩ := ih h d2
     simp only [List.map_cons]
     by_cases e : k1 = k
     ·simp only [if_pos e]
      exact ⟨by rw [i1], .cons dv i2⟩
     ·simp only [if_neg e]
      exact ⟨by rw [i1], .cons d1 i2⟩
 ·rw [ZAJ z, ZAJ z, ZAf, ZAf, ZAf, ZAf, h]
  exact ⟨rfl, d.append (.cons dv .nil)⟩
theorem Yad {st : YkJ} {k : Nat} {kvs : List (Key × P)} {v : V} (rp : Rep K as st H) (d : Den K as H v (.ref k)) (h : st[k]? = some (.dct kvs)) :
 ∃ a ws, v = .ref a /\ as[k]? = some a /\ H a = some (.dK ws) /\ ws.map (·.1) = kvs.map (·.1) /\ Dens K as H (ws.map (·.2)) (kvs.map (·.2)) := by
 cases d with
 | ref e =>
  obtain ⟨ws, h1, h2, h3⟩ := rp.ob k _ _ e h
  exact ⟨_, ws, rfl, e, h1, h2, h3⟩
end
def ixI (xs : List P) (q : P) (st : YkJ) : Option (P × YkJ) := match q with
 | .int i => (atI xs i).map fun p => (p, st)
 | _ => none
def ixP : G2 := fun p q st => match p with
 | .str z => (match q with
  | .int i => if z.length <= cap then (atI z.cps.toList i).map fun c => (P.str ⟨#[c]⟩, st) else none
  | _ => none)
 | .tup xs => ixI xs q st
 | .ref k => (match st[k]? with
  | some (.lst xs) => ixI xs q st
  | some (.ro xs) => ixI xs q st
  | some (.dct kvs) => (match YlQ q with
   | some k => (Ylt kvs k).map fun p => (p, st)
   | none => none)
  | _ => none)
 | _ => none
theorem IxR.imp {X : Cx} {r r' : R2} (h : IxR X r) (i : ∀ x y H Q, r' x y H Q -> r x y H Q) : IxR X r' := fun value slice pins s σ H x y v u Q I rx ry q => h value slice pins s σ H x y v u Q I rx ry (i x y H Q q)
theorem Ybx {K : Frag} {as : List Addr} {H : Hp} {vs : List V} {xs : List P} {i : Int} {p : P} (d : Dens K as H vs xs) (h : atI xs i = some p) : ∃ v, atI vs i = some v /\ Den K as H v p := by
 unfold atI at h ⊢
 rw [d.length]
 cases e : ixN xs.length i with
 | none => rw [e] at h; cases h
 | some j =>
  rw [e] at h
  obtain ⟨v, h1, h2⟩ := d.get (show xs[j]? = some p from h)
  exact ⟨v, h1, h2⟩
section
variable {X : Cx} {a b c o i e : Expr} {ma mb mo mi me : ME} {pos pos' : Pos}
theorem YdA (hu : X.A.units + 1 < cLine) : IxR X (fun x y H Q => ∃ a v, x = .ref a /\ Ymj H a y (some v) /\ Q v H) := by
 show 237
 obtain ⟨a, w, rfl, g, q⟩ := h
 cases rx
 exact tail_any (Yb1 I g) PySem.F.slot_dict_getitem.lookup (Yew hu I g ry fun w' s3 I3 rw' => ⟨w, H, I3, rw', q⟩) hs
theorem YjP (hu : X.A.units + 1 < cLine) : IxR X (rM X ixP) := IxR.imp ((Yie (X := X)).or (YdA hu)) fun x y H Q ⟨as, st, p, q, rp, d1, d2, h⟩ => by
 cases d1 with
 | @str z =>
  cases d2 with
  | @int j =>
   have h' : Yk4 X as H (if z.length <= cap then (atI z.cps.toList j).map fun c => (P.str ⟨#[c]⟩, st) else none) Q := h
   by_cases hz : z.length <= cap
   ·rw [ZAI hz] at h'
    cases e : atI z.cps.toList j with
    | none => rw [e] at h'; exact h'.elim
    | some c => rw [e] at h'; exact .inl (.inr (.inr ⟨z, j, c, rfl, rfl, ZAH hz Ys, e, h' as H _ Ext.refl rp .str⟩))
   ·rw [ZAJ hz] at h'; exact h'.elim
  | _ => show 152
 | @tup a vs xs e r =>
  cases d2 with
  | @int j =>
   have h' : Yk4 X as H ((atI xs j).map fun p => (p, st)) Q := h
   cases q : atI xs j with
   | none => show 216
   | some p =>
    rw [q] at h'
    obtain ⟨v, h1, h2⟩ := Ybx r q
    exact .inl (.inr (.inl ⟨a, vs, j, v, rfl, rfl, e, h1, h' as H _ Ext.refl rp h2⟩))
  | _ => show 152
 | @ref k a e =>
  have h' : Yk4 X as H (match st[k]? with
   | some (.lst xs) => ixI xs q st
   | some (.ro xs) => ixI xs q st
   | some (.dct kvs) => (match YlQ q with
    | some k => (Ylt kvs k).map fun p => (p, st)
    | none => none)
   | _ => none) Q := h
  cases w : st[k]? with
  | none => show 258
  | some ob =>
   rw [w] at h'
   have r := rp.ob k a ob e w
   cases ob with
   | lst xs =>
    obtain ⟨vs, h1, h2⟩ := r
    cases d2 with
    | @int j =>
     have h' : Yk4 X as H ((atI xs j).map fun p => (p, st)) Q := h'
     cases q : atI xs j with
     | none => show 216
     | some p =>
      rw [q] at h'
      obtain ⟨v, g1, g2⟩ := Ybx h2 q
      exact .inl (.inl ⟨a, vs, j, v, rfl, rfl, .of h1, g1, h' as H _ Ext.refl rp g2⟩)
    | _ => show 174
   | ro xs =>
    obtain ⟨vs, h1, h2⟩ := r
    cases d2 with
    | @int j =>
     have h' : Yk4 X as H ((atI xs j).map fun p => (p, st)) Q := h'
     cases q : atI xs j with
     | none => show 216
     | some p =>
      rw [q] at h'
      obtain ⟨v, g1, g2⟩ := Ybx h2 q
      exact .inl (.inl ⟨a, vs, j, v, rfl, rfl, Z7 h1, g1, h' as H _ Ext.refl rp g2⟩)
    | _ => show 174
   | dct kvs =>
    obtain ⟨ws, h1, h2, h3⟩ := r
    cases z : YlQ q with
    | none => show 229
    | some key =>
     simp only [z] at h'
     have ev := V3 d2 z
     subst ev
     cases zz : Ylt kvs key with
     | none => rw [zz] at h'; exact h'.elim
     | some p =>
      rw [zz] at h'
      have od := Z2 (k := key) h2 h3
      rw [zz] at od
      cases hv : Yl6 ws key with
      | none => rw [hv] at od; cases od
      | some v =>
       rw [hv] at od
       cases od with
       | some dd => exact .inr ⟨a, v, rfl, by rw [<- hv]; exact Ymj.k h1, h' as H _ Ext.refl rp dd⟩
   | exc c fs => show 174
   | dtt kvs => show 174
   | fdc kvs => show 174
 | _ => show 152
theorem Yr (hu : X.A.units + 1 < cLine) (ha : JE X a ma) (hb : JE X b mb) (hs : YmN b) : JE X (.Subscript a b pos) (YkK ixP ma mb) := PE.imp (Yh7 (YjP hu) ha hb hs) fun _ _ _ h => J4 h
def Ym1 (o i v : P) (st : YkJ) : Option YkJ := match o with
 | .ref k => (match st[k]? with
  | some (.lst xs) => (match i with
   | .int j => (ixN xs.length j).map fun n => st.set k (.lst (xs.set n v))
   | _ => none)
  | some (.dct kvs) => (match YlQ i with
   | some key => if kvs.length < cap then some (st.set k (.dct (Ynd kvs key v))) else none
   | none => none)
  | _ => none)
 | _ => none
def YnJ (mo mi me : ME) : MS := fun ρ st => RS.ofE ρ (me ρ st) fun v st1 => RS.ofE ρ (mo ρ st1) fun o st2 => RS.ofE ρ (mi ρ st2) fun i st3 => match Ym1 o i v st3 with
 | some st4 => .nx ρ st4
 | none => .bad
theorem YjJ (hu : X.A.units + 1 < cLine) {to ti te : TE} (ho : PE X o to) (hi : PE X i ti) (hv : PE X e te) (hs : swapsWith e (some (.Subscript o i pos')) pos.line X.env = pure false) :
 PS X (.Assign [.Subscript o i pos'] e pos) (fun D σ H => te σ H fun v H1 => to σ H1 fun x H2 => ti σ H2 fun y H3 => Yn0 x y v H3 (fun H4 => D.nx σ H4) \/ ∃ a H4, x = .ref a /\ YnA H3 a y v H4 /\ D.nx σ H4) := by
 show 186
 refine wpAny_Assign_Subscript (thn (hv pins s σ H _ I h) fun r s1 ⟨v, H1, I1, rv, q1⟩ => thn (ho pins s1 σ H1 _ I1 q1) fun u s2 ⟨x, H2, I2, rx, q2⟩ => thn (hi pins s2 σ H2 _ I2 q2) fun iv s3 ⟨y, H3, I3, ry, q3⟩ => ?_) hs
 rcases q3 with q3 | ⟨a, H4, ex, g, q3⟩
 ·exact thn (Yga pins s3 σ H3 x y v u iv r _ I3 rx ry rv q3) fun _ s4 ⟨H4, I4, q4⟩ => ⟨σ, H4, I4, q4⟩
 ·subst ex
  obtain rfl : u = Value.ref a := rx
  exact YeF hu I3 g ry rv fun s4 I4 => ⟨σ, H4, I4, q3⟩
theorem Yfd (hu : X.A.units + 1 < cLine) (ho : JE X o mo) (hi : JE X i mi) (hv : JE X e me) (hs : swapsWith e (some (.Subscript o i pos')) pos.line X.env = pure false := by rfl) : JS X (.Assign [.Subscript o i pos'] e pos) (YnJ mo mi me) :=
 PS.imp (YjJ hu ho hi hv hs) fun D σ H ⟨as, ρ, st, en, rp, h⟩ => ⟨as, ρ, st, en, rp, Yk1.ofE h fun pv st1 as1 H1 v x1 rp1 dv h1 => ⟨as1, ρ, st1, en.ext x1, rp1, Yk1.ofE h1 fun po st2 as2 H2 x x2 rp2 dx h2 =>
  ⟨as2, ρ, st2, (en.ext x1).ext x2, rp2, Yk1.ofE h2 fun pi st3 as3 H3 y x3 rp3 dy h3 => by
   have dv := (dv.ext x2).ext x3
   have dx := dx.ext x3
   have en3 := ((en.ext x1).ext x2).ext x3
   cases q : Ym1 po pi pv st3 with
   | none => rw [q] at h3; exact h3.elim
   | some st4 =>
    rw [q] at h3
    unfold Ym1 at q
    cases po with
    | ref k =>
     simp only at q
     cases w : st3[k]? with
     | none => rw [w] at q; cases q
     | some ob =>
      rw [w] at q
      cases ob with
      | lst xs =>
       simp only at q
       cases pi with
       | int j =>
        simp only at q
        cases z : ixN xs.length j with
        | none => rw [z] at q; cases q
        | some n =>
         rw [z] at q
         cases q
         obtain ⟨a, vs, rfl, e1, e2, h4, h5⟩ := YbO (xs := xs) rp3 dx (by unfold Ylq; rw [w])
         cases dy with
         | int => exact .inl ⟨a, vs, j, n, rfl, rfl, h4, by rw [h5.length]; exact z, h3 as3 _ _ (Ext.write h4 trivial) (rp3.lset e1 h4 e2 (Dens.set dv n h5)) (en3.ext (Ext.write h4 trivial))⟩
       | _ => cases q
      | dct kvs =>
       simp only at q
       cases z : YlQ pi with
       | none => rw [z] at q; cases q
       | some key =>
        rw [z] at q
        simp only at q
        by_cases hl : kvs.length < cap
        ·rw [ZAI hl] at q
         cases q
         obtain ⟨a, ws, rfl, e1, h4, h5, h6⟩ := Yad rp3 dx w
         have ev := V3 dy z
         subst ev
         obtain ⟨g1, g2⟩ := Yh0 (k := key) dv h5 h6
         have hlen : ws.length = kvs.length := by simpa using congrArg List.length h5
         refine .inr ⟨a, _, rfl, YnA.k h4 (by rw [hlen]; exact ZAN hl Ys), ?_⟩
         exact h3 as3 _ _ (Ext.write h4 trivial) (rp3.write e1 h4 trivial (fun z => z) (by rw [w]; exact fun z => z) ⟨_, Yl, g1, g2.ext (Ext.write h4 trivial)⟩) (en3.ext (Ext.write h4 trivial))
        ·rw [ZAJ hl] at q; cases q
      | ro xs => cases q
      | exc c fs => cases q
      | dtt kvs => cases q
      | fdc kvs => cases q
    | _ => cases q⟩⟩⟩
def Ynf : ME := fun _ st => .ok (.ref st.length) (st ++ [.dct []])
theorem YgG : JE X (.Dict [] [] pos) Ynf := PE.imp YgQ fun σ H Q ⟨as, ρ, st, en, rp, h⟩ p hp =>
 h (as ++ [p]) _ _ (Ext.new hp) (rp.new hp ⟨[], Yl, rfl, .nil⟩) (.ref (by rw [<- rp.len]; exact Yby))
def YnN (md mk mx : ME) : ME := fun ρ st => (md ρ st).bind fun d st1 => match d with
 | .ref k => (match st1[k]? with
  | some (.dct _) => (mk ρ st1).bind fun y st2 => (mx ρ st2).bind fun z st3 => (match st3[k]?, YlQ y with
   | some (.dct kvs), some key => .ok ((Ylt kvs key).getD z) st3
   | _, _ => .bad)
  | _ => .bad)
 | _ => .bad
theorem Yia {md mk mx : ME} {f : Expr} {apos cpos : Pos} (hu : X.A.units + 1 < cLine) (ho : JE X o md) (he : JE X e mk) (hf : JE X f mx) (m : M2 X o "get" apos e f cpos) : JE X (.Call (.Attribute o "get" apos) [e, f] [] cpos) (YnN md mk mx) :=
 PE.imp (Ygw hu ho he hf m) fun σ H Q ⟨as, ρ, st, en, rp, h⟩ => ⟨as, ρ, st, en, rp, YkV.bindE h fun pd st1 as1 H1 x x1 rp1 dx h1 => by
  cases dx with
  | @ref k a ek =>
   simp only at h1
   cases w : st1[k]? with
   | none => rw [w] at h1; exact h1.elim
   | some ob =>
    rw [w] at h1
    cases ob with
    | dct kvs0 =>
     simp only at h1
     obtain ⟨a', ws, e0, e1, h4, h5, h6⟩ := Yad rp1 (.ref ek) w
     cases e0
     refine ⟨a, rfl, .inl ⟨ws, .inl h4⟩, as1, ρ, st1, en.ext x1, rp1, YkV.bindE h1 fun py st2 as2 H2 y x2 rp2 dy h2 => ⟨as2, ρ, st2, (en.ext x1).ext x2, rp2, YkV.bindE h2 fun pz st3 as3 H3 z x3 rp3 dz h3 => ?_⟩⟩
     cases w3 : st3[k]? with
     | none => rw [w3] at h3; exact h3.elim
     | some ob3 =>
      rw [w3] at h3
      cases ob3 with
      | dct kvs =>
       cases zk : YlQ py with
       | none => rw [zk] at h3; exact h3.elim
       | some key =>
        rw [zk] at h3
        simp only at h3
        have ea : as3[k]? = some a := x3.pre _ _ (x2.pre _ _ ek)
        obtain ⟨a3, ws3, e3, _, g4, g5, g6⟩ := Yad rp3 (.ref ea) w3
        cases e3
        have ev := V3 (dy.ext x3) zk
        subst ev
        refine ⟨_, Ymj.k g4, ?_⟩
        have od := Z2 (k := key) g5 g6
        refine h3 as3 H3 _ Ext.refl rp3 ?_
        cases hv : Yl6 ws3 key with
        | none =>
         rw [hv] at od
         cases hp : Ylt kvs key with
         | none => exact dz
         | some q => rw [hp] at od; cases od
        | some v =>
         rw [hv] at od
         cases hp : Ylt kvs key with
         | none => rw [hp] at od; cases od
         | some q => rw [hp] at od; cases od with | some dd => exact dd
      | lst xs => exact h3.elim
      | ro xs => exact h3.elim
      | exc c fs => exact h3.elim
      | dtt kvs => exact h3.elim
      | fdc kvs => exact h3.elim
    | lst xs => show 173
    | ro xs => show 173
    | exc c fs => show 173
    | dtt kvs => show 173
    | fdc kvs => show 173
  | _ => exact h1.elim⟩
def inP : G2 := fun p q st => match p, q with
 | .str x, .str y => okP (.bl (!(Builtin.Str.occurrences y x 0 y.length 1).isEmpty)) st
 | p, .ref k => (match st[k]? with
  | some (.dct kvs) => (match YlQ p with
   | some key => okP (.bl (Ylt kvs key).isSome) st
   | none => none)
  | _ => none)
 | _, _ => none
def YmA : G2 := fun p q st => match p, q with
 | .str x, .str y => okP (.bl (!(!(Builtin.Str.occurrences y x 0 y.length 1).isEmpty))) st
 | p, .ref k => (match st[k]? with
  | some (.dct kvs) => (match YlQ p with
   | some key => okP (.bl (!(Ylt kvs key).isSome)) st
   | none => none)
  | _ => none)
 | _, _ => none
theorem W8 {K : Frag} {as : List Addr} {H : Hp} {v : Option V} {p : Option P} (h : OptDen K as H v p) : v.isSome = p.isSome := by cases h <;> rfl
theorem Ykt (hu : X.A.units + 1 < cLine) : OpR X (compareOp .In) (rM X inP) := opM fun pins s σ H x y v u Q as st p q I rx ry rp d1 d2 h => by
 cases d2 with
 | str =>
  cases d1 with
  | str => exact YeG pins s σ H _ _ v u Q I rx ry ⟨_, _, rfl, rfl, h as H _ Ext.refl rp .bl⟩
  | _ => show 152
 | @ref k a e =>
  have h' : Yk4 X as H (match st[k]? with
   | some (.dct kvs) => (match YlQ p with
    | some key => okP (.bl (Ylt kvs key).isSome) st
    | none => none)
   | _ => none) Q := by cases d1 <;> exact h
  cases w : st[k]? with
  | none => show 258
  | some ob =>
   rw [w] at h'
   cases ob with
   | dct kvs =>
    cases z : YlQ p with
    | none => show 229
    | some key =>
     simp only [z] at h'
     obtain ⟨a', ws, e0, _, g4, g5, g6⟩ := Yad rp (.ref e) w
     cases e0
     have ev := V3 d1 z
     subst ev
     cases ry
     refine d_in hu I (Ymj.k (k := key) g4) rx fun s3 I3 => ⟨.bl _, H, I3, rfl, ?_⟩
     rw [W8 (Z2 (k := key) g5 g6)]
     show 251
   | _ => show 174
 | _ => cases d1 <;> exact h.elim
theorem Ye7 (hu : X.A.units + 1 < cLine) : OpR X (compareOp .NotIn) (rM X YmA) := opM fun pins s σ H x y v u Q as st p q I rx ry rp d1 d2 h => by
 cases d2 with
 | str =>
  cases d1 with
  | str => exact YbG pins s σ H _ _ v u Q I rx ry ⟨_, _, rfl, rfl, h as H _ Ext.refl rp .bl⟩
  | _ => show 152
 | @ref k a e =>
  have h' : Yk4 X as H (match st[k]? with
   | some (.dct kvs) => (match YlQ p with
    | some key => okP (.bl (!(Ylt kvs key).isSome)) st
    | none => none)
   | _ => none) Q := by cases d1 <;> exact h
  cases w : st[k]? with
  | none => show 258
  | some ob =>
   rw [w] at h'
   cases ob with
   | dct kvs =>
    cases z : YlQ p with
    | none => show 229
    | some key =>
     simp only [z] at h'
     obtain ⟨a', ws, e0, _, g4, g5, g6⟩ := Yad rp (.ref e) w
     cases e0
     have ev := V3 d1 z
     subst ev
     cases ry
     refine Yhv hu I (Ymj.k (k := key) g4) rx fun s3 I3 => ⟨.bl _, H, I3, rfl, ?_⟩
     rw [W8 (Z2 (k := key) g5 g6)]
     show 251
   | _ => show 174
 | _ => cases d1 <;> exact h.elim
end
section
variable {prog : Program} {w : World} {A : Around} {E : VSP} {s : Shared}
theorem W6 {t sl : Addr} {items : Array Value} {vl vu : Value} {lo hi : Option Int} {Q : VSP} (ht : IsTup s.heap t items) (hs : s.heap.IsSliceOf sl vl vu .none) (pl : IsPart vl lo) (pu : IsPart vu hi)
 (hw : HT.sIx items.size 0 lo = 0 /\ HT.sIx items.size items.size hi = items.size) (h : Q (.ref t) s) : wpAny (model prog w) A (getItem (.ref t) (.ref sl)) Q E s := by
 show 231
 have hTs : s.TypeIs (.ref sl) "slice" := ⟨os, hos, hcs⟩
 unfold getItem
 try with_reducible refine ZA6 ?_
 first | refine ZAA (ZAC ?_) | skip
 refine ZAA (ZCB ht.typeIs (by decide) ?_)
 refine ZAA (wpAny_callSpecial?_slot (name := Str.ofString "__getitem__") ht.typeIs PyProof.Rows.slot_tuple_getitem
  (ZAl PyProof.Rows.slot_tuple_getitem ht.typeIs entry_tuple_getitem ?_ (args_tuple_getitem _ _)))
 show wpAny _ _ (Builtin.Tuple.tupleItemsOf (.ref t) >>= _) _ _ s
 refine ZAA (tupleItemsOf_ ht ?_)
 refine ZAA (ZBg hTs ?_)
 rw [ZAI (by decide)]
 refine ZAA (HT.sliceApplied_gen hs pl pu ?_)
 have hno : (((HT.sIx items.size 0 lo : Nat) : Int) == 0 && (1 : Int) == 1 && (HT.sIx items.size items.size hi - HT.sIx items.size 0 lo) == items.size) = true := by
  rw [hw.1, hw.2]; simp
 show wpAny _ _ (if (((HT.sIx items.size 0 lo : Nat) : Int) == 0 && (1 : Int) == 1 && (HT.sIx items.size items.size hi - HT.sIx items.size 0 lo) == items.size) = true then _ else _) _ _ s
 rw [ZAI hno]
 show 176
 unfold Builtin.Tuple.tupleIsExact
 refine ZAA (ZBg ht.typeIs (ZAC ?_))
 rw [ZAI (by decide)]
 exact ZAA (ZBx (ZAC ⟨_, rfl, ZAC h⟩))
theorem VV {sl : Addr} {n : Nat} {t : Tok} {Q : Int × Int × Nat -> Shared -> Prop} (hs : s.heap.IsSliceOf sl .none .none (.int (-1) t))
 (h : Q ((n : Int) - 1, -1, n) s) : wpAny (model prog w) A (Builtin.Slice.sliceApplied (.ref sl) (pure (n : Int))) Q E s := by
 show 231
 unfold Builtin.Slice.sliceApplied Builtin.Slice.sliceFields
 refine ZAA (ZAA (ZAg hos hds (x := .none) rfl (ZAA (ZAg hos hds (x := .none) rfl (ZAA (ZAg hos hds (x := .int (-1) t) rfl (ZAC ?_)))))))
 refine ZAA (slicePart_int ?_)
 show wpAny _ _ (if ((-1 : Int) == 0) = true then _ else _) _ _ s
 show 205
 refine ZAA (slicePart_none (ZAA (slicePart_none (ZAA (ZAC ?_)))))
 show wpAny _ _ (match Builtin.Slice.sliceAdjust none none (-1) (n : Int) with | (lo, hi) => pure (lo, (-1 : Int), Builtin.Slice.slicePlaces lo hi (-1))) _ _ s
 have e1 : Builtin.Slice.sliceAdjust none none (-1) (n : Int) = ((n : Int) - 1, -1) := by
  unfold Builtin.Slice.sliceAdjust
  simp
 have e2 : Builtin.Slice.slicePlaces ((n : Int) - 1) (-1) (-1) = n := by
  unfold Builtin.Slice.slicePlaces
  simp
  split <;> omega
 rw [e1]
 show wpAny _ _ (pure ((n : Int) - 1, (-1 : Int), Builtin.Slice.slicePlaces ((n : Int) - 1) (-1) (-1))) _ _ s
 rw [e2]
 exact ZAC h
theorem YfM (xs : List Value) : ((List.range xs.length).filterMap fun (m : Nat) => xs.toArray[(((xs.length : Nat) : Int) - 1 + (m : Int) * (-1)).toNat]?) = xs.reverse := by
 apply List.ext_getElem?
 intro i
 have : ∀ n : Nat, n <= xs.length -> ((List.range n).filterMap fun (m : Nat) => xs.toArray[(((xs.length : Nat) : Int) - 1 + (m : Int) * (-1)).toNat]?) = xs.reverse.take n := by
  intro n hn
  induction n with
  | zero => rfl
  | succ n ih =>
   rw [List.range_succ, ZCV, ih (by omega)]
   have e : (((xs.length : Nat) : Int) - 1 + (n : Int) * (-1)).toNat = xs.length - 1 - n := by omega
   have hl : xs.length - 1 - n < xs.length := by omega
   have h2 : xs.reverse[n]? = some xs[xs.length - 1 - n] := by
    rw [List.getElem?_reverse (by omega)]
    simp [hl]
   rw [ZBd, h2]
   simp only [List.filterMap_cons, List.filterMap_nil]
   rw [e]
   simp [hl]
 have t := this xs.length (ZAE _)
 rw [List.take_of_length_le (by simp)] at t
 rw [t]
theorem Vp {t sl : Addr} {items : List Value} {u : Tok} {Q : VSP} (ht : IsTup s.heap t items.toArray) (hs : s.heap.IsSliceOf sl .none .none (.int (-1) u))
 (h : Q (.ref s.heap.objs.size) { s with heap := s.heap.push { cls := .type "tuple", data := .seq items.reverse.toArray } }) (hsz : items.length <= sizeLine) : wpAny (model prog w) A (getItem (.ref t) (.ref sl)) Q E s := by
 show 231
 have hTs : s.TypeIs (.ref sl) "slice" := ⟨os, hos, hcs⟩
 have htake : sizeOk (.seq items.reverse.toArray) := by
  show items.reverse.toArray.size <= sizeLine
  simpa using hsz
 unfold getItem
 try with_reducible refine ZA6 ?_
 first | refine ZAA (ZAC ?_) | skip
 refine ZAA (ZCB ht.typeIs (by decide) ?_)
 refine ZAA (wpAny_callSpecial?_slot (name := Str.ofString "__getitem__") ht.typeIs PyProof.Rows.slot_tuple_getitem
  (ZAl PyProof.Rows.slot_tuple_getitem ht.typeIs entry_tuple_getitem ?_ (args_tuple_getitem _ _)))
 show wpAny _ _ (Builtin.Tuple.tupleItemsOf (.ref t) >>= _) _ _ s
 refine ZAA (tupleItemsOf_ ht ?_)
 refine ZAA (ZBg hTs ?_)
 rw [ZAI (by decide)]
 refine ZAA (VV hs ?_)
 show wpAny _ _ (if ((((items.toArray.size : Nat) : Int) - 1) == 0 && (-1 : Int) == 1 && items.toArray.size == items.toArray.size) = true then _ else _) _ _ s
 rw [ZAJ (by intro q; rw [ZAq, ZAq] at q; exact absurd q.1.2 (by decide))]
 have e : ((List.range items.toArray.size).filterMap fun (k : Nat) => items.toArray[((items.toArray.size : Int) - 1 + (k : Int) * (-1)).toNat]?).toArray = items.reverse.toArray := by
  have := YfM items
  simp only [List.size_toArray]
  show 191
 rw [e]
 first
  | exact ZAA (m := Builtin.Tuple.tupleExact _) (ZAb (ZAC ⟨_, rfl, ZAC h⟩) htake)
  | exact ZAA (m := Builtin.Tuple.tupleExact _) (ZAb (ZAA (ZAC (ZAC ⟨_, rfl, ZAC h⟩))) htake)
  | exact ZAA (ZAA (m := Builtin.Tuple.tupleExact _) (ZAb (ZAC (ZAC ⟨_, rfl, ZAC h⟩)) htake))
  | exact ZAA (ZAA (m := Builtin.Tuple.tupleExact _) (ZAb (ZAC ⟨_, rfl, ZAC h⟩) htake))
end
abbrev MO := Rho -> YkJ -> R (Option Int)
def Yl3 (X : Cx) (as : List Addr) (H : Hp) (ρ : Rho) (r : R (Option Int)) (Q : Option Int -> Hp -> Prop) : Prop :=
 match r with
 | .ok o st' => ∀ as' H', Ext as H as' H' -> Rep X.K as' st' H' -> Q o H'
 | .exc k st' => XOk X as H ρ k st'
 | .bad => False
def tO (X : Cx) (m : MO) : TO := fun σ H Q => ∃ as ρ st, YkZ X.K as H ρ σ /\ Rep X.K as st H /\ Yl3 X as H ρ (m ρ st) Q
abbrev JO (X : Cx) (e : Option Expr) (m : MO) : Prop := PO X e (tO X m)
theorem PO.imp {X : Cx} {e : Option Expr} {t t' : TO} (h : PO X e t) (i : ∀ σ H Q, t' σ H Q -> t σ H Q) : PO X e t' := fun pins s σ H Q I q => h pins s σ H Q I (i σ H Q q)
def YlE : MO := fun _ st => .ok none st
def Yli (me : ME) : MO := fun ρ st => (me ρ st).bind fun p st1 => match p with
 | .int i => .ok (some i) st1
 | _ => .bad
section
variable {X : Cx} {e : Expr} {me : ME} {lo hi : Option Expr} {ml mh : MO} {pos p2 : Pos}
theorem Yl3.ext {as as1 : List Addr} {H H1 : Hp} {ρ : Rho} {r : R (Option Int)} {Q : Option Int -> Hp -> Prop} (x : Ext as H as1 H1) (h : Yl3 X as H ρ r Q) : Yl3 X as1 H1 ρ r Q := by
 cases r with
 | ok p st' => exact fun as' H' y => h as' H' (x.trans y)
 | exc k st' => show 199
 | bad => exact h
theorem Yl3.bindE {as : List Addr} {H : Hp} {ρ : Rho} {r : R P} {f : P -> YkJ -> R (Option Int)} {Q : Option Int -> Hp -> Prop} {Q' : VK} (h : Yl3 X as H ρ (r.bind f) Q)
 (go : ∀ p st1 as1 H1 v, Ext as H as1 H1 -> Rep X.K as1 st1 H1 -> Den X.K as1 H1 v p -> Yl3 X as1 H1 ρ (f p st1) Q -> Q' v H1) : YkV X as H ρ r Q' := by
 cases r with
 | ok p st1 => exact fun as1 H1 v x rp d => go p st1 as1 H1 v x rp d (Yl3.ext x h)
 | exc k st' => exact h
 | bad => exact h
theorem YkV.bindN {as : List Addr} {H : Hp} {ρ : Rho} {r : R (Option Int)} {f : Option Int -> YkJ -> R P} {Q : VK} {Q' : Option Int -> Hp -> Prop} (h : YkV X as H ρ (r.bind f) Q)
 (go : ∀ b st1 as1 H1, Ext as H as1 H1 -> Rep X.K as1 st1 H1 -> YkV X as1 H1 ρ (f b st1) Q -> Q' b H1) : Yl3 X as H ρ r Q' := by
 cases r with
 | ok p st1 => exact fun as1 H1 x rp => go p st1 as1 H1 x rp (YkV.ext x h)
 | exc k st' => exact h
 | bad => exact h
theorem Zr : JO X none YlE := PO.imp Yhe fun σ H Q ⟨as, ρ, st, en, rp, h⟩ => h as H Ext.refl rp
theorem YJ (he : JE X e me) : JO X (some e) (Yli me) := PO.imp (YhT he) fun σ H Q ⟨as, ρ, st, en, rp, h⟩ => ⟨as, ρ, st, en, rp, Yl3.bindE h fun p st1 as1 H1 v x rp1 d h1 => by
 cases d with
 | int => exact ⟨_, rfl, h1 as1 H1 Ext.refl rp1⟩
 | _ => exact h1.elim⟩
def YlJ (xs : List P) (lo hi : Option Int) : List P := (xs.drop (HT.sIx xs.length 0 lo)).take (HT.sIx xs.length xs.length hi - HT.sIx xs.length 0 lo)
theorem YbB {K : Frag} {as : List Addr} {H : Hp} {vs : List V} {xs : List P} (d : Dens K as H vs xs) (lo hi : Option Int) : Dens K as H (YmX vs lo hi) (YlJ xs lo hi) := by
 unfold YmX YlJ
 rw [d.length]
 exact (d.drop _).take _
def slP (p : P) (lo hi : Option Int) (st : YkJ) : Option (P × YkJ) := match p with
 | .str z => if z.length <= cap then okP (.str (Txt.slice z lo hi)) st else none
 | .tup xs => okP (.tup (YlJ xs lo hi)) st
 | .ref k => (match st[k]? with
  | some (.lst xs) => YlW (YlJ xs lo hi) st
  | some (.ro xs) => YlW (YlJ xs lo hi) st
  | _ => none)
 | _ => none
def rMS (X : Cx) : V -> Option Int -> Option Int -> Hp -> VK -> Prop := fun x lo hi H Q => ∃ as st p, Rep X.K as st H /\ Den X.K as H x p /\ Yk4 X as H (slP p lo hi st) Q
theorem YbS {v : Value} {o : Option Int} (p : IsPart v o) : ∃ q : Option (Int × Tok), v = partValue q /\ q.map (·.1) = o := by
 cases p with
 | none => exact ⟨none, rfl, rfl⟩
 | int i t => exact ⟨some (i, t), rfl, rfl⟩
theorem YiJ : SlR X (fun x lo hi H Q => ∃ z, x = .str z /\ z.length <= cap /\ Q (.str (Txt.slice z lo hi)) H) := by
 show 262
 obtain ⟨z, rfl, hz, q⟩ := h
 show 181
 obtain ⟨ql, rfl, el⟩ := YbS pl
 obtain ⟨qu, rfl, eu⟩ := YbS pu
 obtain ⟨o, ho, hc, hd⟩ := id hs
 refine ⟨"str", _, PySem.F.slot_str_getitem.lookup, typeIs_str _ _ _, wpAny_getItem_str_slice (l := ql) (u := qu) (st := none) ⟨o, ho, hc, hd⟩ rfl ?_⟩
 have fin : ∀ t' k, EP X pins σ Q (.str (Txt.slice z lo hi) t') { s with toks := k } := fun t' k => ⟨.str _, H, I.tok k, ⟨_, rfl⟩, q⟩
 unfold sliceMade
 have e : slicePicked z ql qu none = Builtin.Str.strSliceIndices lo hi 1 z.length := by unfold slicePicked; rw [el, eu]; rfl
 rw [e]
 exact post_val_or_str ⟨ZAH (Txt.slice_le z lo hi) (ZAH hz Ys), fin⟩
theorem Yht : SlR X (fun x lo hi H Q => ∃ a xs, x = .ref a /\ SqT X.K H a xs /\ HT.sIx xs.length 0 lo = 0 /\ HT.sIx xs.length xs.length hi = xs.length /\ Q (.ref a) H) := by
 show 262
 obtain ⟨a, xs, rfl, hx, h1, h2, q⟩ := h
 cases rx
 obtain ⟨its, r, ht, hz⟩ := I.tuple hx
 have hlen : its.toArray.size = xs.length := by rw [ZAZ]; exact r.length.symm
 exact ⟨"tuple", _, PyProof.Rows.slot_tuple_getitem.lookup, ht.typeIs, W6 ht hs pl pu (by rw [hlen]; exact ⟨h1, h2⟩) ⟨.ref a, H, I, rfl, q⟩⟩
theorem SlR.imp {r r' : V -> Option Int -> Option Int -> Hp -> VK -> Prop} (h : SlR X r) (i : ∀ x lo hi H Q, r' x lo hi H Q -> r x lo hi H Q) : SlR X r' := fun pins s σ H x v vl vu lo hi sl Q I rx hs pl pu q => h pins s σ H x v vl vu lo hi sl Q I rx hs pl pu (i x lo hi H Q q)
theorem Ykj : SlR X (rMS X) := SlR.imp ((YiJ (X := X)).or ((YiM (X := X)).or ((Yht (X := X)).or (YgZ (X := X))))) fun x lo hi H Q ⟨as, st, p, rp, d, h⟩ => by
 cases d with
 | @str z =>
  have h' : Yk4 X as H (if z.length <= cap then okP (.str (Txt.slice z lo hi)) st else none) Q := h
  by_cases hz : z.length <= cap
  ·rw [ZAI hz] at h'
   exact .inl ⟨z, rfl, hz, h' as H _ Ext.refl rp .str⟩
  ·rw [ZAJ hz] at h'; exact h'.elim
 | @tup a vs xs e r =>
  have h' : Yk4 X as H (okP (.tup (YlJ xs lo hi)) st) Q := h
  by_cases w : HT.sIx vs.length 0 lo = 0 /\ HT.sIx vs.length vs.length hi = vs.length
  ·refine .inr (.inr (.inl ⟨a, vs, rfl, e, w.1, w.2, ?_⟩))
   have ec : YlJ xs lo hi = xs := by
    unfold YlJ
    rw [<- r.length, w.1, w.2, ZCW, ZAc (by rw [r.length]; exact ZAE _)]
   rw [ec] at h'
   exact h' as H _ Ext.refl rp (.tup e r)
  ·exact .inr (.inl ⟨a, vs, rfl, e, w, fun p hp => h' as _ _ (Ext.laid hp) (rp.laid hp) (.tup (.of Yl) ((YbB r lo hi).ext (Ext.laid hp)))⟩)
 | @ref k a e =>
  have h' : Yk4 X as H (match st[k]? with | some (.lst xs) => YlW (YlJ xs lo hi) st | some (.ro xs) => YlW (YlJ xs lo hi) st | _ => none) Q := h
  cases w : st[k]? with
  | none => show 258
  | some ob =>
   rw [w] at h'
   have r := rp.ob k a ob e w
   cases ob with
   | lst xs => obtain ⟨vs, h1, h2⟩ := r; exact .inr (.inr (.inr ⟨a, vs, rfl, .of h1, fun p hp => WY rp (YbB h2 lo hi) h' hp⟩))
   | ro xs => obtain ⟨vs, h1, h2⟩ := r; exact .inr (.inr (.inr ⟨a, vs, rfl, Z7 h1, fun p hp => WY rp (YbB h2 lo hi) h' hp⟩))
   | dct kvs => show 174
   | exc c fs => show 174
   | dtt kvs => show 174
   | fdc kvs => show 174
 | _ => show 152
def eSl (me : ME) (ml mh : MO) : ME := fun ρ st => (me ρ st).bind fun p st1 => (ml ρ st1).bind fun l st2 => (mh ρ st2).bind fun u st3 => ofO (slP p l u st3)
theorem YL (he : JE X e me) (hl : JO X lo ml) (hu : JO X hi mh) : JE X (.Subscript e (.Slice lo hi none p2) pos) (eSl me ml mh) :=
 PE.imp (YgO Ykj he hl hu) fun σ H Q ⟨as, ρ, st, en, rp, h⟩ => ⟨as, ρ, st, en, rp, YkV.bindE h fun p st1 as1 H1 v x rp1 d h1 => ⟨as1, ρ, st1, en.ext x, rp1, YkV.bindN h1 fun l st2 as2 H2 x2 rp2 h2 =>
  ⟨as2, ρ, st2, (en.ext x).ext x2, rp2, YkV.bindN h2 fun u st3 as3 H3 x3 rp3 h3 => ⟨as3, st3, p, rp3, (d.ext x2).ext x3, YkV.ofO h3⟩⟩⟩⟩
def Yov (me : ME) : ME := fun ρ st => (me ρ st).bind fun p st1 => match p with
 | .tup xs => .ok (.tup xs.reverse) st1
 | _ => .bad
end
def tyP (p : P) (st : YkJ) : Option String := match p with
 | .non => some "NoneType"
 | .bl _ => some "bool"
 | .int _ => some "int"
 | .str _ => some "str"
 | .tup _ => some "tuple"
 | .ref k => (match st[k]? with
  | some (.lst _) => some "list"
  | some (.ro _) => some "list"
  | some (.dct _) => some "dict"
  | _ => none)
def Ynv (t T : String) : Bool := t == T || (t == "bool" && T == "int")
def YmO (T : String) : Prop := ∀ (K : Frag) (t : String), t ∈ ["NoneType", "bool", "int", "str", "tuple", "list", "dict"] -> PySem.W.kitOne K (.type t) (.type T) = some (Ynv t T)
theorem Yky : YmO "str" := fun K t h => by
 simp only [List.mem_cons, List.not_mem_nil, or_false] at h
 rcases h with rfl | rfl | rfl | rfl | rfl | rfl | rfl <;> rfl
theorem YgJ : YmO "bool" := fun K t h => by
 simp only [List.mem_cons, List.not_mem_nil, or_false] at h
 rcases h with rfl | rfl | rfl | rfl | rfl | rfl | rfl <;> rfl
def Yom (T : String) (me : ME) : ME := fun ρ st => (me ρ st).bind fun p st1 => match tyP p st1 with
 | some t => .ok (.bl (Ynv t T)) st1
 | none => .bad
section
variable {X : Cx} {e : Expr} {me : ME} {pos p p' : Pos}
theorem Yfy {T : String} (kt : YmO T) : YlD X (.builtin "isinstance") (fun xs H Q => ∃ x as st p t, xs = [x, .ty T] /\ Rep X.K as st H /\ Den X.K as H x p /\ tyP p st = some t /\ Q (.bl (Ynv t T)) H) := by
 intro pins s σ H xs us Q I rv h
 obtain ⟨x, as, st, p, t, rfl, rp, d, ht, q⟩ := h
 obtain ⟨u, c, rfl, ru, rc⟩ := rv.two
 obtain rfl : c = Value.type T := rc
 have fin : ∀ tk, EP X pins σ Q (.bool (Ynv t T)) { s with toks := tk } := fun tk => ⟨.bl _, H, I.tok tk, rfl, q⟩
 cases d with
 | non => cases ru; cases ht; exact PySem.W.kia_one PySem.W.kitx_none I.kIn True.intro (kt _ _ (by decide)) (fun z => nomatch z) fin
 | bl => cases ru; cases ht; exact PySem.W.kia_one PySem.W.kitx_bool I.kIn True.intro (kt _ _ (by decide)) (fun z => nomatch z) fin
 | int => obtain ⟨t', rfl⟩ := ru; cases ht; exact PySem.W.kia_one PySem.W.kitx_int I.kIn True.intro (kt _ _ (by decide)) (fun z => nomatch z) fin
 | str => obtain ⟨t', rfl⟩ := ru; cases ht; exact PySem.W.kia_one PySem.W.kitx_str I.kIn True.intro (kt _ _ (by decide)) (fun z => nomatch z) fin
 | tup e r =>
  cases ru; cases ht
  obtain ⟨its, _, ⟨o, h1, h2, _⟩, _⟩ := I.tuple e
  exact PySem.W.kia_one PySem.W.kitx_tuple I.kIn ⟨o, h1, h2⟩ (kt _ _ (by decide)) (fun z => nomatch z) fin
 | @ref k a e =>
  cases ru
  have ht' : (match st[k]? with | some (.lst _) => some "list" | some (.ro _) => some "list" | some (.dct _) => some "dict" | _ => none) = some t := ht
  cases w : st[k]? with
  | none => rw [w] at ht'; cases ht'
  | some ob =>
   rw [w] at ht'
   have r := rp.ob k a ob e w
   cases ob with
   | lst xs =>
    cases ht'
    obtain ⟨vs, h1, _⟩ := r
    obtain ⟨its, _, ⟨o, n, g1, g2, _⟩, _⟩ := I.list (.of h1)
    exact PySem.W.kia_one PySem.W.kitx_list I.kIn ⟨o, g1, g2⟩ (kt _ _ (by decide)) (fun z => nomatch z) fin
   | ro xs =>
    cases ht'
    obtain ⟨vs, h1, _⟩ := r
    obtain ⟨its, _, ⟨o, n, g1, g2, _⟩, _⟩ := I.list (Z7 h1)
    exact PySem.W.kia_one PySem.W.kitx_list I.kIn ⟨o, g1, g2⟩ (kt _ _ (by decide)) (fun z => nomatch z) fin
   | dct kvs =>
    cases ht'
    obtain ⟨ws, h1, _⟩ := r
    obtain ⟨_, _, vs, _, o, es, ep, g1, g2, _⟩ := I.hok a _ h1
    exact PySem.W.kia_one PySem.W.kitx_dict I.kIn ⟨o, g1, g2.1⟩ (kt _ _ (by decide)) (fun z => nomatch z) fin
   | exc c fs => cases ht'
   | dtt kvs => cases ht'
   | fdc kvs => cases ht'
theorem Yim {T : String} {y : Str} (kt : YmO T) (hg : Gl X "isinstance") (hm : X.mg "isinstance" = none) (hv : bootBuiltins "isinstance" = some (.builtin "isinstance")) (gy : Gl X y) (my : X.mg y = none) (vy : bootBuiltins y = some (.type T)) (he : JE X e me)
 (hy : y ≠ "__name__" := by decide) (hyd : (y == ("__debug__" : Str)) = false := by decide)
 (h1 : starEach [e, .Name y p'] X.env = (false, eval e X.env) :: starEach [.Name y p'] X.env := by rfl) (h2 : starEach [.Name y p'] X.env = (false, eval (.Name y p') X.env) :: starEach [] X.env := by rfl) (hpl : (backTo pos (starEach [.Name y p'] X.env)).any (·.1) = false := by rfl) :
 JE X (.Call (.Name "isinstance" p) [e, .Name y p'] [] pos) (Yom T me) :=
 PE.imp (Yaf (Yfy kt) hg hm hv (Wq he (Wq (Yg6 (v := .ty T) gy my vy rfl hy hyd) VT h2) h1) (by decide) (by decide) h1 hpl) fun σ H Q ⟨as, ρ, st, en, rp, h⟩ => ⟨as, ρ, st, en, rp, YkV.bindE h fun p st1 as1 H1 v x rp1 d h1 => by
  cases w : tyP p st1 with
  | none => rw [w] at h1; exact h1.elim
  | some t => rw [w] at h1; exact ⟨v, as1, st1, p, t, rfl, rp1, d, w, h1 as1 H1 _ Ext.refl rp1 .bl⟩⟩
def YlK (n : Nat) (r : MGs) : MG := fun p ρ st => match Ylf p st with
 | some xs => if xs.length = n then r xs ρ st else none
 | none => none
theorem YcX {n k : Nat} {r : MGs} (h : YmR n r) : Yms n (YlK k r) := fun p ρ st ρ1 e => by
 unfold YlK at e
 cases q : Ylf p st with
 | none => show 209
 | some xs =>
  rw [q] at e
  simp only at e
  by_cases z : xs.length = k
  ·rw [ZAI z] at e; exact h _ _ _ _ e
  ·rw [ZAJ z] at e; cases e
theorem YaP {prog : Program} {w : World} {A : Around} {E : VSP} {it t : Addr} {items : Array Value} (hne : t ≠ it) : ∀ (n i : Nat) (s : Shared) (Q : List Value -> Shared -> Prop), s.heap.IsListIter it t i -> s.heap.IsList t items -> i + n <= items.size ->
 (∀ h', h'.IsListIter it t (i + n) -> Heap.SameBut it s.heap h' -> Q ((items.toList.drop i).take n) { s with heap := h' }) -> wpAny (model prog w) A (draw (.ref it) n) Q E s
 | 0, i, s, Q, hit, ht, hl, hQ => by
  show wpAny _ _ (pure []) Q E s
  exact ZAC (hQ s.heap hit (.refl ..))
 | n + 1, i, s, Q, hit, ht, hl, hQ => by
  have hlt : i < items.size := by omega
  show wpAny _ _ (pyNext (.ref it) >>= _) Q E s
  refine wpAny_bind (wpAny_pyNext_list_item hit ht (x := items[i]) (by simp [hlt]) fun h₁ hit₁ hs₁ => ?_)
  refine ZAA (ZA6 (YaP hne n (i + 1) _ _ hit₁ (ht.extBut hs₁.extBut hne) (by omega) fun h₂ hit₂ hs₂ => ZAC ?_))
  have hd : items.toList.drop i = items[i] :: items.toList.drop (i + 1) := by simp [List.drop_eq_getElem_cons, hlt]
  have := hQ h₂ (by rw [show i + (n + 1) = i + 1 + n by omega]; exact hit₂) (hs₁.trans hs₂)
  rw [hd, List.take_succ_cons] at this
  exact this
theorem VP {prog : Program} {w : World} {A : Around} {E : VSP} {s : Shared} {t : Addr} {items : Array Value} {Q : List Value -> Shared -> Prop} (hh : A.handled = none) (ht : s.heap.IsList t items)
 (hQ : ∀ h', Heap.ExtBut s.heap.objs.size s.heap h' -> Q items.toList { s with heap := h' }) : wpAny (model prog w) A (unpackItems (.ref t) items.size none) Q E s := by
 have hlt : t ≠ s.heap.objs.size := by obtain ⟨o, ho, _⟩ := ht; exact ZAL (ZAD ho)
 unfold unpackItems
 show 176
 ·unfold notIterableAtAll
  refine ZAA (wpAny_specialOf ht.typeIs PySem.F.slot_list_iter.lookup ?_)
  refine ZAC ?_
  simp only [Bool.false_eq_true, if_false]
  refine ZAA (ZA6 (ZBc ht ?_))
  refine ZAA (ZA6 (YaP hlt items.size 0 _ _ ⟨_, ZAF _ rfl, rfl, rfl⟩ (ht.push _) (by omega) fun h₁ hit₁ hs₁ => ?_))
  have hall : List.take items.size (List.drop 0 items.toList) = items.toList := by
   rw [List.drop_zero]; exact List.take_of_length_le (by simp)
  rw [hall]
  rw [if_neg (by simp)]
  have ht₁ : h₁.IsList t items := (ht.push _).extBut hs₁.extBut hlt
  refine wpAny_bind (wpAny_holding (wpAny_pyNext_list_end hh hit₁ ht₁ (by simp) fun h₂ he₂ => ?_))
  simp only [Option.isSome_none, Bool.false_eq_true, if_false]
  refine ZAC (hQ h₂ fun b o hb e => he₂ b o hb (hs₁.extBut b o hb (ZAB _ e)))
theorem Vz {prog : Program} {w : World} {A : Around} {E : VSP} {s : Shared} {env : Env} {elts : List Expr} {x1} {pos : Pos} {t : Addr} {items : Array Value} {Q : Unit -> Shared -> Prop} (hh : A.handled = none) (ht : s.heap.IsList t items)
 (hn : (assignEach elts env).length = items.size) (hstar : (assignEach elts env).findIdx? (·.1) = none)
 (h : ∀ h', Heap.ExtBut s.heap.objs.size s.heap h' -> wpAny (model prog w) A (assignInOrder ((assignEach elts env).map (·.2)) items.toList) Q E { s with heap := h' }) :
 wpAny (model prog w) A (assign (.Tuple elts x1 pos) env (.ref t)) Q E s := by
 rw [assign_Tuple]
 refine ZAA (ZCg ?_)
 unfold unpack
 rw [hn, hstar]
 exact ZAA (ZA6 (VP hh ht h))
theorem YiK {es : List Expr} {k : Nat} {t : TGs} {n : Nat} (hc : X.calm = true) (h : PGs X es t)
 (hn : (assignEach es X.env).length = n := by rfl) (hst : (assignEach es X.env).findIdx? (·.1) = none := by rfl) : PG X (.Tuple es k pos) (fun v σ H Q => ∃ a xs, v = .ref a /\ (SqL X.K H a xs \/ SqT X.K H a xs) /\ xs.length = n /\ t xs σ H Q) := by
 intro pins s σ H v u Q I r hw
 obtain ⟨a, xs, e1, hq, hl, hw⟩ := hw
 subst e1
 show 233
 ·cases r
  obtain ⟨its, rv, ht, hz⟩ := I.list hq
  refine Vz (I.ok.hd hc) ht.isList (by simp [hn, <- hl, rv.length]) hst fun h' hx => ?_
  have I1 : Inv X pins σ H { s with heap := h' } := I.kept (t' := s.toks) fun b o e => hx b o (ZAL (ZAD e)) e
  exact h pins _ σ H xs _ Q I1 (by simpa using rv) hw
 ·exact YiR hc h hn hst pins s σ H _ u Q I r ⟨a, xs, rfl, hq, hl, hw⟩
theorem VQ {es : List Expr} {k : Nat} {r : MGs} {n : Nat} (hc : X.calm = true) (h : JGs X es r)
 (hn : (assignEach es X.env).length = n := by rfl) (hst : (assignEach es X.env).findIdx? (·.1) = none := by rfl) : JG X (.Tuple es k pos) (YlK n r) :=
 PG.imp (YiK hc h hn hst) fun v σ H Q ⟨as, ρ, st, p, ρ', en, rp, d, g, q⟩ => by
  unfold YlK at g
  cases w : Ylf p st with
  | none => rw [w] at g; cases g
  | some xs =>
   rw [w] at g
   simp only at g
   by_cases z : xs.length = n
   ·rw [ZAI z] at g
    obtain ⟨a, vs, rfl, hq, r⟩ := Ybu rp d w
    exact ⟨a, vs, rfl, hq, by rw [r.length]; exact z, as, ρ, st, xs, ρ', en, rp, r, g, q⟩
   ·rw [ZAJ z] at g; cases g
def YnO (me : ME) (g : MG) : MS := fun ρ st => RS.ofE ρ (me ρ st) fun p st1 => match g p ρ st1 with
 | some ρ' => .nx ρ' st1
 | none => .bad
theorem Yi9 {tg : Expr} {g : MG} (he : JE X e me) (hg : JG X tg g) (hs : swapsWithSole [tg] e pos.line X.env = pure false := by rfl) (hw : swappedStores [tg] e X.env = pure none := by rfl)
 (h1 : (assignEach [tg] X.env).map (·.2) = [assign tg X.env] := by rfl) : JS X (.Assign [tg] e pos) (YnO me g) :=
 PS.imp (Yiw he hg hs hw h1) fun D σ H ⟨as, ρ, st, en, rp, h⟩ => ⟨as, ρ, st, en, rp, Yk1.ofE h fun p st1 as1 H1 v x rp1 d h1 => by
  cases w : g p ρ st1 with
  | none => rw [w] at h1; exact h1.elim
  | some ρ' => rw [w] at h1; exact ⟨as1, ρ, st1, p, ρ', en.ext x, rp1, d, w, fun σ' en' => h1 as1 H1 σ' Ext.refl rp1 en'⟩⟩
end
def Itz (K : Frag) (a b : Addr) : It :=
 ⟨fun i H => ∃ xs x ys y, SqL K H a xs /\ xs[i]? = some x /\ SqL K H b ys /\ ys[i]? = some y,
  fun i H v H' => ∃ p, v = .ref p /\ H p = none /\ ∀ xs ys, SqL K H a xs -> SqL K H b ys -> ∃ x y, xs[i]? = some x /\ ys[i]? = some y /\ H' = upd H p (.tup [x, y]),
  fun i H => ∃ xs ys, SqL K H a xs /\ SqL K H b ys /\ (xs.length <= i \/ ys.length <= i)⟩
theorem YI {X : Cx} {pins : LAO} {σ : St} {H : Hp} {s : Shared} {a b : Addr} {xs : List V} (I : Inv X pins σ H s) (h : SqL X.K H a xs) (f : YlA X pins H b) : a ≠ b := by
 obtain ⟨f0, f1, f2, f3, f4, f5⟩ := f
 rintro rfl
 rcases h with h | ⟨o, its, n, hk, _⟩
 ·rcases h with h | ⟨o, h⟩
  ·rw [f0] at h; cases h
  ·rw [f0] at h; cases h
 ·have hb := I.ok.mod.kin a o hk
  rcases f3 with z | z
  ·exact I.ok.noex a o hb z
  ·exact absurd (ZAN (ZAD hb) (ZAH I.ok.bsz z)) (ZA5 _)
structure ZAp (z TI TO i1 i2 : Addr) : Prop where
 TIz : TI ≠ z
 TOz : TO ≠ z
 i1z : i1 ≠ z
 i2z : i2 ≠ z
 TITO : TI ≠ TO
 TIi1 : TI ≠ i1
 TIi2 : TI ≠ i2
 TOi1 : TO ≠ i1
 TOi2 : TO ≠ i2
 i12 : i1 ≠ i2
def ZTn (z TI TO i1 i2 a b : Addr) (i : Nat) (h : Heap) : Prop := IsZip h z TI TO .none /\ IsPair h TI (.ref i1) (.ref i2) /\ (∃ x y, IsPair h TO x y) /\ h.IsListIter i1 a i /\ h.IsListIter i2 b i
theorem Yf1 {P : Program} {w : World} {K : Frag} {elts : List Expr} {x1 : Nat} {tp : Pos} {z TI TO i1 i2 a b : Addr} (D : ZAp z TI TO i1 i2) :
 Turn P w K (.Tuple elts x1 tp) (Itz K a b) [z, TI, TO, i1, i2] z (ZTn z TI TO i1 i2 a b) where
 mem := by simp
 obj := fun i h st c hc => by
  obtain ⟨h1, h2, ⟨x, y, h3⟩, ⟨o4, h4, c4, d4⟩, ⟨o5, h5, c5, d5⟩⟩ := st
  show 60
  ·exact ⟨_, h1, fun v z => by cases z⟩
  ·exact ⟨_, h2, fun v z => by cases z⟩
  ·exact ⟨_, h3, fun v z => by cases z⟩
  ·exact ⟨_, h4, fun v z => by rw [d4] at z; cases z⟩
  ·exact ⟨_, h5, fun v z => by rw [d5] at z; cases z⟩
 keep := fun i h h' st k => by
  obtain ⟨h1, h2, ⟨x, y, h3⟩, h4, h5⟩ := st
  exact ⟨k z (by simp) _ h1, k TI (by simp) _ h2, ⟨x, y, k TO (by simp) _ h3⟩, h4.at fun o e => k i1 (by simp) o e, h5.at fun o e => k i2 (by simp) o e⟩
 item := by
  show 88
  obtain ⟨xs, x, ys, y, hx, ex, hy, ey⟩ := hg
  show 267
  have fTI := hf TI (by simp)
  show 76
  obtain ⟨its, rx, px, zx⟩ := I.list hx
  obtain ⟨jts, ry, py, zy⟩ := I.list hy
  obtain ⟨ux, eux, rux⟩ := rx.get ex
  obtain ⟨uy, euy, ruy⟩ := ry.get ey
  have DZ : ZipApart z TI TO i1 i2 a b := ⟨D.TIz, D.TOz, D.i1z, D.i2z, D.TITO, D.TIi1, D.TIi2, D.TOi1, D.TOi2, D.i12, YI I hx fz, YI I hx fTO, YI I hx f1, YI I hx f2, YI I hy fz, YI I hy fTO, YI I hy f1, YI I hy f2⟩
  refine wpAny_pyNext_zip_item DZ h1 h2 h3 h4 h5 px.isList py.isList (x := ux) (y := uy) (by simpa using eux) (by simpa using euy) fun h' a1 a2 a3 a4 a5 a6 hk => ?_
  have nT : H s.heap.objs.size = none := I.hok.fresh (ZAE _)
  have fp4 : ∀ c ∈ [z, TO, i1, i2], YlA X pins H c := fun c hc => by
   show 61
  have notIn : ∀ {c}, c ∉ [z, TO, i1, i2] -> c ≠ z /\ c ≠ TO /\ c ≠ i1 /\ c ≠ i2 := fun {c} hc => by
   show 247
  have tr : ∀ {c u}, H c = some u -> c ≠ z /\ c ≠ TO /\ c ≠ i1 /\ c ≠ i2 := fun {c u} e => ⟨Yf e fz.1, Yf e fTO.1, Yf e f1.1, Yf e f2.1⟩
  have hns : ∀ m, s.heap.Ns X.env.locals m -> h'.Ns X.env.locals m := fun m ⟨o, es, ep, e, r⟩ => ⟨o, es, ep, hk _ o fz.2.1.symm fTO.2.1.symm f1.2.1.symm f2.2.1.symm e, r⟩
  have hok : HOk X.prog X.w (upd H s.heap.objs.size (.tup [x, y])) h' := fun c u e => by
   by_cases hb : c = s.heap.objs.size
   ·subst hb
    rw [Yl] at e
    cases e
    exact ⟨by show 2 <= sizeLine; decide, [ux, uy], .cons rux (.cons ruy .nil), ⟨_, a5, rfl, _, rfl⟩⟩
   ·rw [Yh hb] at e
    refine (I.hok c u e).stay (fun c' v hc' q => ?_) (fun c' q => by rw [Yh (Yf q nT)]; exact q) fun c' xs q => by rw [Yh (Yf q nT)]; exact q
    show 254
    ·show 239
    ·obtain ⟨t1, t2, t3, t4⟩ := tr z1; exact hk _ v t1 t2 t3 t4 q
  have I1 : Inv X pins σ (upd H s.heap.objs.size (.tup [x, y])) { s with heap := h' } :=
   I.step (h' := h') (g' := s.gens) (t' := s.toks) (d' := s.drawn) (ch := [z, TO, i1, i2]) (fun c hc => ⟨(fp4 c hc).2.2.2.1, (fp4 c hc).2.1, (fp4 c hc).2.2.2.2.1, (fp4 c hc).2.2.2.2.2⟩)
    (fun c o _ _ hc e _ => let ⟨t1, t2, t3, t4⟩ := notIn hc; hk c o t1 t2 t3 t4 e) (fun c o _ _ hc e _ => let ⟨t1, t2, t3, t4⟩ := notIn hc; ⟨o.slots, hk c o t1 t2 t3 t4 e⟩)
    (fun c o hc e n => by rw [Yh (ZAL (ZAD e))]; exact n) (fun c o hc e => let ⟨t1, t2, t3, t4⟩ := notIn hc; ⟨o, hk c o t1 t2 t3 t4 e⟩)
    (fun c xs q => by rw [Yh (Yf q nT)]; exact q) (fun c o u q => by rw [Yh (Yf q nT)]; exact q) (fun c ps q => ⟨#[], by rw [Yh (Yf q nT), q]; simp⟩) hns hok I.bare
  refine ⟨.ref s.heap.objs.size, rfl, ZCH (s := { s with heap := h' }) a1 fun h'' hz'' sb => ?_⟩
  have zl : z < s.heap.objs.size := ZAD h1
  have nz1 : (upd H s.heap.objs.size (.tup [x, y])) z = none := by rw [Yh (ZAL zl)]; exact fz.1
  have I2 : Inv X pins σ (upd H s.heap.objs.size (.tup [x, y])) { s with heap := h'', toks := s.toks } := Inv.turned (s := { s with heap := h' }) (it := z) I1 (fun c o hc e => (sb.2 c hc).trans e) nz1 fz.2.1 fz.2.2.2.1 fz.2.2.2.2.1 fz.2.2.2.2.2
  refine ⟨.ref s.heap.objs.size, _, I2, rfl, ⟨s.heap.objs.size, rfl, nT, fun xs' ys' hx' hy' => ⟨x, y, by rw [I.list_inj hx' hx]; exact ex, by rw [I.list_inj hy' hy]; exact ey, rfl⟩⟩, ⟨hz'', (sb.2 _ D.TIz).trans (hk _ _ D.TIz D.TITO D.TIi1 D.TIi2 h2), ⟨_, _, (sb.2 _ D.TOz).trans a2⟩, a3.at fun o e => (sb.2 _ D.i1z).trans e, a4.at fun o e => (sb.2 _ D.i2z).trans e⟩, fun c hc => ?_⟩
  have hlt : c < s.heap.objs.size := by
   show 60
   ·exact ZAD h1
   ·exact ZAD h2
   ·exact ZAD h3
   ·obtain ⟨_, e, _⟩ := h4; exact ZAD e
   ·obtain ⟨_, e, _⟩ := h5; exact ZAD e
  rw [Yh (ZAL hlt)]
  exact (hf c hc).1
 done := by
  show 88
  obtain ⟨xs, ys, hx, hy, he⟩ := hg
  show 267
  show 76
  obtain ⟨its, rx, px, zx⟩ := I.list hx
  obtain ⟨jts, ry, py, zy⟩ := I.list hy
  have DZ : ZipApart z TI TO i1 i2 a b := ⟨D.TIz, D.TOz, D.i1z, D.i2z, D.TITO, D.TIi1, D.TIi2, D.TOi1, D.TOi2, D.i12, YI I hx fz, YI I hx fTO, YI I hx f1, YI I hx f2, YI I hy fz, YI I hy fTO, YI I hy f1, YI I hy f2⟩
  have hend : its.toArray[i]? = none \/ jts.toArray[i]? = none := by
   have l1 := rx.length
   have l2 := ry.length
   rcases he with he | he
   ·exact .inl (by simp; omega)
   ·exact .inr (by simp; omega)
  refine wpAny_pyNext_zip_end (I.ok.hd hc) DZ h1 h2 h3 h4 h5 px.isList py.isList hend fun h' hk => ⟨rfl, ?_⟩
  have fp4 : ∀ c ∈ [z, TO, i1, i2], YlA X pins H c := fun c hc => by
   show 61
  have notIn : ∀ {c}, c ∉ [z, TO, i1, i2] -> c ≠ z /\ c ≠ TO /\ c ≠ i1 /\ c ≠ i2 := fun {c} hc => by
   show 247
  have tr : ∀ {c u}, H c = some u -> c ≠ z /\ c ≠ TO /\ c ≠ i1 /\ c ≠ i2 := fun {c u} e => ⟨Yf e fz.1, Yf e fTO.1, Yf e f1.1, Yf e f2.1⟩
  exact I.step (h' := h') (g' := s.gens) (t' := s.toks) (d' := s.drawn) (ch := [z, TO, i1, i2]) (fun c hc => ⟨(fp4 c hc).2.2.2.1, (fp4 c hc).2.1, (fp4 c hc).2.2.2.2.1, (fp4 c hc).2.2.2.2.2⟩)
   (fun c o _ _ hc e _ => let ⟨t1, t2, t3, t4⟩ := notIn hc; hk c o t1 t2 t3 t4 e) (fun c o _ _ hc e _ => let ⟨t1, t2, t3, t4⟩ := notIn hc; ⟨o.slots, hk c o t1 t2 t3 t4 e⟩)
   (fun c o hc e n => n) (fun c o hc e => let ⟨t1, t2, t3, t4⟩ := notIn hc; ⟨o, hk c o t1 t2 t3 t4 e⟩)
   (fun c xs q => q) (fun c o u q => q) (fun c ps q => ⟨#[], by rw [q]; simp⟩) (fun m ⟨o, es, ep, e, r⟩ => ⟨o, es, ep, hk _ o fz.2.1.symm fTO.2.1.symm f1.2.1.symm f2.2.1.symm e, r⟩)
   (fun c u e => by
    refine (I.hok c u e).stay (fun c' v hc' q => ?_) (fun c' q => q) fun c' xs q => q
    show 254
    ·show 239
    ·obtain ⟨t1, t2, t3, t4⟩ := tr z1; exact hk _ v t1 t2 t3 t4 q) I.bare
 self := fun A i s Q E st h => ZBu st.1 h
section
variable {X : Cx} {elts : List Expr} {x1 : Nat} {tp p pos : Pos} {e f : Expr}
def listAt (st : YkJ) (k : Nat) : Option (List P) := match st[k]? with
 | some (.lst xs) => some xs
 | some (.ro xs) => some xs
 | _ => none
theorem Y7 {K : Frag} {as : List Addr} {st : YkJ} {H : Hp} {k : Nat} {xs : List P} {a : Addr} (rp : Rep K as st H) (e : as[k]? = some a) (h : listAt st k = some xs) : ∃ vs, SqL K H a vs /\ Dens K as H vs xs := by
 unfold listAt at h
 cases q : st[k]? with
 | none => show 180
 | some o =>
  show 167
  have ob := rp.ob k a _ e q
  cases o with
  | lst ys => cases h; obtain ⟨vs, h1, h2⟩ := ob; exact ⟨vs, .of h1, h2⟩
  | ro ys => cases h; obtain ⟨vs, h1, h2⟩ := ob; exact ⟨vs, Z7 h1, h2⟩
  | dct ys => cases h
  | exc c ys => cases h
  | dtt kvs => cases h
  | fdc kvs => cases h
def YlI (xs ys : List P) (i : Nat) : Option P := match xs[i]?, ys[i]? with
 | some x, some y => some (.tup [x, y])
 | _, _ => none
def Yoj (k l n : Nat) : Src := ⟨n, fun i st => match listAt st k, listAt st l with
 | some xs, some ys => some (YlI xs ys i)
 | _, _ => none⟩
theorem Yfo {K : Frag} {as : List Addr} {H : Hp} {k l n : Nat} {a b : Addr} (ha : as[k]? = some a) (hb : as[l]? = some b) : YmF K as H (Yoj k l n) (Itz K a b) where
 go := fun i as2 st2 H2 p x rp e => by
  have e' : (match listAt st2 k, listAt st2 l with | some xs, some ys => some (YlI xs ys i) | _, _ => none) = some (some p) := e
  cases q1 : listAt st2 k with
  | none => show 255
  | some xs =>
   cases q2 : listAt st2 l with
   | none => show 265
   | some ys =>
    rw [q1, q2] at e'
    have ez := Option.some.inj e'
    unfold YlI at ez
    obtain ⟨vs, s1, d1⟩ := Y7 rp (x.pre _ _ ha) q1
    obtain ⟨ws, s2, d2⟩ := Y7 rp (x.pre _ _ hb) q2
    cases r1 : xs[i]? with
    | none => rw [r1] at ez; cases ez
    | some px =>
     cases r2 : ys[i]? with
     | none => show 263
     | some py =>
      rw [r1, r2] at ez
      cases ez
      obtain ⟨v, g1, g2⟩ := d1.get r1
      obtain ⟨w, g3, g4⟩ := d2.get r2
      refine ⟨⟨vs, v, ws, w, s1, g1, s2, g3⟩, fun u H3 ⟨t, e1, e2, e3⟩ => ?_⟩
      obtain ⟨v', w', f1, f2, rfl⟩ := e3 vs ws s1 s2
      rw [g1] at f1; cases f1
      rw [g3] at f2; cases f2
      subst e1
      exact ⟨Ext.laid e2, rp.laid e2, .tup (.of Yl) (.cons (g2.ext (Ext.laid e2)) (.cons (g4.ext (Ext.laid e2)) .nil))⟩
 stop := fun i as2 st2 H2 x rp e => by
  have e' : (match listAt st2 k, listAt st2 l with | some xs, some ys => some (YlI xs ys i) | _, _ => none) = some none := e
  cases q1 : listAt st2 k with
  | none => show 255
  | some xs =>
   cases q2 : listAt st2 l with
   | none => show 265
   | some ys =>
    rw [q1, q2] at e'
    have ez := Option.some.inj e'
    unfold YlI at ez
    obtain ⟨vs, s1, d1⟩ := Y7 rp (x.pre _ _ ha) q1
    obtain ⟨ws, s2, d2⟩ := Y7 rp (x.pre _ _ hb) q2
    refine ⟨vs, ws, s1, s2, ?_⟩
    rw [d1.length, d2.length]
    cases r1 : xs[i]? with
    | none => exact .inl (ZAk.mp r1)
    | some px =>
     cases r2 : ys[i]? with
     | none => exact .inr (ZAk.mp r2)
     | some py => show 263
end
section
variable {M : Model} {A : Around} {E : VSP} {s : Shared}
theorem Yef {src : Source} {n : Nat} {Q : Nat -> Shared -> Prop} (hn : n ≠ 0) (h : ∀ i, i < n -> Q i { s with drawn := s.drawn.bump src }) : wpAny M A (choose src n) Q E s :=
 fun _ _ _ => ⟨hn, h _ (Nat.mod_lt _ (Nat.pos_of_ne_zero hn))⟩
end
theorem Ydc (t : SetTable) (es : Array (Int × Value)) (h : Int) (x : Value) : (layNew t es h x).2.1.led = t.led := by
 unfold layNew
 split
 ·simp only [SetTable.orStandIn]
  split <;> rfl
 ·rfl
theorem YbI (t : SetTable) (es : Array (Int × Value)) (h : Int) (x : Value) (p : t.plain = false) : (layNew t es h x).2.1.plain = false := by
 unfold layNew
 split
 ·simp only [SetTable.orStandIn]
  split
  ·exact p
  ·rfl
 ·rfl
theorem Yat {mask finger moves : Nat} {led plain : Bool} {hs : Array Int} {t : SetTable} {o : Array Nat} (h : SetTable.laid mask finger moves led plain hs = some (t, o)) : t.led = led /\ t.plain = plain := by
 unfold SetTable.laid at h
 cases q : SetTable.layClean mask hs with
 | none => show 180
 | some ow =>
  show 167
  cases h
  exact ⟨rfl, rfl⟩
theorem YbE (t : SetTable) (es : Array (Int × Value)) (n : Nat) : (relayAll t es n).2.1.led = t.led := by
 unfold relayAll
 split
 ·rename_i t' o e
  show 154
  split
  ·exact (Yat e).1
  ·rfl
 ·rfl
theorem J5 (t : SetTable) (es : Array (Int × Value)) (n : Nat) (p : t.plain = false) : (relayAll t es n).2.1.plain = false := by
 unfold relayAll
 split
 ·rename_i t' o e
  show 154
  split
  ·exact (Yat e).2.trans p
  ·rfl
 ·rfl
abbrev byText (w : World) : Bool := w.params.followText "set-order"
def Yk0 (es : Array (Int × Value)) (ep : Nat) (t : SetTable) : Obj := { cls := .type "set", dict := none, data := .set es ep t, slots := #[] }
structure TT1 (prog : Program) (w : World) (es : Array (Int × Value)) (t : SetTable) (ks : List Str) : Prop where
 el : ElemsOf (strKind prog w) es.toList
 fit : t.fits es.size = true
 led : t.led = !(byText w)
 pl : es.size = 0 \/ t.plain = false
 pm : (es.toList.map fun e => strOf e.2).Perm ks
def TS (prog : Program) (w : World) (h : Heap) (a : Addr) (ks : List Str) : Prop := ∃ es ep t, h.get? a = some (Yk0 es ep t) /\ TT1 prog w es t ks
theorem TT1.sz {prog : Program} {w : World} {es : Array (Int × Value)} {t : SetTable} {ks : List Str} (h : TT1 prog w es t ks) : es.size = ks.length := by
 rw [<- h.pm.length_eq]; simp
theorem TT1.mem {prog : Program} {w : World} {es : Array (Int × Value)} {t : SetTable} {ks : List Str} (h : TT1 prog w es t ks) (k : Str) : k ∈ ks ↔ ∃ e ∈ es.toList, (strKind prog w).is k e.2 = true := by
 rw [<- h.pm.mem_iff, ZA8]
 constructor
 ·rintro ⟨e, he, rfl⟩
  obtain ⟨⟨k', hk, _⟩, _⟩ := h.el e he
  obtain ⟨t', e'⟩ := ZBo hk
  exact ⟨e, he, by rw [e']; exact strKind_is _ _ _ _⟩
 ·rintro ⟨e, he, hk⟩
  obtain ⟨t', e'⟩ := ZBo hk
  exact ⟨e, he, by rw [e']; rfl⟩
section
variable {prog : Program} {w : World} {A : Around} {E : VSP} {s : Shared}
theorem JQ {g : Bool -> Sem Unit} (hg : ∀ (b : Bool) (s1 : Shared) (Q1 : Unit -> Shared -> Prop), Q1 () s1 -> wpAny (model prog w) A (g b) Q1 E s1)
 {a : Addr} {es es1 : Array (Int × Value)} {ep : Nat} {t t2 : SetTable} (ho : s.heap.get? a = some (Yk0 es ep t)) (hb : es1.size < scanBound) {dm : Bool} {R : Option Bool -> Shared -> Prop}
 (hf : t2.fits es1.size = true) (hp : t2.plain = false)
 (fin : ∀ h' es' ep' t', Heap.SameBut a s.heap h' -> h'.get? a = some (Yk0 es' ep' t') -> es'.toList.Perm es1.toList -> t'.fits es'.size = true -> t'.led = t2.led -> t'.plain = false -> R (some true) { s with heap := h' }) :
 wpAny (model prog w) A (do
  storeSet a es1 t2
  if (!dm && t2.tooFull) = true then do
   g (relayAll t2 es1 (SetTable.grown es1.size)).2.2
   storeSet a (relayAll t2 es1 (SetTable.grown es1.size)).1 (relayAll t2 es1 (SetTable.grown es1.size)).2.1
   pure (some true)
  else pure (some true)) R E s := by
 refine ZAA (wpAny_storeSet_of ho rfl ?_ (fits_of_scanBound hb))
 have g1 : (s.heap.update a (Obj.putSet es1 t2)).get? a = some (Yk0 es1 (ep + 1) t2) := by
  have := ZAx (Obj.putSet es1 t2) ho (by rw [putSet_of es1 t2 rfl]; rfl)
  rw [putSet_of es1 t2 rfl] at this
  exact this
 have b1 := Heap.SameBut.update s.heap a (Obj.putSet es1 t2)
 split
 ·have e1 := relayAll_perm t2 es1 (SetTable.grown es1.size)
  have e2 := relayAll_fits t2 es1 (SetTable.grown es1.size)
  have e3 := YbE t2 es1 (SetTable.grown es1.size)
  have e4 := J5 t2 es1 (SetTable.grown es1.size) hp
  generalize relayAll t2 es1 (SetTable.grown es1.size) = r at e1 e2 e3 e4 ⊢
  obtain ⟨es2, t3, gw⟩ := r
  dsimp only at e1 e2 e3 e4 ⊢
  have hb2 : es2.size < scanBound := by
   have := e1.length_eq
   simp only [Array.length_toList] at this
   rw [this]; exact hb
  refine ZAA (hg _ _ _ ?_)
  refine ZAA (wpAny_storeSet_of g1 rfl ?_ (fits_of_scanBound hb2))
  have g2 : ((s.heap.update a (Obj.putSet es1 t2)).update a (Obj.putSet es2 t3)).get? a = some (Yk0 es2 (ep + 1 + 1) t3) := by
   have := ZAx (Obj.putSet es2 t3) g1 (by rw [putSet_of es2 t3 rfl]; rfl)
   rw [putSet_of es2 t3 rfl] at this
   exact this
  exact ZAC (fin _ _ _ _ (b1.trans (Heap.SameBut.update _ a _)) g2 e1 e2 e3 e4)
 ·exact ZAC (fin _ _ _ _ b1 g1 .rfl hf rfl hp)
def putK (ks : List Str) (k : Str) : List Str := if k ∈ ks then ks else ks ++ [k]
theorem YeM {a : Addr} {ks : List Str} {k : Str} {tk : Tok} {Q : Bool -> Shared -> Prop} (hS : TS prog w s.heap a ks) (hr : ks.length + 1 < scanBound)
 (h : ∀ h' b, Heap.SameBut a s.heap h' -> TS prog w h' a (putK ks k) -> Q b { s with heap := h' }) : wpAny (model prog w) A (setAddHashed a (.str k tk) ((strKind prog w).hash k)) Q E s := by
 obtain ⟨es, ep, t, ho, T⟩ := hS
 have hk : (strKind prog w).is k (.str k tk) = true := strKind_is _ _ _ _
 have hb : es.size < scanBound := by rw [T.sz]; omega
 have hb1 : es.size + 1 < scanBound := by rw [T.sz]; exact hr
 unfold setAddHashed setAddHashedIn
 refine ZA6 (ZAA (ZBR ho rfl T.fit ?_))
 show 154
 rw [byScan_of (knd := strKind prog w) (x := .str k tk) rfl hb T.el]
 simp only [↓reduceIte]
 unfold setAddByScan
 show 176
 refine ZAA (ZBx ?_)
 refine ZAA (wpAny_setScan_of hk ho rfl T.fit T.el ?_)
 cases q : List.findIdx? (fun e => (strKind prog w).is k e.2) es.toList with
 | some j =>
  show 154
  obtain ⟨hj, hpj, _⟩ := List.findIdx?_eq_some_iff_getElem.mp q
  have hin : k ∈ ks := (T.mem k).mpr ⟨es.toList[j], ZAr hj, hpj⟩
  refine ZAC (ZAC ?_)
  have := h s.heap false (Heap.SameBut.refl a s.heap) (by rw [putK, ZAI hin]; exact ⟨es, ep, t, ho, T⟩)
  cases s; exact this
 | none =>
  show 154
  have hin : k ∉ ks := fun z => by
   obtain ⟨e, he, hp⟩ := (T.mem k).mp z
   have := List.findIdx?_eq_none_iff.mp q e he
   rw [hp] at this; cases this
  have hgw : ∀ (b : Bool) {s1 : Shared} {Q1 : Unit -> Shared -> Prop}, Q1 () s1 -> wpAny (model prog w) A (match b with | true => rule "set.scan.the-table-gave-way" | false => pure ()) Q1 E s1 :=
   fun b s1 Q1 z => by
    cases b
    ·exact ZAC z
    ·exact ZBx z
  have e1 := layNew_perm t es ((strKind prog w).hash k) (.str k tk)
  have e2 := layNew_fits t es ((strKind prog w).hash k) (.str k tk)
  have e3 := Ydc t es ((strKind prog w).hash k) (.str k tk)
  have e4 := YbI t es ((strKind prog w).hash k) (.str k tk)
  generalize layNew t es ((strKind prog w).hash k) (.str k tk) = L at e1 e2 e3 e4 ⊢
  obtain ⟨es1, t1, dm, gv⟩ := L
  dsimp only at e1 e2 e3 e4 ⊢
  rw [Array.toList_push] at e1
  have hz : es1.size < scanBound := by
   have := e1.length_eq
   simp only [Array.length_toList, List.length_append, List.length_singleton] at this
   rw [this]; exact hb1
  have el1 : ElemsOf (strKind prog w) es1.toList := (T.el.push hk rfl).perm e1
  have fin : ∀ (t2 : SetTable), t2.led = t1.led -> ∀ (h' : Heap) (es' : Array (Int × Value)) (ep' : Nat) (t' : SetTable), Heap.SameBut a s.heap h' -> h'.get? a = some (Yk0 es' ep' t') -> es'.toList.Perm es1.toList -> t'.fits es'.size = true -> t'.led = t2.led -> t'.plain = false ->
   Q true { s with heap := h' } := fun t2 l2 h' es' ep' t' sb g' pm ft ld pl =>
   h h' true sb ⟨es', ep', t', g', el1.perm pm, ft, by rw [ld, l2, e3, T.led], .inr pl, by
    rw [putK, ZAJ hin]
    refine ((pm.trans e1).map _).trans ?_
    rw [ZAf]
    exact T.pm.append_right _⟩
  refine ZAA (hgw _ ?_)
  split
  ·show 176
   rw [hashByValue_scannable 8 rfl]
   refine ZAC ?_
   have hpk : plainKind (.str k tk) = false := rfl
   rw [hpk]
   simp only [Bool.false_eq_true, ↓reduceIte]
   refine JQ ?_ ho hz ?_ rfl ?_
   ·intro b s1 Q1 z
    cases b
    ·exact ZAC z
    ·exact ZBx z
   ·exact SetTable.fits_plain_off e2
   ·intro h' es' ep' t' c1 c2 c3 c4 c5 c6
    show 154
    exact ZAC (fin _ (by rfl) h' es' ep' t' c1 c2 c3 c4 c5 c6)
  ·rename_i np
   refine ZAA (ZAC ?_)
   simp only [↓reduceIte]
   refine JQ ?_ ho hz e2 (by simpa using np) ?_
   ·intro b s1 Q1 z
    cases b
    ·exact ZAC z
    ·exact ZBx z
   ·intro h' es' ep' t' c1 c2 c3 c4 c5 c6
    show 154
    exact ZAC (fin _ rfl h' es' ep' t' c1 c2 c3 c4 c5 c6)
end
def once (ks : List Str) : List Str := ks.foldl putK []
theorem YeU (ks : List Str) (k : Str) : once (ks ++ [k]) = putK (once ks) k := by simp [once, List.foldl_append]
theorem Yfm (ks : List Str) (k : Str) : (putK ks k).length <= ks.length + 1 := by
 unfold putK; split <;> simp
theorem WI : ∀ (ks acc : List Str), (ks.foldl putK acc).length <= acc.length + ks.length
 | [], acc => by simp
 | k :: r, acc => by
  rw [ZCQ]
  have h1 := WI r (putK acc k)
  have h2 := Yfm acc k
  simp only [List.length_cons]; omega
theorem Ycx (ks : List Str) : (once ks).length <= ks.length := by simpa [once] using WI ks []
theorem YfJ {ks : List Str} {k x : Str} : x ∈ putK ks k ↔ x ∈ ks \/ x = k := by
 unfold putK
 split
 ·rename_i h
  exact ⟨.inl, fun z => z.elim id fun e => e ▸ h⟩
 ·simp
theorem WA {x : Str} : ∀ (ks acc : List Str), x ∈ ks.foldl putK acc ↔ x ∈ acc \/ x ∈ ks
 | [], acc => by simp
 | k :: r, acc => by
  rw [ZCQ, WA r, YfJ, ZAV]
  exact or_assoc
theorem mem_once {ks : List Str} {x : Str} : x ∈ once ks ↔ x ∈ ks := by simpa [once] using WA (x := x) ks []
theorem Yc9 {ks : List Str} {k : Str} (h : ks.Nodup) : (putK ks k).Nodup := by
 unfold putK
 split
 ·exact h
 ·rename_i hk
  rw [ZCD]
  exact ⟨h, by simp, fun a ha b hb e => hk (by rw [List.mem_singleton] at hb; subst hb; exact e ▸ ha)⟩
theorem Z0 : ∀ (ks acc : List Str), acc.Nodup -> (ks.foldl putK acc).Nodup
 | [], _, h => h
 | k :: r, acc, h => by rw [ZCQ]; exact Z0 r _ (Yc9 h)
theorem YcN (ks : List Str) : (once ks).Nodup := Z0 ks [] List.nodup_nil
theorem TS.keep {prog : Program} {w : World} {h h' : Heap} {a : Addr} {ks : List Str} (x : TS prog w h a ks) (k : ∀ o, h.get? a = some o -> h'.get? a = some o) : TS prog w h' a ks :=
 let ⟨es, ep, t, ho, T⟩ := x; ⟨es, ep, t, k _ ho, T⟩
theorem TS.typeIs {prog : Program} {w : World} {s : Shared} {a : Addr} {ks : List Str} (x : TS prog w s.heap a ks) : s.TypeIs (.ref a) "set" :=
 let ⟨_, _, _, ho, _⟩ := x; ⟨_, ho, rfl⟩
theorem TS.empty {prog : Program} {w : World} {h : Heap} {a : Addr} (e : h.get? a = some (Yk0 #[] 0 (.fresh 0 0 (!(byText w))))) : TS prog w h a [] :=
 ⟨_, _, _, e, fun e he => by simp at he, rfl, rfl, .inl rfl, .refl _⟩
section
variable {prog : Program} {w : World} {A : Around} {R : Result -> Shared -> Prop} {I : Addr} {fp wr : List Addr} {G : Array GenState -> Array GenState -> Prop} {P : Nat -> Value -> Prop} {St : Nat -> Shared -> Prop}
theorem Vo {ys : List Str} (W : WalksS prog w A.in1 I fp wr G ys.length P St) (S : Addr) (hS : S ∉ fp) (hv : ∀ i v, P i v -> ∃ x t, ys[i]? = some x /\ v = .str x t) (hb : ys.length + 1 < scanBound) :
 ∀ (k i : Nat) (s : Shared), ys.length - i = k -> i <= ys.length -> St i s -> TS prog w s.heap S (once (ys.take i)) ->
  (∀ s', Moved (S :: wr) G s s' -> TS prog w s'.heap S (once ys) -> R (.ok (.ret .none)) s') -> codeAny (model prog w) A (.builtin "set.update.loop" ⟨[.ref S, .ref I], []⟩) R s := by
 have nw : S ∉ wr := fun h => hS (W.sub _ h)
 have sub : ∀ b ∈ wr, b ∈ S :: wr := fun b hb => ZAd _ hb
 intro k
 induction k with
 | zero =>
  intro i s hk hi hst T hR
  have e : i = ys.length := by omega
  subst e
  rw [ZA9] at T
  refine codeAny_builtin F.entry_set_update_loop ?_
  rw [Around.under_plainId F.plain_set_update_loop _]
  show wpAny _ A.in1 (pyNext (.ref I) >>= _) _ _ s
  refine ZAA (W.done s _ _ hst fun s' hm => ?_)
  show wpAny _ A.in1 (ret Value.none) _ _ s'
  exact ZAC (hR s' (hm.mono sub) (T.keep fun o e => hm.heap S o nw e))
 | succ k ih =>
  intro i s hk hi hst T hR
  have hlt : i < ys.length := by omega
  refine codeAny_builtin F.entry_set_update_loop ?_
  rw [Around.under_plainId F.plain_set_update_loop _]
  show wpAny _ A.in1 (pyNext (.ref I) >>= _) _ _ s
  refine ZAA (W.item i s _ _ hlt hst fun v s' hP hst' hm => ?_)
  obtain ⟨x, t, hx, rfl⟩ := hv i v hP
  have T' : TS prog w s'.heap S (once (ys.take i)) := T.keep fun o e => hm.heap S o nw e
  show wpAny _ A.in1 (holding [Value.str x t] (setAdd S (.str x t)) >>= _) _ _ s'
  refine ZAA (ZA6 ?_)
  unfold setAdd
  refine ZA6 ?_
  refine ZAA ((strKind prog w).pyHash (k := x) (strKind_is _ _ _ _) ?_)
  have room : (once (ys.take i)).length + 1 < scanBound := by
   have := Ycx (ys.take i)
   rw [ZAu] at this
   omega
  refine YeM (s := { s' with toks := s'.toks + 1 }) T' room fun h' b sb T2 => ?_
  have T3 : TS prog w h' S (once (ys.take (i + 1))) := by
   rw [ZBd, hx]
   simp only [Option.toList_some]
   rw [YeU]
   exact T2
  refine ZAC ⟨plainId_quiet F.plain_set_update_loop _, ih (i + 1) _ (by omega) hlt (W.frame _ s' _ _ hst' (ZB3 _) fun b hb o e => ?_) T3 fun s2 hm2 T4 => ?_⟩
  ·rw [sb.2 b fun z : b = S => hS (z ▸ hb)]; exact e
  ·refine hR s2 (Moved.trans W.gtrans ((hm.mono sub).then_heap (ZB3 _) fun b o hb e => ?_) hm2) T4
   rw [sb.2 b fun z : b = S => hb (z ▸ ZAU)]; exact e
end
section
variable {prog : Program} {w : World} {A : Around} {E : VSP} {s : Shared}
theorem Jk (a : Value) {Q : VSP}
 (h : Q (.ref s.heap.objs.size) { s with heap := s.heap.push (Yk0 #[] 0 (.fresh 0 0 (!(byText w)))) }) :
 codeAny (model prog w) A (.call (.builtin "set.__new__") ⟨[.type "set", a], []⟩) (wants Q E) s := by
 refine codeAny_of_tree ?_
 show wpAny _ A.in1 (do checkBuiltinCall "set.__new__" ⟨[.type "set", a], []⟩; again (.builtin "set.__new__" ⟨[.type "set", a], []⟩)) _ _ s
 refine ZAA (wpAny_of_eq (F.newCall_set_1 a) (ZAC ⟨plainId_quiet F.plain_set_new _, codeAny_builtin F.entry_set_new ?_⟩))
 rw [Around.under_plainId F.plain_set_new _]
 unfold Builtin.«set.__new__» Builtin.Frozenset.newClass
 have q1 := sub_set_self
 obtain ⟨hp, g, d, tk, os⟩ := s
 show 154
 wp_walk
 refine ZBT (ZAC ?_)
 show 154
 simp only [newObj]
 refine ZAA (wpAny_alloc (ZAC ?_))
 exact ZAC h
set_option maxHeartbeats 3200000 in
theorem YeH {l : Addr} {items : Array Value} {ys : List Str} {Q : VSP}
 (hh : A.handled = none) (hl : s.heap.IsList l items) (hi : StrsAre items.toList ys) (hb : ys.length + 1 < scanBound)
 (h : ∀ (h' : Heap) (tk : Nat), TS prog w h' s.heap.objs.size (once ys) -> s.heap.objs.size < h'.objs.size -> (∀ b o, s.heap.get? b = some o -> h'.get? b = some o) -> Q (.ref s.heap.objs.size) { s with heap := h', toks := tk }) :
 wpAny (model prog w) A (call (.type "set") [.ref l]) Q E s := by
 have hn : items.size = ys.length := by have := StrsAre.length hi; simpa using this
 obtain ⟨c, tl, hmro⟩ := F.called_set.mro
 have q1 := F.called_set.made
 have q2 := F.called_set.sub
 refine ZCb (codeAny_of_tree ?_)
 show wpAny _ _ (callAny (.type "set") _) _ _ _
 refine ZAC ⟨Code.quiet_builtin _ (by decide +kernel), codeAny_builtin F.entry_type_call ?_⟩
 rw [Around.under_plain (weight_type_call_type "set" [.ref l] []) rfl]
 have q3 := F.called_set.notType
 have q4 := F.called_set.canCreate
 have q5 := F.typeCall_set_1 (.ref l)
 show 210
 refine codeAny_mono (Jk (.ref l) (E := E) (Q := fun obj s1 => obj = .ref s.heap.objs.size /\ s1 = { s with heap := s.heap.push (Yk0 #[] 0 (.fresh 0 0 (!(byText w)))) }) ⟨rfl, rfl⟩) fun r s1 hr => ?_
 cases r with
 | error e => exact hr
 | ok fl =>
  cases fl with
  | ret obj =>
   obtain ⟨rfl, rfl⟩ := hr
   have gS : (s.heap.push (Yk0 #[] 0 (.fresh 0 0 (!(byText w))))).get? s.heap.objs.size = some (Yk0 #[] 0 (.fresh 0 0 (!(byText w)))) := ZAF _ rfl
   have hT : Shared.TypeIs { s with heap := s.heap.push (Yk0 #[] 0 (.fresh 0 0 (!(byText w)))) } (.ref s.heap.objs.size) "set" := ⟨_, gS, rfl⟩
   have q6 := F.called_set.init.lookup
   have q7 := F.called_set.init.bind (.ref s.heap.objs.size)
   show 210
   refine codeAny_mono (codeAny_call_builtin (R := wants (fun r s2 => r = .none /\ ∃ h' tk, s2 = { s with heap := h', toks := tk } /\ TS prog w h' s.heap.objs.size (once ys) /\ (∀ b o, s.heap.get? b = some o -> h'.get? b = some o)) E)
    F.called_set.init.plain F.entry_set_init (check_set_init_1 hT ?_)) fun r2 s2 hr2 => ?_
   ·obtain ⟨ol, hol, hcl, nl, hdl⟩ := hl
    obtain ⟨ocls, odict, odata, oslots⟩ := ol
    simp only at hcl hdl
    subst hcl; subst hdl
    have hol1 : (s.heap.push (Yk0 #[] 0 (.fresh 0 0 (!(byText w))))).get? l = some { cls := .type "list", dict := odict, data := .seq items nl, slots := oslots } := ZAB _ hol
    have q8 := F.sub_list_set
    have q9 := F.sub_list_frozenset
    have q10 : (Value.type "list" == Value.type "dict") = false := by decide
    have hl1 : (s.heap.push (Yk0 #[] 0 (.fresh 0 0 (!(byText w))))).IsList l items := ⟨_, hol1, rfl, nl, rfl⟩
    unfold Builtin.«set.__init__» noKeywords Builtin.Frozenset.updateFrom
    generalize hPI : pyIter = PI
    wp_walk
    subst hPI
    refine ZBc hl1 ?_
    refine ZAA (ZB0 ?_)
    have lt : l < s.heap.objs.size := ZAD hol
    have hh3 : A.in1.in1.in1.handled = none := by simp [hh]
    have hneI : l ≠ (s.heap.push (Yk0 #[] 0 (.fresh 0 0 (!(byText w))))).objs.size := by
     rw [ZAa]; exact ZAL (ZBD lt)
    have hSf : s.heap.objs.size ∉ [(s.heap.push (Yk0 #[] 0 (.fresh 0 0 (!(byText w))))).objs.size, l] := by
     rw [Heap.size_push]; simp only [List.mem_cons, List.mem_singleton, List.not_mem_nil, or_false, not_or]
     exact ⟨ZAL (ZAz _), ZBE lt⟩
    have hv : ∀ (i : Nat) (v : Value), items[i]? = some v -> ∃ x t, ys[i]? = some x /\ v = .str x t := fun i v hv => by
     have e1 : v ∈ items.toList := by
      rw [<- ZBP] at hv
      exact ZBB hv
     obtain ⟨x, t, rfl⟩ := hi.all v e1
     refine ⟨x, t, ?_, rfl⟩
     have := hi.strs
     rw [<- this, ZAj, ZBP, hv]
     rfl
    have W := (Walks.list (prog := prog) (w := w) hh3 _ l hneI items).toS
    rw [hn] at W
    refine Vo W s.heap.objs.size hSf hv hb (ys.length - 0) 0 _ (by omega) (ZBZ _)
     ⟨⟨_, ZAF _ rfl, rfl, rfl⟩, (hl1.push _)⟩ ?hS0 ?hR
    case hS0 =>
     exact TS.empty (ZAB _ gS)
    case hR =>
     intro s3 hm T3
     obtain ⟨h3, g3, d3, tk3, os3⟩ := s3
     have eg : g3 = s.gens := hm.gens
     have ed : d3 = s.drawn := hm.drawn
     have eo : os3 = s.os := hm.os
     subst eg; subst ed; subst eo
     show wpAny _ _ _ _ _ _
     refine ZAC ?_
     show wpAny _ _ (ret Value.none) _ _ _
     refine ZAC ⟨rfl, h3, tk3, rfl, T3, fun b o e => ?_⟩
     have hb := ZAD e
     have hb1 : b ≠ s.heap.objs.size := ZAL hb
     have hb2 : b ≠ (s.heap.push (Yk0 #[] 0 (.fresh 0 0 (!(byText w))))).objs.size := by
      rw [ZAa]; exact ZAL (ZBD hb)
     exact hm.heap b o (by simp only [List.mem_cons, List.mem_singleton, List.not_mem_nil, or_false, not_or]; exact ⟨hb1, hb2⟩) (Heap.get?_push_of_some _ (Heap.get?_push_of_some _ e))
   ·cases r2 with
    | error e => exact hr2
    | ok fl2 =>
     cases fl2 with
     | ret r =>
      obtain ⟨rfl, h', tk, rfl, hS', hk'⟩ := hr2
      show 210
      obtain ⟨es, ep, t, ho, T⟩ := hS'
      exact h _ _ ⟨es, ep, t, ho, T⟩ (ZAD ho) hk'
     | _ => exact hr2.elim
  | _ => exact hr.elim
end
theorem slot_seti_next : Slot "set_iterator" "__next__" "set_iterator.__next__" :=
 .of (owner := "set_iterator") (n := "__next__") (by rw [typeLookup_type, builtinLookup_eq_fast]; kernel_rfl) (by decide +kernel) (by decide +kernel) (by decide +kernel)
  (by first | exact .inl (by decide +kernel) | exact .inr (by decide +kernel)) (by rw [isSubtype_type]; kernel_rfl)
theorem WD : Slot "set_iterator" "__iter__" "set_iterator.__iter__" :=
 .of (owner := "set_iterator") (n := "__iter__") (by rw [typeLookup_type, builtinLookup_eq_fast]; kernel_rfl) (by decide +kernel) (by decide +kernel) (by decide +kernel)
  (by first | exact .inl (by decide +kernel) | exact .inr (by decide +kernel)) (by rw [isSubtype_type]; kernel_rfl)
theorem Y8 : entryFor table "set_iterator.__next__" = some Builtin.«set_iterator.__next__» := entryFor_of_fast (by kernel_rfl)
theorem Jw : entryFor table "set_iterator.__iter__" = some Builtin.«dict_keyiterator.__iter__» :=
 entryFor_alias (id' := "dict_keyiterator.__iter__") (by kernel_rfl) rfl (by decide +kernel) (by kernel_rfl)
theorem Ju : entryFor table "set.__iter__" = some Builtin.«frozenset.__iter__» :=
 entryFor_alias (id' := "frozenset.__iter__") (by kernel_rfl) rfl (by decide +kernel) (by kernel_rfl)
theorem Zh (a : Value) : argsOk "set_iterator.__next__" ⟨[a], []⟩ := by unfold argsOk; kernel_rfl
theorem JK (a : Value) : argsOk "set_iterator.__iter__" ⟨[a], []⟩ := by unfold argsOk; kernel_rfl
def YlB (f : Value) (i : Nat) (S : Addr) (n ep : Nat) : Obj := { cls := .type "set_iterator", dict := none, data := .fields #[f, .int i 0, .ref S, .int n 0, .int ep 0], slots := #[] }
section
variable {prog : Program} {w : World} {A : Around} {E : VSP} {s : Shared} {I S : Addr} {f : Value} {i ep : Nat} {es : Array (Int × Value)} {t : SetTable} {Q : Option Value -> Shared -> Prop}
theorem WV (hI : s.heap.get? I = some (YlB f i S es.size ep)) (hS : s.heap.get? S = some (Yk0 es ep t)) (hf : t.fits es.size = true)
 {P : Fin -> Shared -> Prop}
 (h : wpAny (model prog w) A (match f with
  | .int slot _ => (do
   match <- setNext S slot.toNat i ep with
   | some (x, next) =>
    setField (.ref I) 0 (rawInt next)
    setField (.ref I) 1 (rawInt ((i : Int) + 1))
    ret x
   | none => setField (.ref I) 2 .none; raiseNew (<- newExc (.type "StopIteration") []))
  | _ => (do
   let some places <- seqItems? f | unsupported "internal:set_iterator"
   match places[i]? with
   | some (.int place _) =>
    let x <- setNextDrawn S place.toNat ep
    setField (.ref I) 1 (rawInt ((i : Int) + 1))
    ret x
   | some _ => unsupported "internal:set_iterator"
   | none => setField (.ref I) 0 (rawInt 0); setField (.ref I) 2 .none; raiseNew (<- newExc (.type "StopIteration") []))) P E s) :
 wpAny (model prog w) A (Builtin.«set_iterator.__next__» ⟨[.ref I], []⟩) P E s := by
 unfold Builtin.«set_iterator.__next__» slotArgs
 simp only [List.isEmpty_nil, Bool.not_true, Bool.false_eq_true, ↓reduceIte, List.length_nil, bne_self_eq_false]
 refine ZAA (ZAC ?_)
 show 154
 unfold fieldsOf
 refine ZAA (ZAA (ZCG hI ?_))
 refine ZAC ?_
 show 154
 refine ZAA (wpAny_setEntries_of hS rfl hf ?_)
 simp only [bne_self_eq_false, Bool.false_eq_true, ↓reduceIte, Int.toNat_natCast]
 cases f <;> exact h
end
section
variable {prog : Program} {w : World} {A : Around} {E : VSP} {s : Shared} {I S : Addr} {f : Value} {i ep : Nat} {es : Array (Int × Value)} {t : SetTable} {Q : Option Value -> Shared -> Prop}
theorem Zi (hI : s.heap.get? I = some (YlB f i S es.size ep)) : s.TypeIs (.ref I) "set_iterator" := ⟨_, hI, rfl⟩
theorem VR {h0 : Heap} (hh : A.handled = none) (k : Heap.ExtBut I h0 s.heap) {P : Fin -> Shared -> Prop}
 (h : ∀ h' x, Heap.ExtBut I h0 h' -> (∃ o, h'.get? x = some o /\ o.cls = .type "StopIteration") -> E (.ref x) { s with heap := h' }) :
 wpAny (model prog w) A (do raiseNew (<- newExc (.type "StopIteration") [])) P E s := by
 show 176
 simp only [newExc, newTuple]
 refine ZAA (ZAb ?_ (by size_fits))
 refine wpAny_bind (m := firstArgMember _ _) (wpAny_of_eq (a := Value.none) (by first | rfl | (simp only [firstArgMember]; rfl)) ?_)
 refine ZAb ?_ (by size_fits)
 simp only [raiseNew]
 refine ZAA (wpAny_handled ?_)
 rw [hh]
 refine ZAA (ZAC (wpAny_throw ?_))
 exact h _ _ ((k.push _).push _) ⟨_, ZAF _ rfl, rfl⟩
theorem J3 {slot next : Nat} {x : Value} (hI : s.heap.get? I = some (YlB (.int slot 0) i S es.size ep)) (hS : s.heap.get? S = some (Yk0 es ep t)) (hf : t.fits es.size = true)
 (hn : ∀ (A' : Around) (E' : VSP) (Q' : Option (Value × Nat) -> Shared -> Prop), Q' (some (x, next)) s -> wpAny (model prog w) A' (setNext S slot i ep) Q' E' s)
 (h : ∀ h', h'.get? I = some (YlB (.int next 0) (i + 1) S es.size ep) -> Heap.SameBut I s.heap h' -> Q (some x) { s with heap := h' }) : wpAny (model prog w) A (pyNext (.ref I)) Q E s := by
 unfold pyNext
 refine ZAA (ZBm (wpAny_callSpecial?_slot (name := Str.ofString "__next__") (Zi hI) slot_seti_next
  (ZAl slot_seti_next (Zi hI) Y8 (WV hI hS hf ?_) (Zh _))))
 show 154
 show 176
 simp only [Int.toNat_natCast]
 refine hn _ _ _ ?_
 show 111
 refine wpAny_bind (wpAny_setField_rec g1 (by simp) fun h2 g2 b2 => ?_)
 exact wpAny_pure ⟨_, rfl, wpAny_pure (h h2 (by rw [g2]; simp [YlB, rawInt]) (b1.trans b2))⟩
theorem Jc {slot : Nat} (hh : A.handled = none) (hI : s.heap.get? I = some (YlB (.int slot 0) i S es.size ep)) (hS : s.heap.get? S = some (Yk0 es ep t)) (hf : t.fits es.size = true)
 (hn : ∀ (A' : Around) (E' : VSP) (Q' : Option (Value × Nat) -> Shared -> Prop), Q' none s -> wpAny (model prog w) A' (setNext S slot i ep) Q' E' s)
 (h : ∀ h', Heap.ExtBut I s.heap h' -> Q none { s with heap := h' }) : wpAny (model prog w) A (pyNext (.ref I)) Q E s := by
 unfold pyNext
 refine ZAA (ZBm (wpAny_callSpecial?_slot (name := Str.ofString "__next__") (Zi hI) slot_seti_next
  (ZAl slot_seti_next (Zi hI) Y8 (WV hI hS hf ?_) (Zh _))))
 show 154
 show 176
 simp only [Int.toNat_natCast]
 refine hn _ _ _ ?_
 show 111
 refine VR (h0 := s.heap) (s := { s with heap := h1 }) (A := A.in1) hh b1.extBut fun h2 x k ⟨o, ho, hc⟩ => ?_
 refine ZAA (ZBv (T := "StopIteration") (b := true) ⟨o, ho, hc⟩ isSubtype_stop ?_)
 exact ZAC (h _ k)
theorem Yc4 {T : Addr} {pl : Array Value} {n p : Nat} {tk : Tok} {hx : Int} {x : Value} (hI : s.heap.get? I = some (YlB (.ref T) i S es.size ep)) (hS : s.heap.get? S = some (Yk0 es ep t)) (hf : t.fits es.size = true)
 (hT : s.heap.get? T = some { cls := .type "tuple", data := .seq pl n }) (hp : pl[i]? = some (.int p tk)) (he : es[p]? = some (hx, x))
 (h : ∀ h', h'.get? I = some (YlB (.ref T) (i + 1) S es.size ep) -> Heap.SameBut I s.heap h' -> Q (some x) { s with heap := h' }) : wpAny (model prog w) A (pyNext (.ref I)) Q E s := by
 unfold pyNext
 refine ZAA (ZBm (wpAny_callSpecial?_slot (name := Str.ofString "__next__") (Zi hI) slot_seti_next
  (ZAl slot_seti_next (Zi hI) Y8 (WV hI hS hf ?_) (Zh _))))
 show 154
 refine ZAA (ZBC hT rfl ?_)
 show 154
 rw [hp]
 show 154
 unfold setNextDrawn
 refine ZAA (ZAA (ZBR hS rfl hf ?_))
 simp only [bne_self_eq_false, Bool.false_eq_true, ↓reduceIte, Int.toNat_natCast, he]
 refine ZAC ?_
 show 284
 exact wpAny_pure ⟨_, rfl, wpAny_pure (h h1 (by rw [g1]; simp [YlB, rawInt]) b1)⟩
theorem Yd0 {T : Addr} {pl : Array Value} {n : Nat} (hh : A.handled = none) (hI : s.heap.get? I = some (YlB (.ref T) i S es.size ep)) (hS : s.heap.get? S = some (Yk0 es ep t)) (hf : t.fits es.size = true)
 (hT : s.heap.get? T = some { cls := .type "tuple", data := .seq pl n }) (hp : pl[i]? = none)
 (h : ∀ h', Heap.ExtBut I s.heap h' -> Q none { s with heap := h' }) : wpAny (model prog w) A (pyNext (.ref I)) Q E s := by
 unfold pyNext
 refine ZAA (ZBm (wpAny_callSpecial?_slot (name := Str.ofString "__next__") (Zi hI) slot_seti_next
  (ZAl slot_seti_next (Zi hI) Y8 (WV hI hS hf ?_) (Zh _))))
 show 154
 refine ZAA (ZBC hT rfl ?_)
 show 154
 rw [hp]
 show 111
 refine wpAny_bind (wpAny_setField_rec g1 (by simp) fun h2 g2 b2 => ?_)
 refine VR (h0 := s.heap) (s := { s with heap := h2 }) (A := A.in1) hh (b1.trans b2).extBut fun h3 x k ⟨o, ho, hc⟩ => ?_
 refine ZAA (ZBv (T := "StopIteration") (b := true) ⟨o, ho, hc⟩ isSubtype_stop ?_)
 exact ZAC (h _ k)
theorem V5 (hI : s.heap.get? I = some (YlB f i S es.size ep)) {Q : VSP} (h : Q (.ref I) s) : wpAny (model prog w) A (pyIter (.ref I)) Q E s := by
 refine wpAny_pyIter_slot (Zi hI) WD (ZAl WD (Zi hI) Jw ?_ (JK _))
 show wpAny _ _ (ret (.ref I)) _ _ s
 exact ZAC ⟨_, rfl, "set_iterator", _, Zi hI, slot_seti_next.lookup, h⟩
end
theorem JV {α : Type} {xs : Array α} (h : xs.size = 1) : ∃ x, xs = #[x] := by
 obtain ⟨l⟩ := xs
 match l, h with
 | [x], _ => exact ⟨x, rfl⟩
theorem Vk {α : Type} : ∀ {l : List α} {i : Nat} (h : i < l.length), (l[i] :: l.eraseIdx i).Perm l
 | [], _, h => by simp at h
 | x :: l, 0, _ => .refl _
 | x :: l, i + 1, h => by
  have h' : i < l.length := by simpa using h
  simp only [List.getElem_cons_succ, List.eraseIdx_cons_succ]
  exact (List.Perm.swap _ _ _).trans ((Vk h').cons _)
theorem Jf {α : Type} (next : Nat -> Nat) : ∀ (n k : Nat) (left : List α) (out : Array α), left.length = n -> (pickOrder.go next n k left out).toList.Perm (out.toList ++ left)
 | 0, k, left, out, h => by
  have : left = [] := ZCN.mp h
  subst this
  simp [pickOrder.go]
 | n + 1, k, left, out, h => by
  have hlt : next k % left.length < left.length := Nat.mod_lt _ (by omega)
  unfold pickOrder.go
  rw [ZAR hlt]
  show 154
  refine (Jf next n (k + 1) _ _ (by rw [ZB6 hlt]; omega)).trans ?_
  rw [Array.toList_push, List.append_assoc]
  refine List.Perm.append_left _ ?_
  exact Vk hlt
theorem V9 {α : Type} (next : Nat -> Nat) (xs : Array α) : (pickOrder next xs).toList.Perm xs.toList := by
 have := Jf next xs.size 0 xs.toList #[] (by simp)
 simpa [pickOrder] using this
section
variable {prog : Program} {w : World} {A : Around} {E : VSP} {s : Shared} {I S : Addr} {i ep slot : Nat} {es : Array (Int × Value)} {t : SetTable}
theorem VF (hb : byText w = true) (hS : s.heap.get? S = some (Yk0 es ep t)) (hf : t.fits es.size = true) {Q : Option (Value × Nat) -> Shared -> Prop}
 (h : Q (((pickOrder (w.params.setOrder S ep) es)[i]?).map fun e => (e.2, slot)) s) : wpAny (model prog w) A (setNext S slot i ep) Q E s := by
 unfold setNext
 refine ZAA (ZBR hS rfl hf ?_)
 show 154
 unfold setsByText
 refine ZAA (ZAA (ZBT (ZAC ?_)))
 rw [ZAI (show (model prog w).w.params.followText "set-order" = true from hb)]
 simp only [bne_self_eq_false, Bool.false_eq_true, ↓reduceIte]
 unfold setWalk
 refine ZAA (ZAA (ZBR hS rfl hf ?_))
 show 154
 unfold setsByText
 refine ZAA (ZAA (ZBT (ZAC ?_)))
 rw [ZAI (show (model prog w).w.params.followText "set-order" = true from hb)]
 refine ZAA (ZBT (ZAC ?_))
 exact ZAC h
theorem WU (hb : byText w = false) (hS : s.heap.get? S = some (Yk0 es ep t)) (hf : t.fits es.size = true) (hl : t.led = true) (hz : es.size <= 1) {Q : Option (Value × Nat) -> Shared -> Prop}
 (h : Q (match es[SetTable.below t.place slot]?, t.place[SetTable.below t.place slot]? with
  | some (_, x), some j => some (x, j + 1)
  | _, _ => none) s) : wpAny (model prog w) A (setNext S slot i ep) Q E s := by
 unfold setNext
 refine ZAA (ZBR hS rfl hf ?_)
 show 154
 unfold setsByText
 refine ZAA (ZAA (ZBT (ZAC ?_)))
 rw [if_neg (show ¬ (model prog w).w.params.followText "set-order" = true from by show ¬ byText w = true; rw [hb]; simp)]
 split
 ·rename_i z
  have z' : (!t.plain && decide (es.size > 1)) = true := z
  rw [ZAq] at z'
  have := ZAs z'.2
  omega
 ·refine ZAA (m := if (!t.led && !es.isEmpty) = true then unsupported "set:maker-not-led" else pure ()) ?_
  rw [hl]
  simp only [Bool.not_true, Bool.false_and, Bool.false_eq_true, ↓reduceIte]
  exact ZAC (ZAC h)
theorem YcS (hh : A.handled = none) (hb : byText w = true) (hne : S ≠ I) (hf : t.fits es.size = true) :
 Walks prog w A I [I, S] [I] es.size (fun i v => ((pickOrder (w.params.setOrder S ep) es).map (·.2))[i]? = some v) (fun i h => h.get? I = some (YlB (.int 0 0) i S es.size ep) /\ h.get? S = some (Yk0 es ep t)) where
 sub := fun b hb => by simp at hb; simp [hb]
 frame := fun _ _ _ st hk => ⟨hk I (by simp) _ st.1, hk S (by simp) _ st.2⟩
 item := fun i s Q E hi st hQ => by
  have hsz : (pickOrder (w.params.setOrder S ep) es).size = es.size := by
   have := (V9 (w.params.setOrder S ep) es).length_eq
   show 192
  have hi' : i < (pickOrder (w.params.setOrder S ep) es).size := by omega
  refine J3 (slot := 0) (next := 0) (x := ((pickOrder (w.params.setOrder S ep) es)[i]).2) st.1 st.2 hf (fun A' E' Q' hq => VF hb st.2 hf ?_) fun h' g' b' => ?_
  ·rw [ZCI hi']; exact hq
  ·exact hQ _ h' s.toks (by simp [hi']) ⟨g', b'.extBut S _ hne st.2⟩ fun b o hb e => b'.extBut b o (fun z => hb (by simp [z])) e
 done := fun s Q E st hQ => by
  have hsz : (pickOrder (w.params.setOrder S ep) es).size = es.size := by
   have := (V9 (w.params.setOrder S ep) es).length_eq
   show 192
  refine Jc (slot := 0) hh st.1 st.2 hf (fun A' E' Q' hq => VF hb st.2 hf ?_) fun h' b' => ?_
  ·rw [ZBa (by omega)]; exact hq
  ·show 234
 self := fun _ _ _ _ st hQ => V5 st.1 hQ
theorem Yei (hh : A.handled = none) (hb : byText w = false) (hne : S ≠ I) (hf : t.fits es.size = true) (hl : t.led = true) (hz : es.size <= 1) :
 Walks prog w A I [I, S] [I] es.size (fun i v => (es.map (·.2))[i]? = some v) (fun i h => h.get? I = some (YlB (.int (if i = 0 then 0 else t.place.getD 0 0 + 1 : Nat) 0) i S es.size ep) /\ h.get? S = some (Yk0 es ep t)) where
 sub := fun b hb => by simp at hb; simp [hb]
 frame := fun _ _ _ st hk => ⟨hk I (by simp) _ st.1, hk S (by simp) _ st.2⟩
 item := fun i s Q E hi st hQ => by
  have e0 : i = 0 := by omega
  have e1 : es.size = 1 := by omega
  subst e0
  have hp : t.place.size = 1 := by
   have : (t.place.size == es.size && decide (t.fill <= t.mask)) = true := hf
   rw [ZAq, beq_iff_eq] at this
   omega
  obtain ⟨j, ej⟩ : ∃ j, t.place = #[j] := JV hp
  obtain ⟨y, ey⟩ : ∃ y, es = #[y] := JV e1
  refine J3 (slot := 0) (next := j + 1) (x := y.2) st.1 st.2 hf (fun A' E' Q' hq => WU hb st.2 hf hl hz ?_) fun h' g' b' => ?_
  ·have hbl : SetTable.below t.place 0 = 0 := by rw [ej]; simp [SetTable.below, SetTable.below.go]
   rw [hbl, ej, ey]
   exact hq
  ·refine hQ _ h' s.toks (by rw [ey]; simp) ⟨?_, b'.extBut S _ hne st.2⟩ fun b o hb e => b'.extBut b o (fun z => hb (by simp [z])) e
   rw [g', ej]; rfl
 done := fun s Q E st hQ => by
  rcases Nat.lt_or_ge 0 es.size with h0 | h0
  ·have e1 : es.size = 1 := by omega
   have hp : t.place.size = 1 := by
    have : (t.place.size == es.size && decide (t.fill <= t.mask)) = true := hf
    rw [ZAq, beq_iff_eq] at this
    omega
   obtain ⟨j, ej⟩ : ∃ j, t.place = #[j] := JV hp
   refine Jc (slot := j + 1) hh (by have := st.1; rw [e1] at this ⊢; rw [ej] at this; exact this) st.2 hf (fun A' E' Q' hq => WU hb st.2 hf hl hz ?_) fun h' b' => ?_
   ·have hbl : SetTable.below t.place (j + 1) = 1 := by rw [ej]; simp [SetTable.below, SetTable.below.go]
    rw [hbl, ZBa (by omega : es.size <= 1)]
    exact hq
   ·show 234
  ·have e0 : es.size = 0 := by omega
   refine Jc (slot := 0) hh (by have := st.1; rw [e0] at this ⊢; exact this) st.2 hf (fun A' E' Q' hq => WU hb st.2 hf hl hz ?_) fun h' b' => ?_
   ·rw [ZBa (by omega : es.size <= _)]
    exact hq
   ·show 234
 self := fun _ _ _ _ st hQ => V5 st.1 hQ
theorem Ycs {T : Addr} {od : List Nat} {n : Nat} (hh : A.handled = none) (hne : S ≠ I) (hnT : T ≠ I) (hf : t.fits es.size = true) (hod : od.Perm (List.range es.size)) :
 Walks prog w A I [I, S, T] [I] es.size (fun i v => (od.filterMap fun j => (es[j]?).map (·.2))[i]? = some v)
  (fun i h => h.get? I = some (YlB (.ref T) i S es.size ep) /\ h.get? S = some (Yk0 es ep t) /\ h.get? T = some { cls := .type "tuple", data := .seq (od.map fun (j : Nat) => rawInt j).toArray n }) where
 sub := fun b hb => by simp at hb; simp [hb]
 frame := fun _ _ _ st hk => ⟨hk I (by simp) _ st.1, hk S (by simp) _ st.2.1, hk T (by simp) _ st.2.2⟩
 item := fun i s Q E hi st hQ => by
  have hl : od.length = es.size := by simpa using hod.length_eq
  have hi' : i < od.length := by omega
  have hj : od[i] < es.size := by
   have := hod.mem_iff.mp (ZAr hi')
   show 192
  have key : ∀ (od' : List Nat), (∀ j ∈ od', j < es.size) -> od'.filterMap (fun j => (es[j]?).map (·.2)) = od'.map fun j => (es.getD j (0, .none)).2 := by
   intro od'
   induction od' with
   | nil => intro _; rfl
   | cons j r ih =>
    intro hm
    have h1 := hm j (ZAU ..)
    rw [List.filterMap_cons, ZCI h1]
    simp only [Option.map_some, List.map_cons]
    rw [ih fun k hk => hm k (ZAd _ hk)]
    simp [h1]
  refine Yc4 (p := od[i]) (tk := 0) (hx := es[od[i]].1) (x := es[od[i]].2) st.1 st.2.1 hf st.2.2 (by simp [hi', rawInt]) (by rw [Array.getElem?_eq_getElem hj]) fun h' g' b' => ?_
  refine hQ _ h' s.toks ?_ ⟨g', b'.extBut S _ hne st.2.1, b'.extBut T _ hnT st.2.2⟩ fun b o hb e => b'.extBut b o (fun z => hb (by simp [z])) e
  rw [key od fun j hj => by simpa using hod.mem_iff.mp hj]
  simp [hi', hj]
 done := fun s Q E st hQ => by
  have hl : od.length = es.size := by simpa using hod.length_eq
  refine Yd0 hh st.1 st.2.1 hf st.2.2 (by simp [hl]) fun h' b' => ?_
  show 234
 self := fun _ _ _ _ st hQ => V5 st.1 hQ
theorem Vt {α : Type} : ∀ (n : Nat) (xs : List α) (s : Shared) (Q : List α -> Shared -> Prop), xs.length = n -> (∀ ys d, ys.Perm xs -> Q ys { s with drawn := d }) -> wpAny (model prog w) A (drawOrder n xs) Q E s
 | 0, xs, s, Q, hn, h => by
  have : xs = [] := ZCN.mp hn
  subst this
  unfold drawOrder
  exact ZAC (h [] s.drawn (.refl _))
 | n + 1, [], s, Q, hn, h => by cases hn
 | n + 1, x :: xs, s, Q, hn, h => by
  unfold drawOrder
  refine wpAny_bind (Yef (by simp) fun i hi => ?_)
  rw [ZAR hi]
  show 154
  refine ZAA (Vt n _ _ _ (by rw [ZB6 hi]; omega) fun ys d hp => ZAC ?_)
  exact h _ d ((List.Perm.cons _ hp).trans (Vk hi))
end
section
variable {prog : Program} {w : World} {A : Around} {E : VSP} {s : Shared} {S : Addr}
structure Yow (prog : Program) (w : World) (s : Shared) (S : Addr) (ks : List Str) (I : Addr) (s' : Shared) : Prop where
 old : ∀ b o, s.heap.get? b = some o -> s'.heap.get? b = some o
 new : s.heap.objs.size <= I
 gens : s'.gens = s.gens
 os : s'.os = s.os
 toks : s'.toks = s.toks
 ty : s'.TypeIs (.ref I) "set_iterator"
 wk : ∀ A' : Around, A'.handled = none -> ∃ (fp : List Addr) (items : List Value) (St : Nat -> Heap -> Prop), Walks prog w A' I fp [I] ks.length (fun i v => items[i]? = some v) St /\ St 0 s'.heap /\ (∀ b ∈ fp, b < s'.heap.objs.size) /\ (∀ b ∈ fp, b = S \/ s.heap.objs.size <= b) /\
  items.length = ks.length /\ ∃ ys, StrsAre items ys /\ ys.Perm ks
theorem Wk {es : Array (Int × Value)} {t : SetTable} {ks : List Str} (T : TT1 prog w es t ks) {items : List Value} (hp : items.Perm (es.toList.map (·.2))) : items.length = ks.length /\ ∃ ys, StrsAre items ys /\ ys.Perm ks := by
 refine ⟨by rw [hp.length_eq, <- T.sz]; simp, items.map strOf, strsAre_map items fun v hv => ?_, ?_⟩
 ·have := hp.mem_iff.mp hv
  obtain ⟨e, he, rfl⟩ := ZA8.mp this
  obtain ⟨⟨k, hk, _⟩, _⟩ := T.el e he
  obtain ⟨tk, e'⟩ := ZBo hk
  exact ⟨k, tk, e'⟩
 ·refine (hp.map strOf).trans ?_
  rw [ZBA]
  exact T.pm
theorem Jp {es : Array (Int × Value)} : (List.range es.size).filterMap (fun j => (es[j]?).map (·.2)) = es.toList.map (·.2) := by
 have e : (fun j => (es[j]?).map (·.2)) = fun j : Nat => ((fun j => es[j]?) j).map (fun p : Int × Value => p.2) := rfl
 rw [e, <- List.map_filterMap, filterMap_getElem?_range]
theorem YfN {ks : List Str} {Q : VSP} (T : TS prog w s.heap S ks) (hb : ks.length < scanBound) (h : ∀ I s', Yow prog w s S ks I s' -> Q (.ref I) s') : wpAny (model prog w) A (pyIter (.ref S)) Q E s := by
 have hT := T.typeIs
 obtain ⟨es, ep, t, ho, T⟩ := T
 have hlt : S < s.heap.objs.size := ZAD ho
 refine wpAny_pyIter_slot hT F.slot_set_iter (ZAl F.slot_set_iter hT Ju ?_ (F.args_set_iter_1 _))
 unfold Builtin.«frozenset.__iter__» Builtin.Frozenset.slot0 slotArgs
 simp only [List.isEmpty_nil, Bool.not_true, Bool.false_eq_true, ↓reduceIte, List.length_nil, bne_self_eq_false]
 unfold Builtin.Frozenset.addrOf Builtin.Frozenset.sizeOf
 refine ZAA (ZAA (ZAC (ZAC ?_)))
 refine ZAA (ZAA (wpAny_setEntries_of ho rfl T.fit (ZAC ?_)))
 unfold setDrawn
 refine ZAA (ZAA (ZBR ho rfl T.fit ?_))
 show 154
 unfold setsByText
 refine ZAA (ZAA (ZBT (ZAC (ZAC ?_))))
 split
 ·rename_i z
  have z' : (!(byText w) && (!t.plain && decide (es.size > 1))) = true := z
  refine wpAny_bind (Vt es.size _ _ _ (by simp) fun od d hp => ?_)
  have hz : od.length <= sizeLine := by
   have := hp.length_eq
   rw [ZBe] at this
   rw [this, T.sz]
   exact fits_of_scanBound hb
  refine wpAny_bind (wpAny_newTuple ?_ (by simpa using hz))
  refine ZAA (wpAny_setEpoch_of (ZAB _ ho) rfl T.fit ?_)
  refine ZAA (ZAb (ZAC ⟨_, rfl, "set_iterator", _, ⟨_, ZAF _ rfl, rfl⟩, slot_seti_next.lookup, h _ _ ?_⟩))
  refine ⟨fun b o e => ZAB _ (ZAB _ e), by rw [ZAa]; exact ZB3 _, rfl, rfl, rfl, ⟨_, ZAF _ rfl, rfl⟩, fun A' hh => ?_⟩
  have hne : S ≠ (s.heap.push { cls := .type "tuple", dict := none, data := .seq (od.map fun (i : Nat) => rawInt i).toArray }).objs.size := by
   rw [ZAa]; exact ZAL (ZBD hlt)
  have hnT : s.heap.objs.size ≠ (s.heap.push { cls := .type "tuple", dict := none, data := .seq (od.map fun (i : Nat) => rawInt i).toArray }).objs.size := by
   rw [ZAa]; exact ZAL (ZAz _)
  have W := Ycs (prog := prog) (w := w) (ep := ep) (n := 0) hh hne hnT T.fit hp
  rw [T.sz] at W
  refine ⟨_, _, _, W, ⟨?_, ?_, ?_⟩, ?_, ?_, Wk T ?_⟩
  ·refine (ZAF _ rfl).trans ?_
   simp [YlB, rawInt, T.sz]
  ·exact ZAB _ (ZAB _ ho)
  ·exact ZAB _ (ZAF _ rfl)
  ·intro b hb
   rw [ZAa, ZAa]
   show 264
   rcases hb with rfl | rfl | rfl
   ·rw [ZAa]; exact ZAz _
   ·exact ZBD (ZBD hlt)
   ·exact ZBD (ZAz _)
  ·intro b hb
   show 264
   rcases hb with rfl | rfl | rfl
   ·rw [ZAa]; exact .inr (ZB3 _)
   ·exact .inl rfl
   ·exact .inr (ZAE _)
  ·rw [<- Jp]
   exact hp.filterMap _
 ·rename_i z
  refine ZAA (ZAC ?_)
  refine ZAA (wpAny_setEpoch_of ho rfl T.fit ?_)
  refine ZAA (ZAb (ZAC ⟨_, rfl, "set_iterator", _, ⟨_, ZAF _ rfl, rfl⟩, slot_seti_next.lookup, h _ _ ?_⟩))
  refine ⟨fun b o e => ZAB _ e, ZAE _, rfl, rfl, rfl, ⟨_, ZAF _ rfl, rfl⟩, fun A' hh => ?_⟩
  have hne : S ≠ s.heap.objs.size := ZAL hlt
  have small : ∀ b ∈ [s.heap.objs.size, S], b < (s.heap.push { cls := .type "set_iterator", dict := none, data := .fields [rawInt 0, rawInt 0, .ref S, rawInt es.size, rawInt ep].toArray }).objs.size := by
   intro b hb
   rw [ZAa]
   show 264
   rcases hb with rfl | rfl
   ·exact ZAz _
   ·exact ZBD hlt
  have apart : ∀ b ∈ [s.heap.objs.size, S], b = S \/ s.heap.objs.size <= b := by
   intro b hb
   show 264
   rcases hb with rfl | rfl
   ·exact .inr (ZAE _)
   ·exact .inl rfl
  cases hbt : byText w with
  | true =>
   have W := YcS (prog := prog) (es := es) (ep := ep) hh hbt hne T.fit
   simp only [<- Array.getElem?_toList, Array.toList_map] at W
   rw [T.sz] at W
   refine ⟨_, _, _, W, ⟨?_, ZAB _ ho⟩, small, apart, Wk T ?_⟩
   ·refine (ZAF _ rfl).trans ?_
    simp [YlB, rawInt, T.sz]
   ·exact (V9 _ es).map _
  | false =>
   have hl : t.led = true := by rw [T.led, hbt]; rfl
   have hz : es.size <= 1 := by
    rcases T.pl with h0 | h0
    ·omega
    ·have z' : ¬ (!(byText w) && (!t.plain && decide (es.size > 1))) = true := z
     rw [hbt, h0] at z'
     simp at z'
     omega
   have W := Yei (prog := prog) (es := es) (ep := ep) hh hbt hne T.fit hl hz
   simp only [<- Array.getElem?_toList, Array.toList_map] at W
   rw [T.sz] at W
   refine ⟨_, _, _, W, ⟨?_, ZAB _ ho⟩, small, apart, Wk T (.refl _)⟩
   refine (ZAF _ rfl).trans ?_
   simp [YlB, rawInt, T.sz]
end
section
variable {prog : Program} {w : World} {A : Around} {E : VSP} {s : Shared} {S : Addr}
theorem Yfb {r : Addr} {Q : Bool -> Shared -> Prop} (hT : s.TypeIs (.ref r) "set") (h : Q false s) : wpAny (model prog w) A (Builtin.List.listLengthHint (.ref r)) Q E s := by
 unfold Builtin.List.listLengthHint
 refine ZAA (wpAny_specialOf hT F.slot_set_len.lookup ?_)
 generalize hid : ("set.__len__" : String) = id0
 wp_delta
 rw [show splitId id0 = some ("set", "__len__") from by subst hid; decide +kernel]
 subst hid
 refine ZAA (ZBv (T := "set") (b := true) hT (by rw [isSubtype_type]; kernel_rfl) ?_)
 refine ZCR (fun hab => absurd hab (by decide)) (fun _ => ?_)
 refine ZCR (fun _ => ?_) (fun hab => absurd (by decide +kernel) hab)
 refine ZAA (ZBg hT ?_)
 exact ZAC h
theorem Ydq {items : List Value} {acc : Array Value} (h : ItemsOf (fun i v => items[i]? = some v) acc items.length) : acc.toList = items := by
 refine List.ext_getElem? fun i => ?_
 by_cases hi : i < acc.size
 ·have e : acc[i]? = some acc[i] := by simp [hi]
  rw [ZBP, e, h.2 i _ e]
 ·rw [ZBP, ZBa (by omega), ZA2 (by have := h.1; omega)]
theorem Ydm {R : Result -> Shared -> Prop} {ks : List Str} (T : TS prog w s.heap S ks) (hb : ks.length < scanBound) (hh : A.handled = none) (L : Addr) (hLS : L ≠ S) (res : Value)
 (hL : s.heap.get? L = some { cls := .type "list", data := .seq #[] })
 (hR : ∀ (s' : Shared) (acc : Array Value) (c : Nat) (ys : List Str), (∀ b o, b ≠ L -> s.heap.get? b = some o -> s'.heap.get? b = some o) -> s'.gens = s.gens -> s'.os = s.os ->
  s'.heap.get? L = some { cls := .type "list", dict := none, data := .seq acc c, slots := #[] } -> StrsAre acc.toList ys -> ys.Perm ks -> R (.ok (.ret res)) s') :
 wpAny (model prog w) A.in1 (Builtin.List.listExtendWith (.ref L) (.ref S) res)
  (fun fin s' => match fin with | .done f => R (.ok f) s' | .again c' => c'.quiet = true /\ codeAny (model prog w) A c' R s') (fun e s' => R (.error e) s') s := by
 have hT := T.typeIs
 unfold Builtin.List.listExtendWith
 refine ZAA (ZBg (T := "set") hT ?_)
 have h1 : Builtin.List.listSameRef (.ref L) (.ref S) = false := by simp [Builtin.List.listSameRef, hLS]
 have h2 : (Value.type "set" == Value.type "list") = false := by decide
 have h3 : (Value.type "set" == Value.type "tuple") = false := by decide
 simp only [h1, h2, h3, Bool.or_false, Bool.false_eq_true, if_false]
 refine ZAA (YfN T hb fun I s1 X => ?_)
 obtain ⟨fp, items, St, W, st, small, apart, hlen, ys, hys, hp⟩ := X.wk A.in1 hh
 have hLf : L ∉ fp := fun z => by
  rcases apart L z with e | e
  ·exact hLS e
  ·exact absurd (ZAD hL) (ZCc.mpr e)
 have hn : ks.length <= sizeLine := fits_of_scanBound hb
 have hL1 := X.old _ _ hL
 have hLI : L ≠ I := fun z => absurd (ZAD hL) (ZCc.mpr (by rw [z]; exact X.new))
 have key : ∀ (h : Heap) (c₁ : Nat), St 0 h -> (∀ b o, b ≠ L -> s.heap.get? b = some o -> h.get? b = some o) -> h.get? L = some { cls := .type "list", data := .seq #[] c₁ } ->
  codeAny (model prog w) A (.builtin "list.extend.loop" ⟨[.ref L, .ref I, res], []⟩) R { s1 with heap := h } := by
  intro h c₁ hst hk hS₁
  refine codeAny_extend_loopS W.toS hn L hLf res ks.length 0 _ #[] c₁ rfl (ZBZ _) hst hS₁ (ItemsOf.nil _) fun s' acc' c' hm hS' hacc => ?_
  rw [<- hlen] at hacc
  have e := Ydq hacc
  refine hR s' acc' c' ys (fun b o hb' e' => ?_) ?_ ?_ hS' (by rw [e]; exact hys) hp
  ·refine hm.heap b o (fun hmem => ?_) (hk b o hb' e')
   rcases ZAV.mp hmem with e'' | hmem
   ·exact hb' e''
   ·rw [ZAX.mp hmem] at e'
    exact absurd (ZAD e') (ZCc.mpr X.new)
  ·have := hm.gens; exact this.trans X.gens
  ·exact hm.os.trans X.os
 refine ZAA (ZA6 (Yfb (T.keep (X.old S)).typeIs ?_))
 refine ZCR (fun _ => ?_) (fun _ => ZAC ⟨plainId_quiet PySem.F.plain_extend_loop _, key s1.heap 0 st (fun b o _ e => X.old b o e) hL1⟩)
 refine ZAA (ZBx ?_)
 show 176
 show wpAny _ _ (updateSeq L (·.push .none) >>= fun _ => updateSeq L (·.pop)) _ _ _
 refine ZAA (wpAny_updateSeq hL1 rfl ?_)
 have hS₂ := ZAx (Obj.mapSeq (·.push Value.none)) hL1 rfl
 refine wpAny_updateSeq (hz := by seq_fits) hS₂ rfl ?_
 have hS₃ := ZAx (Obj.mapSeq (·.pop)) hS₂ rfl
 refine ZAC ⟨plainId_quiet PySem.F.plain_extend_loop _, key _ _ ?_ (fun b o hb e => ?_) hS₃⟩
 ·refine W.frame 0 _ _ st fun b hb o e => ?_
  have hbS : b ≠ L := fun h => hLf (h ▸ hb)
  exact (ZAT _ _ (ZA1 hbS)).trans ((ZAT _ _ (ZA1 hbS)).trans e)
 ·exact (ZAT _ _ (ZA1 hb)).trans ((ZAT _ _ (ZA1 hb)).trans (X.old b o e))
theorem YcF {R : List Value -> Shared -> Prop} {ks : List Str} (T : TS prog w s.heap S ks) (hb : ks.length < scanBound) (hh : A.handled = none)
 (h : ∀ (s' : Shared) (acc : List Value) (ys : List Str), (∀ b o, s.heap.get? b = some o -> s'.heap.get? b = some o) -> s'.gens = s.gens -> s'.os = s.os -> s.heap.objs.size < s'.heap.objs.size -> StrsAre acc ys -> ys.Perm ks -> R acc s') :
 wpAny (model prog w) A (collect (.ref S)) R E s := by
 have hlt : S < s.heap.objs.size := let ⟨_, _, _, ho, _⟩ := T; ZAD ho
 unfold collect
 refine ZAA (ZB0 (codeAny_builtin entry_proto_collect' ?_))
 rw [Around.under_plainId PySem.F.plain_proto_collect _]
 show wpAny _ A.in1 (newList [] >>= fun l => again (.builtin "list.__iadd__" ⟨[l, .ref S], []⟩)) _ _ s
 refine ZAA (ZAb ?_)
 refine ZAC ⟨plainId_quiet PySem.F.plain_list_iadd _, codeAny_builtin entry_list_iadd' ?_⟩
 rw [Around.under_plainId PySem.F.plain_list_iadd _]
 have hS₁ : (s.heap.push { cls := .type "list", data := .seq ([] : List Value).toArray }).get? s.heap.objs.size = some { cls := .type "list", data := .seq #[] } := ZAF _ rfl
 show wpAny _ A.in1 (Builtin.List.listExtendWith (.ref s.heap.objs.size) (.ref S) (.ref s.heap.objs.size)) _ _ _
 have key := Ydm (A := A) (s := { s with heap := s.heap.push { cls := .type "list", data := .seq ([] : List Value).toArray } })
  (R := fun (q : Result) (s' : Shared) => ∃ (acc : Array Value) (c : Nat) (ys : List Str), q = .ok (.ret (.ref s.heap.objs.size)) /\
   (∀ b o, s.heap.get? b = some o -> s'.heap.get? b = some o) /\ s'.gens = s.gens /\ s'.os = s.os /\ s'.heap.get? s.heap.objs.size = some { cls := .type "list", dict := none, data := .seq acc c, slots := #[] } /\ StrsAre acc.toList ys /\ ys.Perm ks)
  (T.keep fun o e => ZAB _ e) hb hh s.heap.objs.size (ZBE hlt) (.ref s.heap.objs.size) hS₁
  (fun s' acc c ys hk hg ho hS' hacc hp => ⟨acc, c, ys, rfl, fun b o e => hk b o (ZAL (ZAD e)) (ZAB _ e), hg, ho, hS', hacc, hp⟩)
 refine ZAw key (fun fin s' x => ?_) fun e s' x => ?_
 ·cases fin with
  | done f =>
   obtain ⟨acc, c, ys, e, hk, hg, ho, hS', hacc, hp⟩ := x
   cases e
   show wpAny _ A (load s.heap.objs.size >>= _) _ _ _
   refine ZAA (ZCG hS' ?_)
   exact ZAC (h s' acc.toList ys hk hg ho (ZAD hS') hacc hp)
  | again c₁ =>
   refine ⟨x.1, codeAny_mono x.2 fun q s₂ y => ?_⟩
   obtain ⟨acc, c, ys, rfl, hk, hg, ho, hS', hacc, hp⟩ := y
   show wpAny _ A (load s.heap.objs.size >>= _) _ _ _
   refine ZAA (ZCG hS' ?_)
   exact ZAC (h s₂ acc.toList ys hk hg ho (ZAD hS') hacc hp)
 ·obtain ⟨_, _, _, e', _⟩ := x
  cases e'
theorem Jv {ks : List Str} {Q : VSP} (T : TS prog w s.heap S ks) (hb : ks.length < 64) (hh : A.handled = none)
 (h : ∀ (D : Addr) (s' : Shared) (out : List Value) (ss : List Str) (n : Nat), s.heap.objs.size <= D -> (∀ b o, s.heap.get? b = some o -> s'.heap.get? b = some o) -> s'.gens = s.gens -> s'.os = s.os ->
  s'.heap.get? D = some { cls := .type "list", data := .seq out.toArray n } -> StrsAre out ss -> ss.Perm ks -> sortedS ss = true -> Q (.ref D) s') :
 wpAny (model prog w) A (call (.builtin "sorted") [.ref S]) Q E s := by
 refine Calls.call_function_entry kind_sorted plain_sorted entry_sorted (args_sorted1 _) ?_
 unfold Builtin.«sorted»
 refine ZAA (m := checkCount "sorted" 1 1 _) (ZAC ?_)
 refine ZAA (YcF (A := A.in1) T (Nat.lt_trans hb (by decide)) hh fun s1 acc ys hk hg ho hsz0 hacc hp => ?_)
 have hl : acc.length = ks.length := by have := StrsAre.length hacc; rw [this, hp.length_eq]
 refine ZAA (wpAny_newList ?_ (by rw [hl]; exact ZAH (ZBf hb) (by rw [sizeLine_eq]; decide)))
 have hoL : (s1.heap.push (seqObj "list" acc.toArray 0)).get? s1.heap.objs.size = some (seqObj "list" acc.toArray 0) := ZAF _ rfl
 refine ZAA (ZA6 (ZAl (s := { s1 with heap := s1.heap.push (seqObj "list" acc.toArray 0) }) slot_list_sort ⟨_, hoL, rfl⟩ entry_list_sort
  (list_sort_treeK strKind_oneLt hoL hacc.keysOf (fun v₁ v₂ rest e => keyKind_strs (by rw [<- e]; exact hacc)) (by rw [hl]; exact hb) fun st' a1 a2 => ⟨_, rfl, ?_⟩) (args_list_sort _)))
 obtain ⟨ss, g1, g2, g3⟩ := sorted_out_str hacc a1 a2
 have hsz : s.heap.objs.size <= s1.heap.objs.size := ZBf hsz0
 obtain ⟨n, hD⟩ : ∃ n, (sortedHeap (s1.heap.push (seqObj "list" acc.toArray 0)) s1.heap.objs.size acc ((arrOf st').map (·.2))).get? s1.heap.objs.size = some (seqObj "list" ((arrOf st').map (·.2)) n) := by
  have g0 := ZAB (seqObj "list" #[] 0) (ZAB (seqObj "tuple" acc.toArray 0) (get?_update_seq hoL fun _ => #[]))
  exact ⟨_, get?_update_seq g0 _⟩
 have hOld : ∀ b o, s.heap.get? b = some o -> (sortedHeap (s1.heap.push (seqObj "list" acc.toArray 0)) s1.heap.objs.size acc ((arrOf st').map (·.2))).get? b = some o := fun b o e => by
  have hb' : b ≠ s1.heap.objs.size := ZAL (ZAD (hk b o e))
  unfold sortedHeap
  rw [ZAT _ _ (ZA1 hb')]
  refine ZAB _ (ZAB _ ?_)
  rw [ZAT _ _ (ZA1 hb')]
  exact ZAB _ (hk b o e)
 generalize sortedHeap (s1.heap.push (seqObj "list" acc.toArray 0)) s1.heap.objs.size acc ((arrOf st').map (·.2)) = hp' at hD hOld ⊢
 have hD' : hp'.get? s1.heap.objs.size = some { cls := .type "list", data := .seq ((arrOf st').map (·.2)).toList.toArray n } := by rw [ZCd]; exact hD
 exact ZAC ⟨_, rfl, h s1.heap.objs.size _ ((arrOf st').map (·.2)).toList ss n hsz hOld hg ho hD' g1 (g2.trans hp) g3⟩
end
def leS (a b : Str) : Bool := !Ymq b a
def YlM (ks : List Str) : List Str := ks.mergeSort leS
theorem Yg3 {a b : Str} (h : a.cps.toList = b.cps.toList) : a = b := by
 cases a with | mk a => cases b with | mk b => exact ZBj Str.mk (Array.toList_inj.mp h)
theorem JF {a b : Str} : leS a b = true ↔ a.cps.toList <= b.cps.toList := by
 unfold leS Ymq
 simp [List.not_lt]
theorem YaY (a b c : Str) (h1 : leS a b = true) (h2 : leS b c = true) : leS a c = true := by
 rw [JF] at *
 exact List.le_trans h1 h2
theorem YdU (a b : Str) : (leS a b || leS b a) = true := by
 rw [Bool.or_eq_true, JF, JF]
 exact List.le_total _ _
theorem Yfn {a b : Str} (h1 : leS a b = true) (h2 : leS b a = true) : a = b := by
 rw [JF] at *
 exact Yg3 (List.le_antisymm h1 h2)
theorem Yc5 (ks : List Str) : (YlM ks).Perm ks := List.mergeSort_perm ks leS
theorem JR (ks : List Str) : (YlM ks).Pairwise fun a b => leS a b = true := List.pairwise_mergeSort YaY YdU ks
theorem Wi {ss ks : List Str} (hp : ss.Perm ks) (h : ss.Pairwise fun a b => leS a b = true) : ss = YlM ks :=
 List.Perm.eq_of_pairwise (fun a b _ _ h1 h2 => Yfn h1 h2) h (JR ks) (hp.trans (Yc5 ks).symm)
theorem Z4 : ∀ (p : Str) (l : List Str), risingS p l = true -> (p :: l).Pairwise fun a b => leS a b = true
 | p, [], _ => List.pairwise_singleton ..
 | p, x :: r, h => by
  unfold risingS at h
  rw [ZAq] at h
  have ih := Z4 x r h.2
  have h1 : leS p x = true := by
   have := h.1
   rw [ltCps_eq] at this
   exact this
  refine List.Pairwise.cons (fun y hy => ?_) ih
  rcases ZAV.mp hy with rfl | hy
  ·exact h1
  ·exact YaY _ _ _ h1 (List.rel_of_pairwise_cons ih hy)
theorem ZX : ∀ (l : List Str), sortedS l = true -> l.Pairwise fun a b => leS a b = true
 | [], _ => .nil
 | x :: r, h => Z4 x r h
theorem VS : ∀ {us : List Value} {ss : List Str}, StrsAre us ss -> Vals (ss.map V.str) us
 | _, _, .nil => .nil
 | _, _, .cons x t h => .cons ⟨t, rfl⟩ (VS h)
theorem WW {K : Frag} {as : List Addr} {H : Hp} : ∀ (ss : List Str), Dens K as H (ss.map V.str) (ss.map P.str)
 | [] => .nil
 | _ :: r => .cons .str (WW r)
section
variable {X : Cx} {e : Expr} {me : ME} {p1 p2 c1 c2 : Pos}
end
end Mi
namespace Mi
open PySem PySem.Spec L2 PySem.SeqAt
open PyProof.Rows hiding St
def noD : Nat -> PyData -> Bool
 | _, .none => true
 | _, .bool _ => true
 | _, .int _ => true
 | _, .str _ => true
 | n + 1, .list xs => xs.all (noD n)
 | n + 1, .tuple xs => xs.all (noD n)
 | _, _ => false
theorem Zf {h : Heap} : ∀ {vs : List Value} {xs : List PyData} {as : List Addr}, ReadsAll h vs xs as -> ∀ j (h1 : j < vs.length), ∃ (h2 : j < xs.length) (bs : List Addr), Reads h vs[j] xs[j] bs
 | _, _, _, .nil, j, h1 => absurd h1 (Nat.not_lt_zero _)
 | _, _, _, .cons r _, 0, _ => ⟨Nat.succ_pos _, _, r⟩
 | _, _, _, .cons _ rs, j + 1, h1 => by
  obtain ⟨h2, bs, q⟩ := Zf rs j (Nat.lt_of_succ_lt_succ h1)
  exact ⟨Nat.succ_lt_succ h2, bs, q⟩
theorem YT {h : Heap} : ∀ {vs : List Value} {xs : List PyData} {as : List Addr}, ReadsAll h vs xs as -> vs.length = xs.length
 | _, _, _, .nil => rfl
 | _, _, _, .cons _ rs => ZBj Nat.succ (YT rs)
theorem Yeg {h : Heap} : ∀ (n : Nat) {v : Value} {d e : PyData} {as bs : List Addr}, noD n d = true -> Reads h v d as -> Reads h v e bs -> d = e := by
 intro n
 induction n with
 | zero =>
  intro v d e as bs hd r q
  cases r <;> first | (cases q; rfl) | exact absurd hd (by simp [noD])
 | succ n ih =>
  have all : ∀ {vs : List Value} {xs ys : List PyData} {as bs : List Addr}, xs.all (noD n) = true -> ReadsAll h vs xs as -> ReadsAll h vs ys bs -> xs = ys := by
   intro vs xs ys as bs ha rx ry
   have l1 := YT rx
   have l2 := YT ry
   refine List.ext_getElem (l1.symm.trans l2) fun j j1 j2 => ?_
   obtain ⟨_, _, a⟩ := Zf rx j (by omega)
   obtain ⟨_, _, b⟩ := Zf ry j (by omega)
   exact ih (ZAv.mp ha _ (ZAr j1)) a b
  intro v d e as bs hd r q
  cases r with
  | none => cases q; rfl
  | bool b => cases q; rfl
  | int i t => cases q; rfl
  | str x t => cases q; rfl
  | list h1 h2 h3 h4 =>
   cases q with
   | list k1 k2 k3 k4 => rw [h1] at k1; cases k1; rw [h3] at k3; cases k3; rw [all hd h4 k4]
   | tuple k1 k2 k3 k4 => show 236
   | dict k1 k2 k3 k4 k5 => show 236
  | tuple h1 h2 h3 h4 =>
   cases q with
   | tuple k1 k2 k3 k4 => rw [h1] at k1; cases k1; rw [h3] at k3; cases k3; rw [all hd h4 k4]
   | list k1 k2 k3 k4 => show 236
   | dict k1 k2 k3 k4 k5 => show 236
  | dict => exact absurd hd (by simp [noD])
theorem Yap {xs : List PyData} (h : ∀ x ∈ xs, PyData.eqv x x = true) : PyData.eqvAll xs xs = true := by
 induction xs with
 | nil => rfl
 | cons x r ih => rw [PyData.eqvAll, h x (ZAU ..), ih fun y hy => h y (ZAd _ hy)]; rfl
theorem YfO : ∀ (n : Nat) {d : PyData}, noD n d = true -> PyData.eqv d d = true := by
 intro n
 induction n with
 | zero => intro d hd; cases d <;> first | (simp [PyData.eqv]; done) | exact absurd hd (by simp [noD])
 | succ n ih =>
  intro d hd
  cases d with
  | list xs => rw [PyData.eqv]; exact Yap fun x hx => ih (ZAv.mp hd x hx)
  | tuple xs => rw [PyData.eqv]; exact Yap fun x hx => ih (ZAv.mp hd x hx)
  | dict _ => exact absurd hd (by simp [noD])
  | _ => simp [PyData.eqv]
inductive Sh (h : Heap) : Value -> PyData -> Prop where
 | none : Sh h .none .none
 | bool (b) : Sh h (.bool b) (.bool b)
 | int (i t) : Sh h (.int i t) (.int i)
 | str (x t) : Sh h (.str x t) (.str x)
 | list {a its xs as} : h.IsList a its -> ReadsAll h its.toList xs as -> Sh h (.ref a) (.list xs)
 | tup {a its xs as} : h.IsTuple a its -> ReadsAll h its.toList xs as -> Sh h (.ref a) (.tuple xs)
theorem Ydw {h : Heap} {n : Nat} {v : Value} {d : PyData} {as : List Addr} (r : Reads h v d as) (hd : noD n d = true) : Sh h v d := by
 cases r with
 | none => exact .none
 | bool b => exact .bool b
 | int i t => exact .int i t
 | str x t => exact .str x t
 | list h1 h2 h3 h4 => exact .list ⟨_, h1, h2, _, h3⟩ h4
 | tuple h1 h2 h3 h4 => exact .tup ⟨_, h1, h2, _, h3⟩ h4
 | dict => cases n <;> exact absurd hd (by simp [noD])
theorem Yco {A : Around} {s : Shared} {v u : Value} {d e : PyData} (hu : A.units < cLine) (a : Sh s.heap v d) (b : Sh s.heap u e)
 (sub : ∀ {its its' : Array Value} {xs ys : List PyData} {as bs : List Addr}, (d = .list xs /\ e = .list ys) \/ (d = .tuple xs /\ e = .tuple ys) -> ReadsAll s.heap its.toList xs as -> ReadsAll s.heap its'.toList ys bs ->
  ∀ j (h1 : j < its.size) (h2 : j < its'.size), EqAt A.in1 s its[j] its'[j] (pairEq xs ys j)) : RcAt A s v u (PyData.eqv d e) /\ RcNeAt A s v u (!PyData.eqv d e) := by
 cases a with
 | none =>
  cases b with
  | none => exact ⟨.none_none, .none_none⟩
  | bool y => exact ⟨.none_bool y, .none_bool y⟩
  | int y t => exact ⟨.none_int y t, .none_int y t⟩
  | str y t => exact ⟨.none_str y t, .none_str y t⟩
  | list k _ => exact ⟨.none_list k hu, .none_list k hu⟩
  | tup k _ => exact ⟨.none_tuple k hu, .none_tuple k hu⟩
 | bool x =>
  cases b with
  | none => exact ⟨.bool_none x, .bool_none x⟩
  | bool y => exact ⟨.bool_bool x y, .bool_bool x y⟩
  | int y t => exact ⟨.bool_int x y t, .bool_int x y t⟩
  | str y t => exact ⟨.bool_str x y t, .bool_str x y t⟩
  | list k _ => exact ⟨.bool_list x k hu, .bool_list x k hu⟩
  | tup k _ => exact ⟨.bool_tuple x k hu, .bool_tuple x k hu⟩
 | int x t =>
  cases b with
  | none => exact ⟨.int_none x t, .int_none x t⟩
  | bool y => exact ⟨.int_bool x t y, .int_bool x t y⟩
  | int y t' => exact ⟨.int_int x t y t', .int_int x t y t'⟩
  | str y t' => exact ⟨.int_str x t y t', .int_str x t y t'⟩
  | list k _ => exact ⟨.int_list x t k hu, .int_list x t k hu⟩
  | tup k _ => exact ⟨.int_tuple x t k hu, .int_tuple x t k hu⟩
 | str x t =>
  cases b with
  | none => exact ⟨.str_none x t, .str_none x t⟩
  | bool y => exact ⟨.str_bool x t y, .str_bool x t y⟩
  | int y t' => exact ⟨.str_int x t y t', .str_int x t y t'⟩
  | str y t' => exact ⟨.str_str x t y t', .str_str x t y t'⟩
  | list k _ => exact ⟨.str_list x t k hu, .str_list x t k hu⟩
  | tup k _ => exact ⟨.str_tuple x t k hu, .str_tuple x t k hu⟩
 | @list l its xs as h1 h2 =>
  cases b with
  | none => exact ⟨.list_none h1 hu, .list_none h1 hu⟩
  | bool y => exact ⟨.list_bool y h1 hu, .list_bool y h1 hu⟩
  | int y t' => exact ⟨.list_int y t' h1 hu, .list_int y t' h1 hu⟩
  | str y t' => exact ⟨.list_str y t' h1 hu, .list_str y t' h1 hu⟩
  | tup k _ => exact ⟨.list_tuple h1 k hu, .list_tuple h1 k hu⟩
  | @list l' its' ys bs k1 k2 =>
   have n1 : its.size = xs.length := by simpa using YT h2
   have n2 : its'.size = ys.length := by simpa using YT k2
   have he := sub (.inl ⟨rfl, rfl⟩) h2 k2
   rw [PyData.eqv]
   by_cases hz : its.size = its'.size
   ·rw [<- eqvAll_same_length (by omega : xs.length = ys.length), <- n1]
    exact ⟨.lists h1 k1 hz hu he, .lists h1 k1 hz hu he⟩
   ·rw [eqvAll_other_length (by omega : xs.length ≠ ys.length)]
    exact ⟨.lists_lengths h1 k1 (by simpa using hz) hu, .lists_lengths h1 k1 (by simpa using hz) hu⟩
 | @tup l its xs as h1 h2 =>
  cases b with
  | none => exact ⟨.tuple_none h1 hu, .tuple_none h1 hu⟩
  | bool y => exact ⟨.tuple_bool y h1 hu, .tuple_bool y h1 hu⟩
  | int y t' => exact ⟨.tuple_int y t' h1 hu, .tuple_int y t' h1 hu⟩
  | str y t' => exact ⟨.tuple_str y t' h1 hu, .tuple_str y t' h1 hu⟩
  | list k _ => exact ⟨.tuple_list h1 k hu, .tuple_list h1 k hu⟩
  | @tup l' its' ys bs k1 k2 =>
   have n1 : its.size = xs.length := by simpa using YT h2
   have n2 : its'.size = ys.length := by simpa using YT k2
   have he := sub (.inr ⟨rfl, rfl⟩) h2 k2
   rw [PyData.eqv, <- eqvAll_eq xs ys, <- n1, <- n2]
   exact ⟨.tuples h1 k1 hu he, .tuples h1 k1 hu he⟩
theorem YdB {A : Around} {s : Shared} {v u : Value} {d e : PyData} (hu : A.units < cLine) (a : Sh s.heap v d) (b : Sh s.heap u e) (hs : ∀ x y, v = .ref x -> u = .ref y -> EqAt A s v u (PyData.eqv d e)) : EqAt A s v u (PyData.eqv d e) := by
 cases a with
 | none =>
  cases b with
  | none => exact .same _
  | bool y => exact .none_bool y
  | int y t => exact .none_int y t
  | str y t => exact .none_str y t
  | list k _ => exact .none_list k hu
  | tup k _ => exact .none_tuple k hu
 | bool x =>
  cases b with
  | none => exact .bool_none x
  | bool y => exact .bool_bool x y
  | int y t => exact .bool_int x y t
  | str y t => exact .bool_str x y t
  | list k _ => exact .bool_list x k hu
  | tup k _ => exact .bool_tuple x k hu
 | int x t =>
  cases b with
  | none => exact .int_none x t
  | bool y => exact .int_bool x t y
  | int y t' => exact .int_int x t y t'
  | str y t' => exact .int_str x t y t'
  | list k _ => exact .int_list x t k hu
  | tup k _ => exact .int_tuple x t k hu
 | str x t =>
  cases b with
  | none => exact .str_none x t
  | bool y => exact .str_bool x t y
  | int y t' => exact .str_int x t y t'
  | str y t' => exact .str_str x t y t'
  | list k _ => exact .str_list x t k hu
  | tup k _ => exact .str_tuple x t k hu
 | list h1 _ =>
  cases b with
  | none => exact .list_none h1 hu
  | bool y => exact .list_bool y h1 hu
  | int y t' => exact .list_int y t' h1 hu
  | str y t' => exact .list_str y t' h1 hu
  | list _ _ => exact hs _ _ rfl rfl
  | tup _ _ => exact hs _ _ rfl rfl
 | tup h1 _ =>
  cases b with
  | none => exact .tuple_none h1 hu
  | bool y => exact .tuple_bool y h1 hu
  | int y t' => exact .tuple_int y t' h1 hu
  | str y t' => exact .tuple_str y t' h1 hu
  | list _ _ => exact hs _ _ rfl rfl
  | tup _ _ => exact hs _ _ rfl rfl
theorem YdT : ∀ (n : Nat) {d e : PyData} {A : Around} {s : Shared} {v u : Value} {as bs : List Addr}, Reads s.heap v d as -> Reads s.heap u e bs -> noD n d = true -> noD n e = true -> A.units + n < cLine ->
 EqAt A s v u (PyData.eqv d e) /\ RcAt A s v u (PyData.eqv d e) /\ RcNeAt A s v u (!PyData.eqv d e) := by
 intro n
 induction n with
 | zero =>
  intro d e A s v u as bs r q hd he hu
  have a := Ydw r hd
  have b := Ydw q he
  have rc := Yco (A := A) (by omega) a b fun {its its' xs ys as bs} h => by rcases h with ⟨rfl, _⟩ | ⟨rfl, _⟩ <;> exact absurd hd (by simp [noD])
  exact ⟨YdB (by omega) a b fun x y e1 e2 => by subst e1; cases a <;> exact absurd hd (by simp [noD]), rc.1, rc.2⟩
 | succ n ih =>
  intro d e A s v u as bs r q hd he hu
  have a := Ydw r hd
  have b := Ydw q he
  have rc := Yco (A := A) (by omega) a b fun {its its' xs ys as bs} h rx ry j h1 h2 => by
   obtain ⟨l1, as', ra⟩ := Zf rx j (by simpa using h1)
   obtain ⟨l2, bs', rb⟩ := Zf ry j (by simpa using h2)
   have hx : noD n xs[j] = true := by
    rcases h with ⟨rfl, _⟩ | ⟨rfl, _⟩ <;> exact ZAv.mp hd _ (ZAr l1)
   have hy : noD n ys[j] = true := by
    rcases h with ⟨_, rfl⟩ | ⟨_, rfl⟩ <;> exact ZAv.mp he _ (ZAr l2)
   have := (ih (A := A.in1) ra rb hx hy (by show A.units + 1 + n < cLine; omega)).1
   unfold pairEq
   rw [ZBn, ZBn, ZAR l1, ZAR l2]
   show 192
  refine ⟨YdB (by omega) a b fun x y e1 e2 => ?_, rc.1, rc.2⟩
  subst e1; subst e2
  by_cases hxy : x = y
  ·subst hxy
   have := Yeg (n + 1) hd r q
   subst this
   rw [YfO (n + 1) hd]
   exact .same _
  ·exact .of_refs hxy rc.1
def snap : Nat -> YkJ -> P -> Option PyData
 | _, _, .non => some .none
 | _, _, .bl b => some (.bool b)
 | _, _, .int i => some (.int i)
 | _, _, .str x => some (.str x)
 | n + 1, st, .tup xs => (xs.mapM (snap n st)).map .tuple
 | n + 1, st, .ref k => match listAt st k with
  | some xs => (xs.mapM (snap n st)).map .list
  | none => none
 | 0, _, .tup _ => none
 | 0, _, .ref _ => none
theorem WJ {α β : Type} {f : α -> Option β} {x : α} {xs : List α} {ys : List β} (h : (x :: xs).mapM f = some ys) : ∃ y r, f x = some y /\ xs.mapM f = some r /\ ys = y :: r := by
 rw [List.mapM_cons] at h
 cases q : f x with
 | none => show 180
 | some y =>
  show 167
  cases q2 : xs.mapM f with
  | none => rw [q2] at h; cases h
  | some r => rw [q2] at h; cases h; exact ⟨y, r, rfl, rfl, rfl⟩
theorem JN {α β : Type} {f : α -> Option β} {p : β -> Bool} (hf : ∀ x y, f x = some y -> p y = true) : ∀ {xs : List α} {ys : List β}, xs.mapM f = some ys -> ys.all p = true
 | [], ys, h => by rw [List.mapM_nil] at h; cases h; rfl
 | x :: xs, ys, h => by
  obtain ⟨y, r, h1, h2, rfl⟩ := WJ h
  rw [ZBl, hf x y h1, JN hf h2]
  rfl
theorem Vu {st : YkJ} : ∀ {n : Nat} {p : P} {d : PyData}, snap n st p = some d -> noD n d = true := by
 intro n
 induction n with
 | zero => intro p d h; cases p <;> first | (unfold snap at h; cases h; rfl) | (unfold snap at h; cases h)
 | succ n ih =>
  intro p d h
  cases p with
  | tup xs =>
   unfold snap at h
   cases q : xs.mapM (snap n st) with
   | none => show 180
   | some ds => rw [q] at h; cases h; exact JN (fun x y e => ih e) q
  | ref k =>
   unfold snap at h
   cases q0 : listAt st k with
   | none => rw [q0] at h; cases h
   | some xs =>
    rw [q0] at h
    dsimp only at h
    cases q : xs.mapM (snap n st) with
    | none => show 180
    | some ds => rw [q] at h; cases h; exact JN (fun x y e => ih e) q
  | _ => unfold snap at h; cases h; rfl
section
variable {X : Cx} {pins : LAO} {σ : St} {H : Hp} {s : Shared} {as : List Addr} {st : YkJ}
theorem Wm (I : Inv X pins σ H s) (rp : Rep X.K as st H) : ∀ {n : Nat} {p : P} {d : PyData} {x : V} {v : Value}, snap n st p = some d -> Den X.K as H x p -> RelV x v -> ∃ bs, Reads s.heap v d bs := by
 have all : ∀ {n : Nat}, (∀ {p : P} {d : PyData} {x : V} {v : Value}, snap n st p = some d -> Den X.K as H x p -> RelV x v -> ∃ bs, Reads s.heap v d bs) ->
  ∀ {ps : List P} {ds : List PyData} {xs : List V} {vs : List Value}, ps.mapM (snap n st) = some ds -> Dens X.K as H xs ps -> Vals xs vs -> ∃ bs, ReadsAll s.heap vs ds bs := by
  intro n one ps
  induction ps with
  | nil => intro ds xs vs h d r; rw [List.mapM_nil] at h; cases h; cases d; cases r; exact ⟨_, .nil⟩
  | cons p ps ih =>
   intro ds xs vs h d r
   obtain ⟨y, rs, h1, h2, rfl⟩ := WJ h
   cases d with
   | cons d1 d2 =>
    cases r with
    | cons r1 r2 =>
     obtain ⟨b1, q1⟩ := one h1 d1 r1
     obtain ⟨b2, q2⟩ := ih h2 d2 r2
     exact ⟨_, .cons q1 q2⟩
 intro n
 induction n with
 | zero =>
  intro p d x v h den r
  cases den with
  | non => unfold snap at h; cases h; cases r; exact ⟨_, .none⟩
  | bl => unfold snap at h; cases h; cases r; exact ⟨_, .bool _⟩
  | int => unfold snap at h; cases h; obtain ⟨t, rfl⟩ := r; exact ⟨_, .int _ t⟩
  | str => unfold snap at h; cases h; obtain ⟨t, rfl⟩ := r; exact ⟨_, .str _ t⟩
  | _ => unfold snap at h; cases h
 | succ n ih =>
  intro p d x v h den r
  cases den with
  | non => unfold snap at h; cases h; cases r; exact ⟨_, .none⟩
  | bl => unfold snap at h; cases h; cases r; exact ⟨_, .bool _⟩
  | int => unfold snap at h; cases h; obtain ⟨t, rfl⟩ := r; exact ⟨_, .int _ t⟩
  | str => unfold snap at h; cases h; obtain ⟨t, rfl⟩ := r; exact ⟨_, .str _ t⟩
  | @tup a vs ps e q =>
   unfold snap at h
   cases z : ps.mapM (snap n st) with
   | none => show 204
   | some ds =>
    show 204
    cases r
    obtain ⟨its, r1, ⟨o, ho, hc, m, hd⟩, _⟩ := I.tuple e
    obtain ⟨bs, q'⟩ := all ih z q r1
    exact ⟨_, .tuple ho hc hd (by simpa using q')⟩
  | @ref k a e =>
   unfold snap at h
   cases q0 : listAt st k with
   | none => rw [q0] at h; cases h
   | some xs =>
    rw [q0] at h
    dsimp only at h
    cases z : xs.mapM (snap n st) with
    | none => show 204
    | some ds =>
     show 204
     cases r
     obtain ⟨vs, g1, g2⟩ := Y7 rp e q0
     obtain ⟨its, r1, pl, _⟩ := I.list g1
     obtain ⟨o, ho, hc, m, hd⟩ := pl.isList
     obtain ⟨bs, q'⟩ := all ih z g2 r1
     exact ⟨_, .list ho hc hd (by simpa using q')⟩
def deep : Nat := 8
def eqB (p q : P) (st : YkJ) : Option Bool := match snap deep st p, snap deep st q with
 | some d, some e => some (PyData.eqv d e)
 | _, _ => none
def eqP : G2 := fun p q st => (eqB p q st).map fun b => (.bl b, st)
def neP : G2 := fun p q st => (eqB p q st).map fun b => (.bl (!b), st)
theorem VG (hu : X.A.units + deep < cLine) : OpR X (compareOp .Eq) (rM X eqP) := opM fun pins s σ H x y v u Q as st p q I rx ry rp d1 d2 h => by
 unfold eqP eqB at h
 cases z1 : snap deep st p with
 | none => rw [z1] at h; exact h.elim
 | some d =>
  cases z2 : snap deep st q with
  | none => rw [z1, z2] at h; exact h.elim
  | some e =>
   rw [z1, z2] at h
   obtain ⟨b1, r1⟩ := Wm I rp z1 d1 rx
   obtain ⟨b2, r2⟩ := Wm I rp z2 d2 ry
   exact (YdT deep (A := X.A) r1 r2 (Vu z1) (Vu z2) hu).2.1 _ _ _ _ ⟨.bl _, H, I, rfl, h as H _ Ext.refl rp .bl⟩
theorem Ycn (hu : X.A.units + deep < cLine) : OpR X (compareOp .NotEq) (rM X neP) := opM fun pins s σ H x y v u Q as st p q I rx ry rp d1 d2 h => by
 unfold neP eqB at h
 cases z1 : snap deep st p with
 | none => rw [z1] at h; exact h.elim
 | some d =>
  cases z2 : snap deep st q with
  | none => rw [z1, z2] at h; exact h.elim
  | some e =>
   rw [z1, z2] at h
   obtain ⟨b1, r1⟩ := Wm I rp z1 d1 rx
   obtain ⟨b2, r2⟩ := Wm I rp z2 d2 ry
   exact (YdT deep (A := X.A) r1 r2 (Vu z1) (Vu z2) hu).2.2 _ _ _ _ ⟨.bl _, H, I, rfl, h as H _ Ext.refl rp .bl⟩
end
end Mi
namespace Mi
open PySem PySem.Spec L2
open PyProof.Rows hiding St
theorem YV : bootBuiltins "len" = some (.builtin "len") := by decide +kernel
theorem ZY : bootBuiltins "tuple" = some (.type "tuple") := by decide +kernel
theorem Yil : bootBuiltins "int" = some (.type "int") := by decide +kernel
theorem Yhx : bootBuiltins "bool" = some (.type "bool") := by decide +kernel
theorem YgD : bootBuiltins "set" = some (.type "set") := by decide +kernel
theorem Ja : bootBuiltins "sorted" = some (.builtin "sorted") := by decide +kernel
theorem YaF : bootBuiltins "isinstance" = some (.builtin "isinstance") := by decide +kernel
theorem YfK : bootBuiltins "zip" = some (.type "zip") := by decide +kernel
theorem Yf2 : bootBuiltins "all" = some (.builtin "all") := by decide +kernel
def YmT (me : ME) : ME := fun ρ st => (me ρ st).bind fun p st1 => match p with
 | .int i => .ok (.int (-i)) st1
 | _ => .bad
theorem Yan {X : Cx} {a : Expr} {ma : ME} {pos : Pos} (ha : JE X a ma) : JE X (.UnaryOp .USub a pos) (YmT ma) :=
 PE.imp (Ykd YjH ha) fun σ H Q ⟨as, ρ, st, en, rp, h⟩ => ⟨as, ρ, st, en, rp, YkV.bindE h fun p st1 as1 H1 v x rp1 d h1 => by
  cases d with
  | int => exact ⟨_, rfl, h1 as1 H1 _ Ext.refl rp1 .int⟩
  | _ => exact False.elim h1⟩
structure Fn (P' : Program) (w : World) (K : Frag) (mg : SOV) (base : Heap) (x : Str) (k : Nat) (ps : List Str) (mf : MF) : Prop where
 ex : ∃ f fd, FM P' w K mg base k f fd ps mf /\ mg x = some (.ref f) /\ PySem.W.keepIn K (.ref f) = true /\ Binds K fd ps []
theorem Yx {X : Cx} {x : Str} {k : Nat} {ps : List Str} {mf : MF} {e : Expr} {es : List Expr} {mr : MA} {p pos : Pos} (F : Fn X.prog X.w X.K X.mg X.base x k ps mf) (hr : Ylu k X.A) (hg : Gl X x) (ha : JA X (e :: es) mr)
 (hdb : (x == ("__debug__" : Str)) = false := by decide) (he : starEach (e :: es) X.env = (false, eval e X.env) :: starEach es X.env := by rfl) (hpl : (backTo pos (starEach es X.env)).any (·.1) = false := by rfl) :
 JE X (.Call (.Name x p) (e :: es) [] pos) (YkX ps.length mf mr) := by
 obtain ⟨f, fd, h1, h2, h3, h4⟩ := F.ex
 exact YhB h1 hr hg h2 h3 h4 ha hdb he hpl
def YkO (K : Frag) (x : Str) (st : Stmt) : Prop := ∃ (f : Addr) (oc : Value) (od an : Option Addr) (kV doc pm cd ct : Value) (sl : Array (Option Value)),
 nsIn K mainGlobals x = some (some (.ref f)) /\ K.lookup f = some ⟨oc, od, .func (fnOf x x (YkS st) (YkQ st) (YkL st) .none kV doc pm an cd ct), sl⟩ /\ PySem.W.codeIn K cd x = true /\ PySem.W.keepIn K (.ref f) = true
structure Top (K : Frag) (mg : SOV) : Prop where
 ex : ∃ h : Heap, K.In h /\ h.Ns mainGlobals mg
theorem Top.none {K : Frag} {mg : SOV} {x : Str} (T : Top K mg) (e : nsIn K mainGlobals x = some none) : mg x = none := by
 obtain ⟨h, a, b⟩ := T.ex
 exact PySem.W.mg_none_of a b e
theorem Top.at {K : Frag} {mg : SOV} {x : Str} {v : Value} (T : Top K mg) (e : nsIn K mainGlobals x = some (some v)) : mg x = some v := by
 obtain ⟨h, a, b⟩ := T.ex
 exact PySem.W.mg_of a b e
section
variable {P' : Program} {w : World} {K : Frag} {mg : SOV} {base : Heap} {x : Str} {st : Stmt} {N ps : List Str} {k : Nat} {m : MS}
theorem Zd (T : Top K mg) (D : YkO K x st) (S : YkU N ps (YkL st))
 (hb : ∀ (kV doc pm : Value) (an : Option Addr) (cdv ct : Value) (us : List Value), us.length = ps.length -> bindArgs (fnOf x x (YkS st) (YkQ st) (YkL st) .none kV doc pm an cdv ct) ⟨us, []⟩ = pure (ps.zip us))
 (hbody : ∀ (f : Addr) (cdv : Value) (A : Around) (outer : List Env) (s : Shared) (H : Hp) (E : XK), Ylu k (A.deeper (envOfC x (YkL st) s.heap.objs.size f cdv)) -> JSs (YlY CX0 P' w K mg base N x (YkL st) f cdv A outer s H E).nox (YkQ st) m) :
 Fn P' w K mg base x (k + 1) ps (fnM N.length m) := by
 obtain ⟨f, oc, od, an, kV, doc, pm, cd, ct, sl, h1, h2, h3, h4⟩ := D
 have F := Yc3 (st := st) h2 h3 h4
 exact ⟨f, _, Mi.Fun.mirror F S (hbody f), T.at h1, h4, F.binds hb⟩
end
def Yn2 (n : Nat) (mf : MF) (K : Frag) : Sp := fun vs H Q _ => ∃ (a : Addr) (ns : List Int), vs = [.ref a] /\ Only H /\ SqL K H a (ns.map V.int) /\ ns.length <= n /\ ∀ H', Q (.bl true) H'
theorem VZ {K : Frag} {as : List Addr} {H : Hp} : ∀ (ns : List Int), Dens K as H (ns.map V.int) (ns.map P.int)
 | [] => .nil
 | _ :: r => .cons .int (VZ r)
theorem Ydf {K : Frag} {H : Hp} {a : Addr} {ns : List Int} (hO : Only H) (hS : SqL K H a (ns.map V.int)) : Rep K [a] [.ro (ns.map P.int)] H where
 len := rfl
 nd := fun i j b hi hj ni nj => by
  have h1 : i < 1 := (ZAG.mp hi).1
  have h2 : j < 1 := (ZAG.mp hj).1
  omega
 ob := fun k b o hk ho => by
  have h1 : k < 1 := (ZAG.mp hk).1
  have e : k = 0 := by omega
  subst e
  cases hk; cases ho
  rcases hS with (h | h) | h
  ·rcases hO a with z | ⟨o, xs, z⟩
   ·show 204
   ·show 204
  ·exact ⟨_, .inl h, VZ ns⟩
  ·exact ⟨_, .inr h, VZ ns⟩
def Law (n : Nat) (mf : MF) : Prop := ∀ ns : List Int, ns.length <= n -> ∃ st, mf [.ref 0] [.ro (ns.map P.int)] = .ok (.bl true) st
theorem Yjc {n : Nat} {mf : MF} {K : Frag} (L : Law n mf) : ∀ vs H Q E, Yn2 n mf K vs H Q E -> spM K 1 mf vs H Q E := by
 rintro vs H Q E ⟨a, ns, rfl, hO, hS, hl, hq⟩
 refine ⟨rfl, [a], _, [.ref 0], Ydf hO hS, .cons (.ref rfl) .nil, ?_⟩
 obtain ⟨st, e⟩ := L ns hl
 rw [e]
 intro as' H' v _ _ d
 cases d
 exact hq H'
theorem Yf4 {l : PySem.W.OpenLaw} {q : Program} {loose : List Str} {XP : (Str -> Option Value) -> Heap -> Prop} {YP : World -> Heap -> Prop} {d : DefRec} {K : Params -> Frag} {n k : Nat} {x y : Str} {st : Stmt} {mf : MF} (hn : l.most = some n) (hn2 : n <= 1000) (hdf : d.params.defaults = []) (hy : d.name = y)
 (hr : Ylu k callerA) (hY : ∀ (w : World) (h : Heap), YP w h -> (K w.params).In h) (hb : ∀ (kV doc pm : Value) (an : Option Addr) (cdv ct : Value) (s : Shared) (u : Value), BindsTo s (fnOf y y (YkS st) (YkQ st) (YkL st) .none kV doc pm an cdv ct) ⟨[u], []⟩ [(x, u)])
 (D : ∀ w : World, YkO (K w.params) y st)
 (F : ∀ (w : World) (mg : SOV), Top (K w.params) mg -> ∀ (f : Addr) (fd : FuncData), Fun (K w.params) y y st f fd -> ∀ base : Heap, FM l.prog w (K w.params) mg base k f fd [x] mf) (L : Law n mf) :
 PySem.W.WalkO q loose XP YP l.row.toRowW d [] (fun f vs => PySem.call f vs) := by
 refine L2.walk_of (n := n) (k := k) (x := x) (CX := fun _ => CX0) (sp := fun w => Yn2 n mf (K w.params)) hn (ZAH hn2 (by rw [sizeLine_eq]; decide)) hdf hr hY ?_ (fun w H a ns hl hO hS => ⟨a, ns, rfl, hO, hS, hl, fun _ => rfl⟩) fun _ _ _ _ _ z => z
 intro w mg fa h KX G hmg
 subst hy
 have T : Top (K w.params) mg := ⟨h, KX, G⟩
 obtain ⟨f, oc, od, an, kV, doc, pm, cd, ct, sl, h1, h2, h3, h4⟩ := D w
 have e := T.at h1
 rw [hmg] at e
 cases e
 have F0 := Yc3 (st := st) h2 h3 h4
 exact ⟨_, hb kV doc pm an cd ct, fun base _ _ => (F w mg T fa _ F0 base).imp (Yjc L)⟩
theorem Yz {A : Around} {k : Nat} (hr : Ylu k A) : A.units + deep < cLine := ZB4 (Nat.add_le_add_left (by decide : deep <= 64) _) hr.units
def Ynr (X : Cx) (scope : Scope) (FN : List Str) (fr : List Nat) : Bool :=
 scope.names.all (fun y => !(y.2 == NameKind.cell)) && (match scope.kind with | .function => true | _ => false) && scope.names.all (fun y => !(y.2 == NameKind.local) || (match scope.names.lookup y.1 with | some .local => true | _ => false)) &&
 scope.names.all (fun y => !(y.2 == NameKind.free) || (match X.env.kindOf y.1 with | some .cell => true | some .free => true | _ => false)) &&
 (FN.length == fr.length) && (FN.zip fr).all fun z => (match X.N[z.2]? with | some x => x == z.1 | none => false) && (match scope.names.lookup z.1 with | some .free => true | _ => false)
theorem Yfs {α : Type} : ∀ {l : List (Str × α)} {y : Str} {a : α}, l.lookup y = some a -> (y, a) ∈ l
 | [], _, _, h => by cases h
 | (k, v) :: r, y, a, h => by
  rw [ZBG] at h
  cases q : (y == k) with
  | true =>
   show 167
   have e : y = k := by simpa using q
   subst e
   cases h
   exact ZAU ..
  | false => rw [q] at h; exact ZAd _ (Yfs h)
theorem Yj5 {a b : NameKind} (h : (!(a == b)) = true) : a ≠ b := fun e => by
 subst e
 cases a <;> exact absurd h (by decide)
theorem YH {X : Cx} {scope : Scope} (TN FN : List Str) (fr : List Nat) (h : Ynr X scope FN fr = true) : Ylw X scope TN FN fr := by
 unfold Ynr at h
 simp only [Bool.and_eq_true, List.all_eq_true] at h
 obtain ⟨⟨⟨⟨⟨h1, h2⟩, h3⟩, h4⟩, h5⟩, h6⟩ := h
 refine ⟨fun y hy => Yj5 (h1 y hy), ?_, fun y hy e => ?_, fun y hy e => ?_, fun y => Yfs, by simpa using h5, fun j x k hx hk => ?_⟩
 ·revert h2; cases scope.kind <;> intro h2 <;> first | rfl | exact absurd h2 (by decide)
 ·have := h3 y hy
  rw [e] at this
  have e2 : (!(NameKind.local == NameKind.local)) = false := by decide
  rw [e2, ZCf] at this
  revert this
  split
  ·intro _; assumption
  ·intro z; exact absurd z (by decide)
 ·have := h4 y hy
  rw [e] at this
  have e2 : (!(NameKind.free == NameKind.free)) = false := by decide
  rw [e2, ZCf] at this
  revert this
  split
  ·intro _; left; assumption
  ·intro _; right; assumption
  ·intro z; exact absurd z (by decide)
 ·have hm : (x, k) ∈ FN.zip fr := List.mem_iff_getElem?.mpr ⟨j, by rw [List.getElem?_zip_eq_some]; exact ⟨hx, hk⟩⟩
  obtain ⟨g1, g2⟩ := h6 _ hm
  dsimp only at g1 g2
  constructor
  ·revert g1
   cases X.N[k]? with
   | none => intro z; exact absurd z ZAQ
   | some z => intro e; rw [show z = x by simpa using e]
  ·revert g2
   split
   ·intro _; assumption
   ·intro z; exact absurd z (by decide)
theorem YkO.of {K : Frag} {x : Str} {st : Stmt} {f : Addr} {oc : Value} {od an : Option Addr} {kV doc pm cd ct : Value} {sl : Array (Option Value)} (a : nsIn K mainGlobals x = some (some (.ref f)))
 (l : K.lookup f = some ⟨oc, od, .func (fnOf x x (YkS st) (YkQ st) (YkL st) .none kV doc pm an cd ct), sl⟩) (c : PySem.W.codeIn K cd x = true) (k : PySem.W.keepIn K (.ref f) = true) : YkO K x st := ⟨f, oc, od, an, kV, doc, pm, cd, ct, sl, a, l, c, k⟩
def YmW : List P -> Option (List Bool)
 | [] => some []
 | .bl b :: r => (YmW r).map (b :: ·)
 | _ :: _ => none
section
variable {K : Frag} {as : List Addr} {H : Hp}
theorem Ycy : ∀ {ps : List P} {vs : List V} {us : List Value} {bs : List Bool}, Dens K as H vs ps -> Vals vs us -> YmW ps = some bs -> LSm.BoolsAre us bs
 | [], _, _, _, .nil, .nil, e => by cases e; exact .nil
 | .bl b :: r, _, _, bs, .cons d ds, .cons rv rs, e => by
  cases d
  cases rv
  have e' : (YmW r).map (b :: ·) = some bs := e
  cases q : YmW r with
  | none => rw [q] at e'; cases e'
  | some cs => rw [q] at e'; cases e'; exact .cons b (Ycy ds rs q)
end
section
variable {prog : Program} {w : World} {A : Around} {E : VSP} {s : Shared} {l : Addr} {vs : List Value} {bs : List Bool} {Q : VSP}
theorem YdZ {h' : Heap} {o : Obj} (hk : ∀ b x, b ∉ [s.heap.objs.size] -> (s.heap.push o).get? b = some x -> h'.get? b = some x) (b : Addr) (x : Obj) (e : s.heap.get? b = some x) : h'.get? b = some x := by
 refine hk b x (fun hm => ?_) (ZAB _ e)
 rw [ZAX.mp hm] at e
 exact absurd (ZAD e) (ZA5 _)
theorem Yfw (hh : A.handled = none) (hl : s.heap.IsList l vs.toArray) (hb : LSm.BoolsAre vs bs)
 (h : ∀ h' tk, (∀ b x, s.heap.get? b = some x -> h'.get? b = some x) -> Q (.bool (bs.all id)) { s with heap := h', toks := tk }) : wpAny (model prog w) A (call (.builtin "all") [.ref l]) Q E s := by
 have hlt : l < s.heap.objs.size := let ⟨_, e, _⟩ := hl; ZAD e
 have W := Walks.list (prog := prog) (w := w) (A := A.in1) hh s.heap.objs.size l (ZAL hlt) vs.toArray
 refine call_all_walk (ZBc hl ⟨_, _, _, _, _, _, (fun i => (bs[i]?).getD true), rfl, W, ⟨⟨_, ZAF _ rfl, rfl, rfl⟩, hl.push _⟩, ?_, ?_⟩)
 ·intro i v s' Q' E' hP hQ
  obtain ⟨b, e, rfl⟩ := hb.get i v (by simpa using hP)
  dsimp only at hQ
  rw [e] at hQ
  exact ZBb hQ
 ·intro h' tk hk
  have e : ((List.range vs.toArray.size).all fun i => (bs[i]?).getD true) = bs.all id := by rw [ZAZ, hb.length, LSm.range_all]
  rw [e]
  exact h h' tk fun b x => YdZ hk b x
end
section
variable {X : Cx} {e : Expr} {m : MA} {p pos : Pos}
theorem YeP (hc : X.calm = true) : YlD X (.builtin "all") (fun xs H Q => ∃ a vs bs, xs = [.ref a] /\ SqL X.K H a vs /\ (∀ us, Vals vs us -> LSm.BoolsAre us bs) /\ Q (.bl (bs.all id)) H) := by
 intro pins s σ H xs us Q I r ⟨a, vs, bs, e, sq, hb, q⟩
 subst e
 obtain ⟨u, rfl, rx⟩ := vals1 r
 cases rx
 obtain ⟨its, rv, pl, _⟩ := I.list sq
 exact Yfw (I.ok.hd hc) pl.isList (hb _ rv) fun h' tk hk => ⟨.bl _, H, I.kept hk, rfl, q⟩
def Yns (m : MA) : ME := fun ρ st => (m ρ st).bind fun ps st1 => match YmW ps with
 | some bs => .ok (.bl (bs.all id)) st1
 | none => .bad
theorem YdS (hc : X.calm = true) (hg : Gl X "all") (hm : X.mg "all" = none) (hv : bootBuiltins "all" = some (.builtin "all")) (h : JL X e m)
 (he : starEach [e] X.env = (false, eval e X.env) :: starEach [] X.env := by rfl) : JE X (.Call (.Name "all" p) [e] [] pos) (Yns m) :=
 PE.imp (Yaf (YeP hc) hg hm hv (Wq h VT he) (by decide) (by decide) he) fun σ H Q ⟨as, ρ, st, en, rp, h⟩ => ⟨as, ρ, st, en, rp, YkV.bindL h fun ps st1 as1 H1 l vs x rp1 hl fr d h1 => by
  cases q : YmW ps with
  | none => rw [q] at h1; exact h1.elim
  | some bs => rw [q] at h1; exact ⟨l, vs, bs, rfl, .of hl, fun us r => Ycy d r q, h1 as1 H1 _ Ext.refl rp1 .bl⟩⟩
end
section
variable {prog : Program} {w : World} {A : Around} {E : VSP} {s : Shared}
theorem Yde {J t : Addr} {i : Nat} {its : Array Value} {x : Value} {Q : VSP} (hJ : s.heap.IsTupleIter J t i) (ht : s.heap.IsTuple t its) (hx : its[i]? = some x)
 (hQ : ∀ h', h'.IsTupleIter J t (i + 1) -> Heap.SameBut J s.heap h' -> Q x { s with heap := h' }) : wpAny (model prog w) A (Builtin.SmallTypes.nextOf (.ref J)) Q E s := by
 obtain ⟨oJ, gJ, cJ, dJ⟩ := id hJ
 obtain ⟨oT, gT, _, nT, dT⟩ := ht
 unfold Builtin.SmallTypes.nextOf
 have nn : ¬ ((Value.ref t == Value.none) = true) := ZAQ
 refine ZAA (wpAny_callSpecial?_slot (name := Str.ofString "__next__") hJ.typeIs F.slot_tuple_iterator_next (ZAl F.slot_tuple_iterator_next hJ.typeIs F.entry_tuple_iterator_next ?_ (F.args_tuple_iterator_next_1 _)))
 show wpAny _ _ (field (.ref J) 0 >>= _) _ _ s
 refine ZAA (ZAg gJ dJ (x := .ref t) rfl ?_)
 show wpAny _ _ (if (Value.ref t == Value.none) = true then _ else field (.ref J) 1 >>= _) _ _ s
 rw [ZAJ nn]
 refine ZAA (ZAg gJ dJ (x := .int i 0) rfl ?_)
 show wpAny _ _ (seqItems? (.ref t) >>= _) _ _ s
 refine ZAA (ZBC gT dT ?_)
 simp only [Int.toNat_natCast, hx]
 refine wpAny_bind (wpAny_setField gJ dJ (by simp) (wpAny_pure ⟨x, rfl, wpAny_pure ?_⟩))
 refine hQ _ ⟨_, ZAx _ gJ (Obj.isFreed_of_fields (Obj.data_mapFields dJ _)), (Obj.cls_mapFields ..).trans cJ, ?_⟩ (Heap.SameBut.update ..)
 rw [Obj.data_mapFields dJ]
 simp [rawInt]
theorem Yd3 {J t : Addr} {i : Nat} {its : Array Value} {Q : VSP} (hh : A.handled = none) (hJ : s.heap.IsTupleIter J t i) (ht : s.heap.IsTuple t its) (hx : its[i]? = none)
 (hE : ∀ h' e, Heap.ExtBut J s.heap h' -> (∃ o, h'.get? e = some o /\ o.cls = .type "StopIteration") -> E (.ref e) { s with heap := h' }) : wpAny (model prog w) A (Builtin.SmallTypes.nextOf (.ref J)) Q E s := by
 obtain ⟨oJ, gJ, cJ, dJ⟩ := id hJ
 obtain ⟨oT, gT, _, nT, dT⟩ := ht
 unfold Builtin.SmallTypes.nextOf
 have nn : ¬ ((Value.ref t == Value.none) = true) := ZAQ
 refine ZAA (wpAny_callSpecial?_slot (name := Str.ofString "__next__") hJ.typeIs F.slot_tuple_iterator_next (ZAl F.slot_tuple_iterator_next hJ.typeIs F.entry_tuple_iterator_next ?_ (F.args_tuple_iterator_next_1 _)))
 show wpAny _ _ (field (.ref J) 0 >>= _) _ _ s
 refine ZAA (ZAg gJ dJ (x := .ref t) rfl ?_)
 show wpAny _ _ (if (Value.ref t == Value.none) = true then _ else field (.ref J) 1 >>= _) _ _ s
 rw [ZAJ nn]
 refine ZAA (ZAg gJ dJ (x := .int i 0) rfl ?_)
 show wpAny _ _ (seqItems? (.ref t) >>= _) _ _ s
 refine ZAA (ZBC gT dT ?_)
 simp only [Int.toNat_natCast, hx]
 refine wpAny_bind (wpAny_rule (wpAny_bind (wpAny_setField gJ dJ (by simp) ?_)))
 have kk : Heap.ExtBut J s.heap (s.heap.update J (Obj.mapFields fun x => x.setIfInBounds 0 Value.none)) := (Heap.SameBut.update ..).extBut
 exact VR (A := A.in1) (s := { s with heap := s.heap.update J (Obj.mapFields fun x => x.setIfInBounds 0 Value.none) }) hh kk fun h' x k o => hE h' x k o
theorem WM (hh : A.handled = none) (J t : Addr) (hne : t ≠ J) (its : Array Value) : Draws prog w A J [J, t] its.size (fun i v => its[i]? = some v) (fun i h => h.IsTupleIter J t i /\ h.IsTuple t its) where
 live := fun _ _ st => let ⟨o, ho, _⟩ := st.1; ⟨o, ho⟩
 frame := fun _ _ _ st hk => ⟨let ⟨o, e, r⟩ := st.1; ⟨o, hk J (by simp) o e, r⟩, let ⟨o, e, r⟩ := st.2; ⟨o, hk t (by simp) o e, r⟩⟩
 item := fun i s Q E hi st hQ => Yde st.1 st.2 (x := its[i]) (by simp [hi]) fun h' a b => hQ _ h' s.toks (by simp [hi]) ⟨a, st.2.extBut b.extBut hne⟩ b
 done := fun s Q E st hE => Yd3 hh st.1 st.2 (by simp) hE
end
structure Ynw (P' : Program) (w : World) (K : Frag) (it : Addr) (tn0 : Nat -> Heap -> Prop) (go : Nat -> Hp -> V -> Prop) (stop : Nat -> Hp -> Prop) : Prop where
 obj : ∀ i h, tn0 i h -> ∃ o, h.get? it = some o /\ ∀ v, o.data ≠ .cell v
 keep : ∀ i h h', tn0 i h -> (∀ o, h.get? it = some o -> h'.get? it = some o) -> tn0 i h'
 uniq : ∀ (X : Cx), X.K = K -> ∀ i pins s σ H x y, Inv X pins σ H s -> go i H x -> go i H y -> x = y
 item : ∀ (X : Cx), X.prog = P' -> X.w = w -> X.K = K -> X.calm = true -> ∀ i pins s σ H x, Inv X pins σ H s -> YlA X pins H it -> tn0 i s.heap -> go i H x ->
  ∃ fp n Pv St, Draws P' w X.A.in1 it fp n Pv St /\ St i s.heap /\ i < n /\ (∀ e, YlA X pins H e -> e ≠ it -> e ∉ fp) /\ (∀ v, Pv i v -> RelV x v) /\ ∀ h', St (i + 1) h' -> tn0 (i + 1) h'
 done : ∀ (X : Cx), X.prog = P' -> X.w = w -> X.K = K -> X.calm = true -> ∀ i pins s σ H, Inv X pins σ H s -> YlA X pins H it -> tn0 i s.heap -> stop i H ->
  ∃ fp n Pv St, Draws P' w X.A.in1 it fp n Pv St /\ St n s.heap
open PySem.AutoSeq1 (wpAny_loadPart')
theorem Yaq {X : Cx} {pins : LAO} {σ : St} {H : Hp} {s : Shared} {a b : Addr} {xs : List V} (I : Inv X pins σ H s) (h : SqT X.K H a xs) (f : YlA X pins H b) : a ≠ b := by
 obtain ⟨f0, f1, f2, f3, f4, f5⟩ := f
 rintro rfl
 rcases h with (h | ⟨o, h⟩) | ⟨o, its, n, hk, _⟩
 ·rw [f0] at h; cases h
 ·rw [f0] at h; cases h
 ·have hb := I.ok.mod.kin a o hk
  rcases f3 with z | z
  ·exact I.ok.noex a o hb z
  ·exact absurd (ZAD (I.ok.bs a o hb).1) (ZCc.mpr z)
theorem YiA {P' : Program} {w : World} {K : Frag} {it l : Addr} : Ynw P' w K it (fun i h => h.IsTupleIter it l i) (fun i H x => ∃ xs, SqT K H l xs /\ xs[i]? = some x) (fun i H => ∃ xs, SqT K H l xs /\ i = xs.length) where
 obj := fun i h ⟨o, e, c, d⟩ => ⟨o, e, fun v z => by rw [d] at z; cases z⟩
 keep := fun i h h' ⟨o, e, r⟩ k => ⟨o, k o e, r⟩
 uniq := fun X hK i pins s σ H x y I ⟨xs, h1, h2⟩ ⟨ys, h3, h4⟩ => by
  subst hK
  rw [I.tuple_inj h1 h3, h4] at h2
  exact (Option.some.inj h2).symm
 item := fun X hP hw hK hc i pins s σ H x I f st ⟨xs, h1, h2⟩ => by
  show 184
  obtain ⟨its, rv, pt, _⟩ := I.tuple h1
  show 190
  have hi := (ZAG.mp h2).1
  have D := WM (prog := X.prog) (w := X.w) (A := X.A.in1) (I.ok.hd hc) it l (Yaq I h1 f) its.toArray
  refine ⟨_, _, _, _, D, ⟨st, pt⟩, by simp; omega, fun e fe hne hm => ?_, fun v hv => ?_, fun h' q => q.1⟩
  ·show 260
   rcases hm with z | z
   ·exact hne z
   ·exact Yaq I h1 fe z.symm
  ·obtain ⟨u, e1, e2⟩ := rv.get h2
   have : its[i]? = some v := by simpa using hv
   rw [this] at e1
   cases e1
   exact e2
 done := fun X hP hw hK hc i pins s σ H I f st ⟨xs, h1, h2⟩ => by
  show 184
  obtain ⟨its, rv, pt, _⟩ := I.tuple h1
  show 190
  have D := WM (prog := X.prog) (w := X.w) (A := X.A.in1) (I.ok.hd hc) it l (Yaq I h1 f) its.toArray
  refine ⟨_, _, _, _, D, ?_, pt⟩
  show 68
  exact st
theorem YiV {P' : Program} {w : World} {K : Frag} {it : Addr} {z : Str} {t : Tok} : Ynw P' w K it (fun i h => h.IsStrIter it (strIterType z) z t i) (fun i _ x => ∃ c, z.cps[i]? = some c /\ x = .str ⟨#[c]⟩) (fun i _ => i = z.cps.size) where
 obj := fun i h ⟨o, e, c, d⟩ => ⟨o, e, fun v z => by rw [d] at z; cases z⟩
 keep := fun i h h' ⟨o, e, r⟩ k => ⟨o, k o e, r⟩
 uniq := fun X hK i pins s σ H x y I ⟨c, h1, h2⟩ ⟨d, h3, h4⟩ => by
  rw [h1] at h3
  cases h3
  rw [h2, h4]
 item := fun X hP hw hK hc i pins s σ H x I f st ⟨c, h1, h2⟩ => by
  show 184
  have hi : i < z.cps.size := (ZBF.mp h1).1
  have rel : ∀ v, (∃ c u, z.cps[i]? = some c /\ v = .str ⟨#[c]⟩ u) -> RelV x v := fun v ⟨d, u, e1, e2⟩ => by
   rw [h1] at e1
   cases e1
   rw [h2, e2]
   exact ⟨u, rfl⟩
  unfold strIterType at st ⊢
  split at st
  ·rename_i ha
   rw [ZAI ha]
   have D := Draws.strAscii (prog := X.prog) (w := X.w) (A := X.A.in1) (I.ok.hd hc) it z t
   exact ⟨_, _, _, _, D, st, hi, fun e fe hne hm => hne (by simpa using hm), rel, fun h' q => q⟩
  ·rename_i ha
   rw [ZAJ ha]
   have D := Draws.strWide (prog := X.prog) (w := X.w) (A := X.A.in1) (I.ok.hd hc) it z t
   exact ⟨_, _, _, _, D, st, hi, fun e fe hne hm => hne (by simpa using hm), rel, fun h' q => q⟩
 done := fun X hP hw hK hc i pins s σ H I f st h1 => by
  show 184
  subst h1
  unfold strIterType at st
  split at st
  ·have D := Draws.strAscii (prog := X.prog) (w := X.w) (A := X.A.in1) (I.ok.hd hc) it z t
   exact ⟨_, _, _, _, D, st⟩
  ·have D := Draws.strWide (prog := X.prog) (w := X.w) (A := X.A.in1) (I.ok.hd hc) it z t
   exact ⟨_, _, _, _, D, st⟩
theorem YiU {P' : Program} {w : World} {K : Frag} {it l : Addr} : Ynw P' w K it (fun i h => h.IsListIter it l i) (fun i H x => ∃ xs, SqL K H l xs /\ xs[i]? = some x) (fun i H => ∃ xs, SqL K H l xs /\ i = xs.length) where
 obj := fun i h ⟨o, e, c, d⟩ => ⟨o, e, fun v z => by rw [d] at z; cases z⟩
 keep := fun i h h' ⟨o, e, r⟩ k => ⟨o, k o e, r⟩
 uniq := fun X hK i pins s σ H x y I ⟨xs, h1, h2⟩ ⟨ys, h3, h4⟩ => by
  subst hK
  rw [I.list_inj h1 h3, h4] at h2
  exact (Option.some.inj h2).symm
 item := fun X hP hw hK hc i pins s σ H x I f st ⟨xs, h1, h2⟩ => by
  show 184
  obtain ⟨its, rv, pt, _⟩ := I.list h1
  show 190
  have hi := (ZAG.mp h2).1
  have D := Draws.list (prog := X.prog) (w := X.w) (A := X.A.in1) (I.ok.hd hc) it l (YI I h1 f) its.toArray
  refine ⟨_, _, _, _, D, ⟨st, pt.isList⟩, by simp; omega, fun e fe hne hm => ?_, fun v hv => ?_, fun h' q => q.1⟩
  ·show 260
   rcases hm with z | z
   ·exact hne z
   ·exact YI I h1 fe z.symm
  ·obtain ⟨u, e1, e2⟩ := rv.get h2
   have : its[i]? = some v := by simpa using hv
   rw [this] at e1
   cases e1
   exact e2
 done := fun X hP hw hK hc i pins s σ H I f st ⟨xs, h1, h2⟩ => by
  show 184
  obtain ⟨its, rv, pt, _⟩ := I.list h1
  show 190
  have D := Draws.list (prog := X.prog) (w := X.w) (A := X.A.in1) (I.ok.hd hc) it l (YI I h1 f) its.toArray
  refine ⟨_, _, _, _, D, ?_, pt.isList⟩
  show 68
  exact st
def Ymh (z : Str) : List P := z.cps.toList.map Ym4
section
variable {K : Frag} {as : List Addr} {H : Hp}
end
section
variable {X : Cx} {elts : List Expr} {x1 : Nat} {tp p pos : Pos} {e : Expr} {me : ME}
end
def Yl0 : G2 := fun p q st => match p, q with
 | .int i, .int j => if (small64 i || small64 j) = true then okP (.int (i * j)) st else none
 | .str x, .int k => if -1000000 <= k /\ k <= 1000000 /\ x.length <= 1000000 /\ x.length * k.toNat <= cap then okP (.str (Txt.mul x k)) st else none
 | _, _ => none
theorem YfP {x : Str} {k : Int} (h1 : -1000000 <= k) (h2 : k <= 1000000) (h3 : x.length <= 1000000) (h4 : x.length * k.toNat <= cap) : MulOk x k := by
 refine ⟨?_, fun h _ => ?_, fun h _ => ?_⟩
 ·rw [ZAM (by omega), ZAM (by omega)]; rfl
 ·have a : (9223372036854 : Int) <= (2 ^ 63 - 1) / k := by
   refine Int.le_ediv_of_mul_le (by omega) ?_
   have : (9223372036854 : Int) * k <= 9223372036854 * 1000000 := Int.mul_le_mul_of_nonneg_left h2 (by decide)
   omega
  omega
 ·unfold Builtin.Str.tooLong
  rw [ZAM]
  have : cap <= sizeLine := Ys
  omega
variable {X : Cx}
theorem Wh : OpR X (binaryOp .Mult) (rM X Yl0) := opM fun pins s σ H x y v u Q as st p q I rx ry rp d1 d2 h => by
 cases d1 with
 | int =>
  cases d2 with
  | int => exact Yjm pins s σ H _ _ v u Q I rx ry ⟨as, st, _, _, rp, .int, .int, h⟩
  | _ => show 152
 | str =>
  rename_i x
  cases d2 with
  | int =>
   rename_i k
   have h' : Yk4 X as H (if -1000000 <= k /\ k <= 1000000 /\ x.length <= 1000000 /\ x.length * k.toNat <= cap then okP (.str (Txt.mul x k)) st else none) Q := h
   by_cases z : -1000000 <= k /\ k <= 1000000 /\ x.length <= 1000000 /\ x.length * k.toNat <= cap
   ·rw [ZAI z] at h'
    show 30
    exact SB.mul (YfP z.1 z.2.1 z.2.2.1 z.2.2.2) fun t'' k' => ⟨.str _, H, I.tok k', ⟨t'', rfl⟩, h' as H _ Ext.refl rp .str⟩
   ·show 208
  | _ => show 152
 | _ => show 152
section
variable {X : Cx}
end
def YnW (p : P) (st : YkJ) : R P := match p with
 | .str x => if x.length <= cap then .ok (.str x) st else .bad
 | .int i => if i.natAbs.log2 < 1920 then .ok (.str (toString i : String)) st else .bad
 | _ => .bad
def YnT (me : ME) : ME := fun ρ st => (me ρ st).bind YnW
def Ym3 : Str -> ME := fun acc _ st => if acc.length <= cap then .ok (.str acc) st else .bad
def Yno (acc : Str) (p : P) (k : Str -> R P) : R P := match p with
 | .str y => if (acc ++ y).length <= cap then k (acc ++ y) else .bad
 | _ => .bad
def Ymu (me : ME) (mp : Str -> ME) : Str -> ME := fun acc ρ st => (me ρ st).bind fun p st1 => Yno acc p fun z => mp z ρ st1
def eFs (mp : Str -> ME) : ME := mp Str.empty
section
variable {X : Cx} {e v1 v2 : Expr} {vs : List Expr} {me : ME} {mp : Str -> ME} {pos : Pos}
def JP (X : Cx) (vs : List Expr) (mp : Str -> ME) : Prop := ∀ acc pins s σ H Q, Inv X pins σ H s -> tE X (mp acc) σ H Q -> wpAny (model X.prog X.w) X.A (joinParts acc (evalEach vs X.env)) (EP X pins σ Q) X.xe s
theorem Yjp (h : JE X e me) : JE X (.FormattedValue e (-1) none pos) (YnT me) := by
 intro pins s σ H Q I ⟨as, ρ, st, en, rp, h1⟩
 refine FormattedValue_plain ?_
 refine thn (h pins s σ H (fun v H1 => (∃ y, v = .str y /\ y.length <= cap /\ Q (.str y) H1) \/ ∃ i : Int, v = .int i /\ i.natAbs.log2 < 1920 /\ Q (.str (toString i : String)) H1) I ⟨as, ρ, st, en, rp, ?_⟩) fun u s1 ⟨x, H1, I1, r1, q1⟩ => ?_
 ·unfold YnT at h1
  refine YkV.bindE h1 fun p st1 as1 H1 v x rp1 d h2 => ?_
  cases d with
  | @str y =>
   have h3 : YkV X as1 H1 ρ (if y.length <= cap then .ok (.str y) st1 else .bad) Q := h2
   by_cases z : y.length <= cap
   ·rw [ZAI z] at h3
    exact .inl ⟨y, rfl, z, h3 as1 H1 _ Ext.refl rp1 .str⟩
   ·rw [ZAJ z] at h3; exact h3.elim
  | @int i =>
   have h3 : YkV X as1 H1 ρ (if i.natAbs.log2 < 1920 then .ok (.str (toString i : String)) st1 else .bad) Q := h2
   by_cases z : i.natAbs.log2 < 1920
   ·rw [ZAI z] at h3
    exact .inr ⟨i, rfl, z, h3 as1 H1 _ Ext.refl rp1 .str⟩
   ·rw [ZAJ z] at h3; exact h3.elim
  | _ => exact h2.elim
 ·rcases q1 with ⟨y, rfl, hl, q⟩ | ⟨i, rfl, hl, q⟩
  ·show 225
   exact formatField_str (fun t' tk => ⟨.str y, H1, I1.tok _, ⟨_, rfl⟩, q⟩) (ZAH hl Ys)
  ·show 225
   exact formatField_int_small hl ⟨.str _, H1, I1.tok _, ⟨_, rfl⟩, q⟩
theorem YiD : JP X [] Ym3 := by
 intro acc pins s σ H Q I ⟨as, ρ, st, en, rp, h1⟩
 unfold Ym3 at h1
 by_cases z : acc.length <= cap
 ·rw [ZAI z] at h1
  exact joinParts_nil ⟨.str acc, H, I.tok _, ⟨_, rfl⟩, h1 as H _ Ext.refl rp .str⟩ (ZAH z Ys)
 ·rw [ZAJ z] at h1; exact h1.elim
theorem YdC (h : JE X e me) (hr : JP X vs mp) : JP X (e :: vs) (Ymu me mp) := by
 intro acc pins s σ H Q I ⟨as, ρ, st, en, rp, h1⟩
 show wpAny _ _ (joinParts acc (eval e X.env :: evalEach vs X.env)) _ _ s
 refine joinParts_cons ?_
 refine thn (h pins s σ H (fun v H1 => ∃ y, v = .str y /\ (acc ++ y).length <= cap /\ tE X (mp (acc ++ y)) σ H1 Q) I ⟨as, ρ, st, en, rp, ?_⟩) fun u s1 ⟨x, H1, I1, r1, q1⟩ => ?_
 ·unfold Ymu at h1
  refine YkV.bindE h1 fun p st1 as1 H1 v x rp1 d h2 => ?_
  cases d with
  | @str y =>
   have h3 : YkV X as1 H1 ρ (if (acc ++ y).length <= cap then mp (acc ++ y) ρ st1 else .bad) Q := h2
   by_cases z : (acc ++ y).length <= cap
   ·rw [ZAI z] at h3
    exact ⟨y, rfl, z, as1, ρ, st1, en.ext x, rp1, h3⟩
   ·rw [ZAJ z] at h3; exact h3.elim
  | _ => exact h2.elim
 ·obtain ⟨y, rfl, hl, q⟩ := q1
  show 225
  exact ⟨ZAH hl Ys, hr _ pins s1 σ H1 Q I1 q⟩
theorem YjY (h : JP X (v1 :: v2 :: vs) mp) : JE X (.JoinedStr (v1 :: v2 :: vs) pos) (eFs mp) := by
 intro pins s σ H Q I t
 exact JoinedStr_many (h Str.empty pins s σ H Q I t)
end
def Yoz : GM := fun p ps st => match p, ps with
 | .str x, [] => okP (.bl (Txt.islower x)) st
 | _, _ => none
def Yn3 : GM := fun p ps st => match p, ps with
 | .str x, [.str y] => okP (.bl (Txt.startswith x y)) st
 | _, _ => none
def Yme : GM := fun p ps st => match p, ps with
 | .str x, [.str y] => okP (.int (Txt.count x y)) st
 | _, _ => none
def Ymt : GM := fun p ps st => match p, ps with
 | .str x, [.str y] => (match Builtin.Str.occurrences x y 0 x.length 1 with
  | i :: _ => okP (.int i) st
  | [] => none)
 | _, _ => none
section
variable {X : Cx}
theorem Ybb : MtR X "str.count" (rMM X Yme) := mM fun pins s σ H x xs v us Q as st p ps I rx rv rp d1 d2 h => by
 cases d1 with
 | @str z =>
  cases d2 with
  | nil => show 152
  | @cons v1 p1 vs1 ps1 a b =>
   cases b with
   | cons c d => cases a <;> exact h.elim
   | nil =>
    cases a with
    | @str y =>
     show 181
     obtain ⟨u, rfl⟩ : ∃ u, us = [.str y u] := by
      cases rv with
      | cons r1 r2 =>
       cases r2
       obtain ⟨u, rfl⟩ := r1
       exact ⟨u, rfl⟩
     exact SC.count ⟨.int _, H, I.tok _, ⟨_, rfl⟩, h as H _ Ext.refl rp .int⟩
    | _ => show 152
 | _ => show 152
theorem Ya9 : MtR X "str.index" (rMM X Ymt) := mM fun pins s σ H x xs v us Q as st p ps I rx rv rp d1 d2 h => by
 cases d1 with
 | @str z =>
  cases d2 with
  | nil => show 152
  | @cons v1 p1 vs1 ps1 a b =>
   cases b with
   | cons c d => cases a <;> exact h.elim
   | nil =>
    cases a with
    | @str y =>
     show 181
     obtain ⟨u, rfl⟩ : ∃ u, us = [.str y u] := by
      cases rv with
      | cons r1 r2 =>
       cases r2
       obtain ⟨u, rfl⟩ := r1
       exact ⟨u, rfl⟩
     have h' : Yk4 X as H (match Builtin.Str.occurrences z y 0 z.length 1 with | i :: _ => okP (.int i) st | [] => none) Q := h
     cases ho : Builtin.Str.occurrences z y 0 z.length 1 with
     | nil => rw [ho] at h'; exact h'.elim
     | cons i r =>
      rw [ho] at h'
      exact SC.index ho ⟨.int _, H, I.tok _, ⟨_, rfl⟩, h' as H _ Ext.refl rp .int⟩
    | _ => show 152
 | _ => show 152
end
structure Yox (z TI TO i1 i2 : Addr) (f1 f2 : List Addr) : Prop where
 ap : ZAp z TI TO i1 i2
 z1 : z ∉ f1
 t1 : TO ∉ f1
 x1 : i2 ∉ f1
 z2 : z ∉ f2
 t2 : TO ∉ f2
 x2 : i1 ∉ f2
section
variable {prog : Program} {w : World} {A : Around} {E : VSP} {s : Shared} {z TI TO i1 i2 : Addr} {f1 f2 : List Addr} {n1 n2 k : Nat} {P1 P2 : Nat -> Value -> Prop} {S1 S2 : Nat -> Heap -> Prop} {a b : Value}
theorem Zn {it : Addr} {fp : List Addr} {n : Nat} {Pv : Nat -> Value -> Prop} {St' : Nat -> Heap -> Prop} (D : Draws prog w A it fp n Pv St') {i : Nat} {c : Addr} {h h' : Heap} (st : St' i h) (x : Heap.ExtBut c h h') (hc : c ∉ fp) : St' i h' :=
 D.frame i h h' st fun b hb o e => x b o (fun q => hc (q ▸ hb)) e
theorem YeW {Q : VSP} (D1 : Draws prog w A i1 f1 n1 P1 S1) (D2 : Draws prog w A i2 f2 n2 P2 S2) (D : Yox z TI TO i1 i2 f1 f2)
 (hz : IsZip s.heap z TI TO .none) (hTI : IsPair s.heap TI (.ref i1) (.ref i2)) (hTO : IsPair s.heap TO a b) (h1 : S1 k s.heap) (h2 : S2 k s.heap) (k1 : k < n1) (k2 : k < n2)
 (hQ : ∀ x y h' tk, P1 k x -> P2 k y -> IsZip h' z TI TO (rawInt s.heap.objs.size) -> IsPair h' TO x y -> S1 (k + 1) h' -> S2 (k + 1) h' -> IsPair h' s.heap.objs.size x y -> h'.objs.size = s.heap.objs.size + 1 ->
  (∀ c o, c ≠ z -> c ≠ TO -> c ≠ i1 -> c ≠ i2 -> s.heap.get? c = some o -> h'.get? c = some o) -> Q (.ref s.heap.objs.size) { s with heap := h', toks := tk }) :
 wpAny (model prog w) A (Builtin.«zip.__next__» ⟨[.ref z], []⟩) (fun fin s' => ∃ v, fin = .done (.ret v) /\ Q v s') E s := by
 show wpAny _ _ (field (.ref z) 2 >>= _) _ _ _
 refine ZAA (ZAg hz rfl (x := .bool false) rfl ?_)
 show wpAny _ _ (field (.ref z) 3 >>= _) _ _ _
 refine ZAA (ZAg hz rfl (x := .ref TI) rfl (ZAA (ZBC hTI rfl ?_)))
 show wpAny _ _ (Builtin.SmallTypes.ownedTupleIsFree (.ref z) >>= _) _ _ _
 show 176
 unfold Builtin.SmallTypes.ownedTupleIsFree
 refine ZAA (ZAg hz rfl (x := .none) rfl (ZAC ?_))
 simp only [if_true]
 refine wpAny_bind (wpAny_rule (wpAny_bind (wpAny_field hz rfl (x := .ref TO) rfl (wpAny_bind (wpAny_setField_rec hz (by simp) fun g1 hz1 e1 => ?_)))))
 replace hz1 : IsZip g1 z TI TO .ellipsis := hz1
 show 176
 simp only [List.zipIdx_cons, List.zipIdx_nil, List.forIn_cons, List.forIn_nil]
 show 238
 show wpAny _ _ (Builtin.SmallTypes.nextOf (.ref i1) >>= _) _ _ _
 refine ZAA (D1.item k { s with heap := g1 } _ _ k1 (Zn D1 h1 e1.extBut D.z1) fun x g2 tk1 px s1 e2 => ZAC ?_)
 have to2 : IsPair g2 TO a b := e2.extBut _ _ D.ap.TOi1 (e1.extBut _ _ D.ap.TOz hTO)
 refine ZAA (ZBC to2 rfl (ZAA (ZBy to2 fun g3 to3 e3 => ?_)))
 replace to3 : IsPair g3 TO x b := to3
 refine ZAA (wpAny_letGo (ZAC ?_))
 show 238
 show wpAny _ _ (Builtin.SmallTypes.nextOf (.ref i2) >>= _) _ _ _
 refine ZAA (D2.item k { s with heap := g3, toks := tk1 } _ _ k2 (Zn D2 (Zn D2 (Zn D2 h2 e1.extBut D.z2) e2.extBut D.x2) e3.extBut D.t2) fun y g4 tk2 py s2 e4 => ZAC ?_)
 have to4 : IsPair g4 TO x b := e4.extBut _ _ D.ap.TOi2 to3
 refine ZAA (ZBC to4 rfl (ZAA (ZBy to4 fun g5 to5 e5 => ?_)))
 replace to5 : IsPair g5 TO x y := to5
 refine ZAA (wpAny_letGo (ZAC (ZAC ?_)))
 refine ZAA (ZBC to5 rfl (ZAA (wpAny_newTuple ?_)))
 have sz : g5.objs.size = s.heap.objs.size := by rw [e5.1, e4.1, e3.1, e2.1, e1.1]
 have hz5 : IsZip g5 z TI TO .ellipsis := e5.extBut _ _ D.ap.TOz.symm (e4.extBut _ _ D.ap.i2z.symm (e3.extBut _ _ D.ap.TOz.symm (e2.extBut _ _ D.ap.i1z.symm hz1)))
 have kp : ∀ c o, c ≠ z -> c ≠ TO -> c ≠ i1 -> c ≠ i2 -> s.heap.get? c = some o -> g5.get? c = some o := fun c o c1 c2 c3 c4 e =>
  e5.extBut _ _ c2 (e4.extBut _ _ c4 (e3.extBut _ _ c2 (e2.extBut _ _ c3 (e1.extBut _ _ c1 e))))
 have s15 : S1 (k + 1) g5 := Zn D1 (Zn D1 (Zn D1 s1 e3.extBut D.t1) e4.extBut D.x1) e5.extBut D.t1
 have s25 : S2 (k + 1) g5 := Zn D2 s2 e5.extBut D.t2
 have lz : z < g5.objs.size := ZAD hz5
 show wpAny _ _ (Builtin.SmallTypes.ownedTupleHandOut (.ref z) (.ref g5.objs.size) >>= _) _ _ _
 show 176
 unfold Builtin.SmallTypes.ownedTupleHandOut
 have hz6 : IsZip (g5.push { cls := .type "tuple", data := .seq #[x, y] }) z TI TO .ellipsis := ZAB _ hz5
 refine wpAny_bind (wpAny_setField_rec hz6 (by simp) fun g7 hz7 e7 => ?_)
 replace hz7 : IsZip g7 z TI TO (rawInt g5.objs.size) := hz7
 refine wpAny_setField_rec hz7 (by simp) fun g8 hz8 e8 => ?_
 replace hz8 : IsZip g8 z TI TO (rawInt g5.objs.size) := hz8
 have up : ∀ c o, c ≠ z -> g5.get? c = some o -> g8.get? c = some o := fun c o c1 e => e8.extBut _ _ c1 (e7.extBut _ _ c1 (ZAB _ e))
 have t8 : IsPair g8 g5.objs.size x y := e8.extBut _ _ (ZBE lz) (e7.extBut _ _ (ZBE lz) (ZAF _ rfl))
 have z8 : g8.objs.size = g5.objs.size + 1 := by rw [e8.1, e7.1, ZAa]
 rw [sz] at hz8 t8 z8
 refine ZAC ⟨_, rfl, ?_⟩
 show Q (.ref g5.objs.size) _
 rw [sz]
 exact hQ x y g8 tk2 px py hz8 (up _ _ D.ap.TOz to5) (D1.frame _ _ _ s15 fun c hc o e => up c o (fun q => D.z1 (q ▸ hc)) e) (D2.frame _ _ _ s25 fun c hc o e => up c o (fun q => D.z2 (q ▸ hc)) e) t8 z8 fun c o c1 c2 c3 c4 e => up c o c1 (kp c o c1 c2 c3 c4 e)
theorem YbM {Q : Option Value -> Shared -> Prop} (D1 : Draws prog w A.in1 i1 f1 n1 P1 S1) (D2 : Draws prog w A.in1 i2 f2 n2 P2 S2) (D : Yox z TI TO i1 i2 f1 f2)
 (hz : IsZip s.heap z TI TO .none) (hTI : IsPair s.heap TI (.ref i1) (.ref i2)) (hTO : IsPair s.heap TO a b) (h1 : S1 k s.heap) (h2 : S2 k s.heap) (k1 : k < n1) (k2 : k < n2)
 (hQ : ∀ x y h' tk, P1 k x -> P2 k y -> IsZip h' z TI TO (rawInt s.heap.objs.size) -> IsPair h' TO x y -> S1 (k + 1) h' -> S2 (k + 1) h' -> IsPair h' s.heap.objs.size x y -> h'.objs.size = s.heap.objs.size + 1 ->
  (∀ c o, c ≠ z -> c ≠ TO -> c ≠ i1 -> c ≠ i2 -> s.heap.get? c = some o -> h'.get? c = some o) -> Q (some (.ref s.heap.objs.size)) { s with heap := h', toks := tk }) :
 wpAny (model prog w) A (pyNext (.ref z)) Q E s := by
 have hT : s.TypeIs (.ref z) "zip" := ⟨_, hz, rfl⟩
 unfold pyNext
 exact ZAA (ZBm (wpAny_callSpecial?_slot (name := Str.ofString "__next__") hT F.slot_zip_next
  (ZAl F.slot_zip_next hT F.entry_zip_next
   (YeW D1 D2 D hz hTI hTO h1 h2 k1 k2 fun x y h' tk c1 c2 a1 a2 a3 a4 a5 a6 a7 => ZAC (hQ x y h' tk c1 c2 a1 a2 a3 a4 a5 a6 a7)) (F.args_zip_next_1 _))))
end
section
variable {prog : Program} {w : World} {A : Around} {E : VSP} {s : Shared} {z TI TO i1 i2 : Addr} {f1 f2 : List Addr} {n1 n2 k : Nat} {P1 P2 : Nat -> Value -> Prop} {S1 S2 : Nat -> Heap -> Prop} {a b : Value}
theorem Yfq {Q : Fin -> Shared -> Prop} (D1 : Draws prog w A i1 f1 n1 P1 S1) (D : ZAp z TI TO i1 i2) (az1 : z ∉ f1)
 (hz : IsZip s.heap z TI TO .none) (hTI : IsPair s.heap TI (.ref i1) (.ref i2)) (hTO : IsPair s.heap TO a b) (h1 : S1 k s.heap)
 (hk : k = n1 \/ k < n1 /\ ∃ f2 n2 P2 S2, Draws prog w A i2 f2 n2 P2 S2 /\ S2 n2 s.heap /\ z ∉ f2 /\ TO ∉ f2 /\ i1 ∉ f2)
 (hE : ∀ h' e tk, (∀ c o, c ≠ z -> c ≠ TO -> c ≠ i1 -> c ≠ i2 -> s.heap.get? c = some o -> h'.get? c = some o) -> (∃ o, h'.get? e = some o /\ o.cls = .type "StopIteration") -> E (.ref e) { s with heap := h', toks := tk }) :
 wpAny (model prog w) A (Builtin.«zip.__next__» ⟨[.ref z], []⟩) Q E s := by
 show wpAny _ _ (field (.ref z) 2 >>= _) _ _ _
 refine ZAA (ZAg hz rfl (x := .bool false) rfl ?_)
 show wpAny _ _ (field (.ref z) 3 >>= _) _ _ _
 refine ZAA (ZAg hz rfl (x := .ref TI) rfl (ZAA (ZBC hTI rfl ?_)))
 show wpAny _ _ (Builtin.SmallTypes.ownedTupleIsFree (.ref z) >>= _) _ _ _
 show 176
 unfold Builtin.SmallTypes.ownedTupleIsFree
 refine ZAA (ZAg hz rfl (x := .none) rfl (ZAC ?_))
 simp only [if_true]
 refine wpAny_bind (wpAny_rule (wpAny_bind (wpAny_field hz rfl (x := .ref TO) rfl (wpAny_bind (wpAny_setField_rec hz (by simp) fun g1 hz1 e1 => ?_)))))
 replace hz1 : IsZip g1 z TI TO .ellipsis := hz1
 show 176
 simp only [List.zipIdx_cons, List.zipIdx_nil, List.forIn_cons, List.forIn_nil]
 show 238
 show wpAny _ _ (Builtin.SmallTypes.nextOf (.ref i1) >>= _) _ _ _
 rcases hk with hk | ⟨k1, f2, n2, P2, S2, D2, h2, az2, at2, ax2⟩
 ·subst hk
  refine ZAA (D1.done { s with heap := g1 } _ _ (Zn D1 h1 e1.extBut az1) fun g2 e e2 he => ?_)
  obtain ⟨oe, hoe, hce⟩ := he
  have hz2 : IsZip g2 z TI TO .ellipsis := e2 _ _ D.i1z.symm hz1
  have hez : e ≠ z := fun q => by subst q; rw [hz2] at hoe; cases hoe; simp at hce
  exact wpAny_setField_rec hz2 (by simp) fun g3 _ e3 => hE g3 e s.toks (fun c o c1 _ c3 _ q => e3.extBut _ _ c1 (e2 _ _ c3 (e1.extBut _ _ c1 q))) ⟨oe, e3.extBut _ _ hez hoe, hce⟩
 ·refine ZAA (D1.item k { s with heap := g1 } _ _ k1 (Zn D1 h1 e1.extBut az1) fun x g2 tk1 px s1 e2 => ZAC ?_)
  have to2 : IsPair g2 TO a b := e2.extBut _ _ D.TOi1 (e1.extBut _ _ D.TOz hTO)
  refine ZAA (ZBC to2 rfl (ZAA (ZBy to2 fun g3 to3 e3 => ?_)))
  refine ZAA (wpAny_letGo (ZAC ?_))
  show 238
  show wpAny _ _ (Builtin.SmallTypes.nextOf (.ref i2) >>= _) _ _ _
  have h23 : S2 n2 g3 := Zn D2 (Zn D2 (Zn D2 h2 e1.extBut az2) e2.extBut ax2) e3.extBut at2
  refine ZAA (D2.done { s with heap := g3, toks := tk1 } _ _ h23 fun g4 e e4 he => ?_)
  obtain ⟨oe, hoe, hce⟩ := he
  have hz4 : IsZip g4 z TI TO .ellipsis := e4 _ _ D.i2z.symm (e3.extBut _ _ D.TOz.symm (e2.extBut _ _ D.i1z.symm hz1))
  have hez : e ≠ z := fun q => by subst q; rw [hz4] at hoe; cases hoe; simp at hce
  exact wpAny_setField_rec hz4 (by simp) fun g5 _ e5 => hE g5 e tk1 (fun c o c1 c2 c3 c4 q => e5.extBut _ _ c1 (e4 _ _ c4 (e3.extBut _ _ c2 (e2.extBut _ _ c3 (e1.extBut _ _ c1 q))))) ⟨oe, e5.extBut _ _ hez hoe, hce⟩
theorem Jo {Q : Option Value -> Shared -> Prop} (D1 : Draws prog w A.in1 i1 f1 n1 P1 S1) (D : ZAp z TI TO i1 i2) (az1 : z ∉ f1)
 (hz : IsZip s.heap z TI TO .none) (hTI : IsPair s.heap TI (.ref i1) (.ref i2)) (hTO : IsPair s.heap TO a b) (h1 : S1 k s.heap)
 (hk : k = n1 \/ k < n1 /\ ∃ f2 n2 P2 S2, Draws prog w A.in1 i2 f2 n2 P2 S2 /\ S2 n2 s.heap /\ z ∉ f2 /\ TO ∉ f2 /\ i1 ∉ f2)
 (hQ : ∀ h' tk, (∀ c o, c ≠ z -> c ≠ TO -> c ≠ i1 -> c ≠ i2 -> s.heap.get? c = some o -> h'.get? c = some o) -> Q none { s with heap := h', toks := tk }) : wpAny (model prog w) A (pyNext (.ref z)) Q E s := by
 have hT : s.TypeIs (.ref z) "zip" := ⟨_, hz, rfl⟩
 unfold pyNext
 refine ZAA (ZBm (wpAny_callSpecial?_slot (name := Str.ofString "__next__") hT F.slot_zip_next
  (ZAl F.slot_zip_next hT F.entry_zip_next (Yfq D1 D az1 hz hTI hTO h1 hk fun h' e tk kp he => ?_) (F.args_zip_next_1 _))))
 obtain ⟨o, ho, hc⟩ := he
 exact ZAA (ZBv (T := "StopIteration") (b := true) ⟨o, ho, hc⟩ isSubtype_stop (ZAC (hQ h' tk kp)))
end
def YoN (go1 go2 : Nat -> Hp -> V -> Prop) (stop1 stop2 : Nat -> Hp -> Prop) : It :=
 ⟨fun i H => ∃ x y, go1 i H x /\ go2 i H y, fun i H v H' => ∃ p, v = .ref p /\ H p = none /\ ∀ x y, go1 i H x -> go2 i H y -> H' = upd H p (.tup [x, y]), fun i H => stop1 i H \/ (∃ x, go1 i H x) /\ stop2 i H⟩
def Ypi (z TI TO i1 i2 : Addr) (t1 t2 : Nat -> Heap -> Prop) (i : Nat) (h : Heap) : Prop := IsZip h z TI TO .none /\ IsPair h TI (.ref i1) (.ref i2) /\ (∃ x y, IsPair h TO x y) /\ t1 i h /\ t2 i h
def Ymm (P' : Program) (w : World) (K : Frag) (it : Addr) (tn0 : Nat -> Heap -> Prop) (stop : Nat -> Hp -> Prop) : Prop :=
 ∀ (X : Cx), X.prog = P' -> X.w = w -> X.K = K -> X.calm = true -> ∀ i pins s σ H, Inv X pins σ H s -> YlA X pins H it -> tn0 i s.heap -> stop i H ->
  ∃ fp n Pv St, Draws P' w X.A.in1 it fp n Pv St /\ St n s.heap /\ ∀ e, YlA X pins H e -> e ≠ it -> e ∉ fp
theorem YgK {P' : Program} {w : World} {K : Frag} {it l : Addr} : Ymm P' w K it (fun i h => h.IsTupleIter it l i) (fun i H => ∃ xs, SqT K H l xs /\ i = xs.length) :=
 fun X hP hw hK hc i pins s σ H I f st ⟨xs, h1, h2⟩ => by
  show 184
  obtain ⟨its, rv, pt, _⟩ := I.tuple h1
  show 190
  have D := WM (prog := X.prog) (w := X.w) (A := X.A.in1) (I.ok.hd hc) it l (Yaq I h1 f) its.toArray
  refine ⟨_, _, _, _, D, ⟨?_, pt⟩, fun e fe hne hm => ?_⟩
  ·show 68
   exact st
  ·show 260
   rcases hm with z | z
   ·exact hne z
   ·exact Yaq I h1 fe z.symm
theorem YdW {P : Program} {w : World} {K : Frag} {elts : List Expr} {x1 : Nat} {tp : Pos} {z TI TO i1 i2 : Addr} {t1 t2 : Nat -> Heap -> Prop} {go1 go2 : Nat -> Hp -> V -> Prop} {stop1 stop2 : Nat -> Hp -> Prop} (D : ZAp z TI TO i1 i2) (B1 : Ynw P w K i1 t1 go1 stop1) (B2 : Ynw P w K i2 t2 go2 stop2) (C1 : Ymm P w K i1 t1 stop1) (C2 : Ymm P w K i2 t2 stop2) :
 Turn P w K (.Tuple elts x1 tp) (YoN go1 go2 stop1 stop2) [z, TI, TO, i1, i2] z (Ypi z TI TO i1 i2 t1 t2) where
 mem := by simp
 obj := fun i h st c hc => by
  obtain ⟨h1, h2, ⟨x, y, h3⟩, h4, h5⟩ := st
  show 60
  ·exact ⟨_, h1, fun v z => by cases z⟩
  ·exact ⟨_, h2, fun v z => by cases z⟩
  ·exact ⟨_, h3, fun v z => by cases z⟩
  ·exact B1.obj i h h4
  ·exact B2.obj i h h5
 keep := fun i h h' st k => by
  obtain ⟨h1, h2, ⟨x, y, h3⟩, h4, h5⟩ := st
  exact ⟨k z (by simp) _ h1, k TI (by simp) _ h2, ⟨x, y, k TO (by simp) _ h3⟩, B1.keep i h h' h4 fun o e => k i1 (by simp) o e, B2.keep i h h' h5 fun o e => k i2 (by simp) o e⟩
 item := by
  show 88
  obtain ⟨x, y, ex, ey⟩ := hg
  show 267
  have fTI := hf TI (by simp)
  show 76
  obtain ⟨fp1, n1, P1, S1, D1, s1, k1, ap1, r1, b1⟩ := B1.item X rfl rfl rfl hc i pins s σ H x I f1 h4 ex
  obtain ⟨fp2, n2, P2, S2, D2, s2, k2, ap2, r2, b2⟩ := B2.item X rfl rfl rfl hc i pins s σ H y I f2 h5 ey
  refine YbM D1 D2 ⟨D, ap1 _ fz D.i1z.symm, ap1 _ fTO D.TOi1, ap1 _ f2 D.i12.symm, ap2 _ fz D.i2z.symm, ap2 _ fTO D.TOi2, ap2 _ f1 D.i12⟩ h1 h2 h3 s1 s2 k1 k2 fun ux uy h' tk px py a1 a2 a3 a4 a5 a6 hk => ?_
  have nT : H s.heap.objs.size = none := I.hok.fresh (ZAE _)
  have fp4 : ∀ c ∈ [z, TO, i1, i2], YlA X pins H c := fun c hc => by
   show 61
  have notIn : ∀ {c}, c ∉ [z, TO, i1, i2] -> c ≠ z /\ c ≠ TO /\ c ≠ i1 /\ c ≠ i2 := fun {c} hc => by
   show 247
  have tr : ∀ {c u}, H c = some u -> c ≠ z /\ c ≠ TO /\ c ≠ i1 /\ c ≠ i2 := fun {c u} e => ⟨Yf e fz.1, Yf e fTO.1, Yf e f1.1, Yf e f2.1⟩
  have hns : ∀ m, s.heap.Ns X.env.locals m -> h'.Ns X.env.locals m := fun m ⟨o, es, ep, e, r⟩ => ⟨o, es, ep, hk _ o fz.2.1.symm fTO.2.1.symm f1.2.1.symm f2.2.1.symm e, r⟩
  have hok : HOk X.prog X.w (upd H s.heap.objs.size (.tup [x, y])) h' := fun c u e => by
   by_cases hb : c = s.heap.objs.size
   ·subst hb
    rw [Yl] at e
    cases e
    exact ⟨by show 2 <= sizeLine; decide, [ux, uy], .cons (r1 _ px) (.cons (r2 _ py) .nil), ⟨_, a5, rfl, _, rfl⟩⟩
   ·rw [Yh hb] at e
    refine (I.hok c u e).stay (fun c' v hc' q => ?_) (fun c' q => by rw [Yh (Yf q nT)]; exact q) fun c' xs q => by rw [Yh (Yf q nT)]; exact q
    show 254
    ·show 239
    ·obtain ⟨t1, t2, t3, t4⟩ := tr z1; exact hk _ v t1 t2 t3 t4 q
  have I1 : Inv X pins σ (upd H s.heap.objs.size (.tup [x, y])) { s with heap := h', toks := tk } :=
   I.step (h' := h') (g' := s.gens) (t' := tk) (d' := s.drawn) (ch := [z, TO, i1, i2]) (fun c hc => ⟨(fp4 c hc).2.2.2.1, (fp4 c hc).2.1, (fp4 c hc).2.2.2.2.1, (fp4 c hc).2.2.2.2.2⟩)
    (fun c o _ _ hc e _ => let ⟨t1, t2, t3, t4⟩ := notIn hc; hk c o t1 t2 t3 t4 e) (fun c o _ _ hc e _ => let ⟨t1, t2, t3, t4⟩ := notIn hc; ⟨o.slots, hk c o t1 t2 t3 t4 e⟩)
    (fun c o hc e n => by rw [Yh (ZAL (ZAD e))]; exact n) (fun c o hc e => let ⟨t1, t2, t3, t4⟩ := notIn hc; ⟨o, hk c o t1 t2 t3 t4 e⟩)
    (fun c xs q => by rw [Yh (Yf q nT)]; exact q) (fun c o u q => by rw [Yh (Yf q nT)]; exact q) (fun c ps q => ⟨#[], by rw [Yh (Yf q nT), q]; simp⟩) hns hok I.bare
  refine ⟨.ref s.heap.objs.size, rfl, ZCH (s := { s with heap := h', toks := tk }) a1 fun h'' hz'' sb => ?_⟩
  have zl : z < s.heap.objs.size := ZAD h1
  have nz1 : (upd H s.heap.objs.size (.tup [x, y])) z = none := by rw [Yh (ZAL zl)]; exact fz.1
  have I2 : Inv X pins σ (upd H s.heap.objs.size (.tup [x, y])) { s with heap := h'', toks := tk } := Inv.turned (s := { s with heap := h', toks := tk }) (it := z) I1 (fun c o hc e => (sb.2 c hc).trans e) nz1 fz.2.1 fz.2.2.2.1 fz.2.2.2.2.1 fz.2.2.2.2.2
  refine ⟨.ref s.heap.objs.size, _, I2, rfl, ⟨s.heap.objs.size, rfl, nT, fun x' y' hx' hy' => ?_⟩, ⟨hz'', (sb.2 _ D.TIz).trans (hk _ _ D.TIz D.TITO D.TIi1 D.TIi2 h2), ⟨_, _, (sb.2 _ D.TOz).trans a2⟩, B1.keep _ _ _ (b1 _ a3) fun o e => (sb.2 _ D.i1z).trans e, B2.keep _ _ _ (b2 _ a4) fun o e => (sb.2 _ D.i2z).trans e⟩, fun c hc => ?_⟩
  ·rw [B1.uniq X rfl i pins s σ H x' x I hx' ex, B2.uniq X rfl i pins s σ H y' y I hy' ey]
  ·have hlt : c < s.heap.objs.size := by
    show 60
    ·exact ZAD h1
    ·exact ZAD h2
    ·exact ZAD h3
    ·obtain ⟨_, e, _⟩ := B1.obj _ _ h4; exact ZAD e
    ·obtain ⟨_, e, _⟩ := B2.obj _ _ h5; exact ZAD e
   rw [Yh (ZAL hlt)]
   exact (hf c hc).1
 done := by
  show 88
  show 267
  show 76
  have fin : ∀ h' tk, (∀ c o, c ≠ z -> c ≠ TO -> c ≠ i1 -> c ≠ i2 -> s.heap.get? c = some o -> h'.get? c = some o) -> Inv X pins σ H { s with heap := h', toks := tk } := fun h' tk hk => by
   have fp4 : ∀ c ∈ [z, TO, i1, i2], YlA X pins H c := fun c hc => by
    show 61
   have notIn : ∀ {c}, c ∉ [z, TO, i1, i2] -> c ≠ z /\ c ≠ TO /\ c ≠ i1 /\ c ≠ i2 := fun {c} hc => by
    show 247
   have tr : ∀ {c u}, H c = some u -> c ≠ z /\ c ≠ TO /\ c ≠ i1 /\ c ≠ i2 := fun {c u} e => ⟨Yf e fz.1, Yf e fTO.1, Yf e f1.1, Yf e f2.1⟩
   exact I.step (h' := h') (g' := s.gens) (t' := tk) (d' := s.drawn) (ch := [z, TO, i1, i2]) (fun c hc => ⟨(fp4 c hc).2.2.2.1, (fp4 c hc).2.1, (fp4 c hc).2.2.2.2.1, (fp4 c hc).2.2.2.2.2⟩)
    (fun c o _ _ hc e _ => let ⟨t1, t2, t3, t4⟩ := notIn hc; hk c o t1 t2 t3 t4 e) (fun c o _ _ hc e _ => let ⟨t1, t2, t3, t4⟩ := notIn hc; ⟨o.slots, hk c o t1 t2 t3 t4 e⟩)
    (fun c o hc e n => n) (fun c o hc e => let ⟨t1, t2, t3, t4⟩ := notIn hc; ⟨o, hk c o t1 t2 t3 t4 e⟩)
    (fun c xs q => q) (fun c o u q => q) (fun c ps q => ⟨#[], by rw [q]; simp⟩) (fun m ⟨o, es, ep, e, r⟩ => ⟨o, es, ep, hk _ o fz.2.1.symm fTO.2.1.symm f1.2.1.symm f2.2.1.symm e, r⟩)
    (fun c u e => by
     refine (I.hok c u e).stay (fun c' v hc' q => ?_) (fun c' q => q) fun c' xs q => q
     show 254
     ·show 239
     ·obtain ⟨t1, t2, t3, t4⟩ := tr z1; exact hk _ v t1 t2 t3 t4 q) I.bare
  rcases hg with hg | ⟨⟨x, ex⟩, hg⟩
  ·obtain ⟨fp1, n1, P1, S1, D1, s1, ap1⟩ := C1 X rfl rfl rfl hc i pins s σ H I f1 h4 hg
   exact Jo D1 D (ap1 _ fz D.i1z.symm) h1 h2 h3 s1 (.inl rfl) fun h' tk hk => ⟨rfl, fin h' tk hk⟩
  ·obtain ⟨fp1, n1, P1, S1, D1, s1, k1, ap1, r1, b1⟩ := B1.item X rfl rfl rfl hc i pins s σ H x I f1 h4 ex
   obtain ⟨fp2, n2, P2, S2, D2, s2, ap2⟩ := C2 X rfl rfl rfl hc i pins s σ H I f2 h5 hg
   exact Jo D1 D (ap1 _ fz D.i1z.symm) h1 h2 h3 s1 (.inr ⟨k1, fp2, n2, P2, S2, D2, s2, ap2 _ fz D.i2z.symm, ap2 _ fTO D.TOi2, ap2 _ f1 D.i12⟩) fun h' tk hk => ⟨rfl, fin h' tk hk⟩
 self := fun A i s Q E st h => ZBu st.1 h
section
variable {X : Cx} {elts : List Expr} {x1 : Nat} {tp p pos : Pos} {e f : Expr}
def YoD (xs ys : List P) : Src := ⟨xs.length, fun i _ => if i <= xs.length /\ i <= ys.length then some (YlI xs ys i) else none⟩
def YoC (ps : List P) (st : YkJ) : R Src := match ps with
 | [.ref k, .ref l] => (match listAt st k, listAt st l with
  | some xs, some _ => .ok (Yoj k l xs.length) st
  | _, _ => .bad)
 | [.tup xs, .tup ys] => .ok (YoD xs ys) st
 | _ => .bad
end
section
variable {X : Cx} {tg : Expr}
def YnH (lo : Int) (n : Nat) : Src := ⟨n, fun i _ => some (if i < n then some (.int (lo - i)) else none)⟩
def Ynk (ps : List P) (st : YkJ) : R Src := match ps with
 | [.int i, .int j, .int c] => if small62 i = true /\ small62 j = true /\ c = -1 then .ok (YnH i (i - j).toNat) st else .bad
 | _ => .bad
def YnR (mr : MA) : MI := fun ρ st => (mr ρ st).bind fun ps st1 => Ynk ps st1
end
@[simp] theorem YjM {ρ : Rho} {st : YkJ} {r : MA} : YnR r ρ st = (r ρ st).bind fun ps st1 => Ynk ps st1 := rfl
@[simp] theorem YkB {lo : Int} {n : Nat} : (YnH lo n).n = n := rfl
@[simp] theorem Yj1 {lo : Int} {n i : Nat} {st : YkJ} : (YnH lo n).nx i st = some (if i < n then some (.int (lo - i)) else none) := rfl
inductive ZK where | tup (a : Addr) | lst (a : Addr) | str (z : Str)
def ZK.v : ZK -> V
 | .tup a => .ref a
 | .lst a => .ref a
 | .str z => .str z
def ZK.ok (K : Frag) (H : Hp) : ZK -> Prop
 | .tup a => ∃ xs, SqT K H a xs
 | .lst a => ∃ xs, SqL K H a xs
 | .str _ => True
def goZ (K : Frag) : ZK -> Nat -> Hp -> V -> Prop
 | .tup a => fun i H x => ∃ xs, SqT K H a xs /\ xs[i]? = some x
 | .lst a => fun i H x => ∃ xs, SqL K H a xs /\ xs[i]? = some x
 | .str z => fun i _ x => ∃ c, z.cps[i]? = some c /\ x = .str ⟨#[c]⟩
def Ym2 (K : Frag) : ZK -> Nat -> Hp -> Prop
 | .tup a => fun i H => ∃ xs, SqT K H a xs /\ i = xs.length
 | .lst a => fun i H => ∃ xs, SqL K H a xs /\ i = xs.length
 | .str z => fun i _ => i = z.cps.size
theorem YgM {P' : Program} {w : World} {K : Frag} {it l : Addr} : Ymm P' w K it (fun i h => h.IsListIter it l i) (fun i H => ∃ xs, SqL K H l xs /\ i = xs.length) :=
 fun X hP hw hK hc i pins s σ H I f st ⟨xs, h1, h2⟩ => by
  show 184
  obtain ⟨its, rv, pt, _⟩ := I.list h1
  show 190
  have D := Draws.list (prog := X.prog) (w := X.w) (A := X.A.in1) (I.ok.hd hc) it l (YI I h1 f) its.toArray
  refine ⟨_, _, _, _, D, ⟨?_, pt.isList⟩, fun e fe hne hm => ?_⟩
  ·show 68
   exact st
  ·show 260
   rcases hm with z | z
   ·exact hne z
   ·exact YI I h1 fe z.symm
theorem Ygx {P' : Program} {w : World} {K : Frag} {it : Addr} {z : Str} {t : Tok} : Ymm P' w K it (fun i h => h.IsStrIter it (strIterType z) z t i) (fun i _ => i = z.cps.size) :=
 fun X hP hw hK hc i pins s σ H I f st h1 => by
  show 184
  subst h1
  unfold strIterType at st
  split at st
  ·have D := Draws.strAscii (prog := X.prog) (w := X.w) (A := X.A.in1) (I.ok.hd hc) it z t
   exact ⟨_, _, _, _, D, st, fun e fe hne hm => hne (by simpa using hm)⟩
  ·have D := Draws.strWide (prog := X.prog) (w := X.w) (A := X.A.in1) (I.ok.hd hc) it z t
   exact ⟨_, _, _, _, D, st, fun e fe hne hm => hne (by simpa using hm)⟩
def Opn (v : Value) (o : Obj) (C : Heap -> Prop) : Prop := ∀ {prog : Program} {w : World} {A : Around} {Q : VSP} {E : VSP} {s : Shared}, C s.heap -> Q (.ref s.heap.objs.size) { s with heap := s.heap.push o } -> wpAny (model prog w) A (pyIter v) Q E s
theorem YbX {X : Cx} {pins : LAO} {σ : St} {H : Hp} {s : Shared} {k : ZK} {v : Value} (I : Inv X pins σ H s) (hk : k.ok X.K H) (rv : RelV k.v v) :
 ∃ (o : Obj) (C : Heap -> Prop) (t0 : Addr -> Nat -> Heap -> Prop), C s.heap /\ (∀ h p, C h -> C (h.push p)) /\ Opn v o C /\ (∀ it, Ynw X.prog X.w X.K it (t0 it) (goZ X.K k) (Ym2 X.K k)) /\ (∀ it, Ymm X.prog X.w X.K it (t0 it) (Ym2 X.K k)) /\ (∀ h it, h.get? it = some o -> t0 it 0 h) /\ o.isFreed = false := by
 cases k with
 | tup a =>
  obtain ⟨xs, hx⟩ := hk
  have rv' : RelV (.ref a) v := rv
  cases rv'
  obtain ⟨its, rx, px, zx⟩ := I.tuple hx
  exact ⟨{ cls := .type "tuple_iterator", data := .fields #[.ref a, .int 0 0] }, fun h => h.IsTuple a its.toArray, fun it i h => h.IsTupleIter it a i, px, fun h p q => Heap.IsTuple.push q _, fun hc hQ => wpAny_pyIter_tuple hc hQ, fun it => YiA, fun it => YgK, fun h it e => ⟨_, e, rfl, rfl⟩, rfl⟩
 | lst a =>
  obtain ⟨xs, hx⟩ := hk
  have rv' : RelV (.ref a) v := rv
  cases rv'
  obtain ⟨its, rx, px, zx⟩ := I.list hx
  exact ⟨{ cls := .type "list_iterator", data := .fields #[.ref a, .int 0 0] }, fun h => h.IsList a its.toArray, fun it i h => h.IsListIter it a i, px.isList, fun h p q => let ⟨o, e, r⟩ := q; ⟨o, ZAB _ e, r⟩, fun hc hQ => ZBc hc hQ, fun it => YiU, fun it => YgM, fun h it e => ⟨_, e, rfl, rfl⟩, rfl⟩
 | str z =>
  obtain ⟨t, rfl⟩ : ∃ t, v = .str z t := rv
  exact ⟨{ cls := .type (strIterType z), data := .fields #[.str z t, .int 0 0] }, fun _ => True, fun it i h => h.IsStrIter it (strIterType z) z t i, trivial, fun _ _ _ => trivial, fun {_ _ _ _ _ _} _ hQ => by
   cases ha : z.cps.all (· < 128)
   ·exact wpAny_pyIter_wide ha (by simpa [strIterType, ha] using hQ)
   ·exact wpAny_pyIter_ascii ha (by simpa [strIterType, ha] using hQ), fun it => YiV, fun it => Ygx, fun h it e => ⟨_, e, rfl, rfl⟩, rfl⟩
abbrev zg1 (h : Heap) (o1 : Obj) : Heap := h.push o1
abbrev zg2 (h : Heap) (o1 o2 : Obj) : Heap := (zg1 h o1).push o2
abbrev zg3 (h : Heap) (o1 o2 : Obj) : Heap := (zg2 h o1 o2).push { cls := .type "tuple", data := .seq #[.ref h.objs.size, .ref (zg1 h o1).objs.size] }
abbrev zg4 (h : Heap) (o1 o2 : Obj) : Heap := (zg3 h o1 o2).push { cls := .type "tuple", data := .seq #[.none, .none] }
abbrev zg5 (h : Heap) (o1 o2 : Obj) : Heap := (zg4 h o1 o2).push { cls := .type "zip", data := .fields #[.none, .bool false, .bool false, .ref (zg2 h o1 o2).objs.size, .ref (zg3 h o1 o2).objs.size] }
theorem Ych (v1 v2 : Value) (o1 o2 : Obj) (C1 C2 : Heap -> Prop) (p1 : Opn v1 o1 C1) (p2 : Opn v2 o2 C2) (c2 : ∀ h p, C2 h -> C2 (h.push p)) :
 Meets (Builtin.«zip.__new__» ⟨[.type "zip", v1, v2], []⟩) (fun _ R s => C1 s.heap /\ C2 s.heap /\ R (.ok (.ret (.ref (zg4 s.heap o1 o2).objs.size))) { s with heap := zg5 s.heap o1 o2 }) :=
 .of_wp fun prog w A R s h => by
  obtain ⟨hp, g, d, tk, os⟩ := s; obtain ⟨hl1, hl2, h⟩ := h
  have hsub := sub_zip
  have hL1 : C1 (Shared.heap ⟨hp, g, d, tk, os⟩) := hl1
  have hL2 : C2 (Shared.heap ⟨hp.push o1, g, d, tk, os⟩) := c2 _ _ hl2
  have P1 : ∀ {A : Around} {Q : VSP} {E : VSP} {s : Shared}, C1 s.heap -> Q (.ref s.heap.objs.size) { s with heap := s.heap.push o1 } -> wpAny (model prog w) A (pyIter v1) Q E s := fun h1 h2 => p1 h1 h2
  have P2 : ∀ {A : Around} {Q : VSP} {E : VSP} {s : Shared}, C2 s.heap -> Q (.ref s.heap.objs.size) { s with heap := s.heap.push o2 } -> wpAny (model prog w) A (pyIter v2) Q E s := fun h1 h2 => p2 h1 h2
  wp_walk using P1 hL1, P2 hL2
  exact ⟨_, rfl, h⟩
theorem YcV {prog : Program} {w : World} {A : Around} {E : VSP} {s : Shared} {v1 v2 : Value} {o1 o2 : Obj} {C1 C2 : Heap -> Prop} {Q : VSP} (p1 : Opn v1 o1 C1) (p2 : Opn v2 o2 C2) (c2 : ∀ h p, C2 h -> C2 (h.push p)) (hl1 : C1 s.heap) (hl2 : C2 s.heap) (n1 : o1.isFreed = false) (n2 : o2.isFreed = false)
 (h : ∀ h', IsZip h' (s.heap.objs.size + 4) (s.heap.objs.size + 2) (s.heap.objs.size + 3) .none -> IsPair h' (s.heap.objs.size + 2) (.ref s.heap.objs.size) (.ref (s.heap.objs.size + 1)) -> IsPair h' (s.heap.objs.size + 3) .none .none ->
  h'.get? s.heap.objs.size = some o1 -> h'.get? (s.heap.objs.size + 1) = some o2 -> (∀ c o, s.heap.get? c = some o -> h'.get? c = some o) -> Q (.ref (s.heap.objs.size + 4)) { s with heap := h' }) :
 wpAny (model prog w) A (call (.type "zip") [v1, v2]) Q E s := by
 refine callType_new F.called_zip (by decide) (F.typeCall_zip_2 _ _) (F.newCall_zip_2 _ _) (fun obj => F.args_object_init_3 obj _ _) F.entry_zip_new (Ych v1 v2 o1 o2 C1 C2 p1 p2 c2) ⟨hl1, hl2, ?_⟩
 have z1 : (zg1 s.heap o1).objs.size = s.heap.objs.size + 1 := ZAa ..
 have z2 : (zg2 s.heap o1 o2).objs.size = s.heap.objs.size + 2 := by rw [ZAa, z1]
 have z3 : (zg3 s.heap o1 o2).objs.size = s.heap.objs.size + 3 := by rw [ZAa, z2]
 have z4 : (zg4 s.heap o1 o2).objs.size = s.heap.objs.size + 4 := by rw [ZAa, z3]
 have up : ∀ {h : Heap} {c : Addr} {o p : Obj}, h.get? c = some o -> (h.push p).get? c = some o := fun e => ZAB _ e
 have g5 : (zg5 s.heap o1 o2).get? (zg4 s.heap o1 o2).objs.size = some _ := ZAF _ rfl
 have g4 : (zg5 s.heap o1 o2).get? (zg3 s.heap o1 o2).objs.size = some _ := up (ZAF _ rfl)
 have g3 : (zg5 s.heap o1 o2).get? (zg2 s.heap o1 o2).objs.size = some _ := up (up (ZAF _ rfl))
 have g2 : (zg5 s.heap o1 o2).get? (zg1 s.heap o1).objs.size = some o2 := up (up (up (ZAF _ n2)))
 have g1 : (zg5 s.heap o1 o2).get? s.heap.objs.size = some o1 := up (up (up (up (ZAF _ n1))))
 show _ /\ _
 rw [z2, z3, z4] at g5
 rw [z1, z2] at g3
 rw [z3] at g4
 rw [z1] at g2
 rw [z4]
 exact ⟨⟨_, g5, rfl⟩, h _ g5 g3 g4 g1 g2 fun c o q => up (up (up (up (up q))))⟩
section
variable {X : Cx} {elts : List Expr} {x1 : Nat} {tp p pos : Pos} {e f : Expr}
def YoE (K : Frag) (k1 k2 : ZK) : It := YoN (goZ K k1) (goZ K k2) (Ym2 K k1) (Ym2 K k2)
theorem Yhw {ta : TA} (hg : Gl X "zip") (hm : X.mg "zip" = none) (hv : bootBuiltins "zip" = some (.type "zip")) (ha : PA X [e, f] ta) (hs : starEach [e, f] X.env = [(false, eval e X.env), (false, eval f X.env)] := by rfl) (hs2 : starEach [f] X.env = [(false, eval f X.env)] := by rfl) :
 PI X (.Tuple elts x1 tp) (.Call (.Name "zip" p) [e, f] [] pos) (fun σ H R => ta σ H fun vs H1 => (∃ a b, vs = [.ref a, .ref b] /\ ∃ xs ys, SqL X.K H1 a xs /\ SqL X.K H1 b ys /\ R (Itz X.K a b) H1) \/ ∃ k1 k2 : ZK, vs = [k1.v, k2.v] /\ k1.ok X.K H1 /\ k2.ok X.K H1 /\ R (YoE X.K k1 k2) H1) := by
 intro pins s σ H R I h
 refine Call_ (Wt I hg hm hv (PyProof.Rows.callWith_type1 (thn (ha pos pins s σ H _ I h) fun us s1 ⟨vs, H1, I1, r1, q1⟩ => ?_) (by rw [hs, hs2]) (by rw [hs2]; rfl)))
 have fps : ∀ c ∈ [s1.heap.objs.size + 4, s1.heap.objs.size + 2, s1.heap.objs.size + 3, s1.heap.objs.size, s1.heap.objs.size + 1], YlA X pins H1 c := fun c hc => by
  show 271
  have hle : s1.heap.objs.size <= c := by rcases hc with rfl | rfl | rfl | rfl | rfl <;> simp
  exact I1.fpOk hle (I1.hok.fresh hle)
 have ap : ZAp (s1.heap.objs.size + 4) (s1.heap.objs.size + 2) (s1.heap.objs.size + 3) s1.heap.objs.size (s1.heap.objs.size + 1) := by
  constructor <;> (intro z; have z' : (_ : Nat) = _ := z; omega)
 rcases q1 with ⟨a, b, rfl, xs, ys, hx, hy, q⟩ | ⟨k1, k2, rfl, o1, o2, q⟩
 ·obtain ⟨u, v, rfl, ru, rv⟩ := r1.two
  cases ru
  cases rv
  obtain ⟨its, rx, px, zx⟩ := I1.list hx
  obtain ⟨jts, ry, py, zy⟩ := I1.list hy
  refine call_zip_2 px.isList py.isList fun h' b1 b2 b3 b4 b5 b6 hk => ?_
  refine ZBu b1 ?_
  have I2 : Inv X pins σ H1 { s1 with heap := h' } := I1.kept (t' := s1.toks) hk
  exact ⟨_, _, _, _, H1, rfl, I2, Yf1 (a := a) (b := b) ap, ⟨b1, b2, ⟨_, _, b3⟩, b4, b5⟩, fps, q⟩
 ·obtain ⟨u, v, rfl, ru, rv⟩ := r1.two
  obtain ⟨ob1, C1, t1, c1, m1, p1, e1, s1', g1, n1⟩ := YbX I1 o1 ru
  obtain ⟨ob2, C2, t2, c2, m2, p2, e2, s2', g2, n2⟩ := YbX I1 o2 rv
  refine YcV p1 p2 m2 c1 c2 n1 n2 fun h' b1 b2 b3 b4 b5 hk => ?_
  refine ZBu b1 ?_
  have I2 : Inv X pins σ H1 { s1 with heap := h' } := I1.kept (t' := s1.toks) hk
  exact ⟨_, _, _, _, H1, rfl, I2, YdW ap (e1 _) (e2 _) (s1' _) (s2' _), ⟨b1, b2, ⟨_, _, b3⟩, g1 _ _ b4, g2 _ _ b5⟩, fps, q⟩
def rowAt (p : P) (st : YkJ) : Option (List P) := match p with
 | .tup xs => some xs
 | .str z => some (Ymh z)
 | .ref k => listAt st k
 | _ => none
def YnD (K : Frag) (as : List Addr) (H : Hp) : P -> ZK -> Prop
 | .tup xs, .tup a => Den K as H (.ref a) (.tup xs)
 | .str z, .str z' => z = z'
 | .ref j, .lst a => as[j]? = some a
 | _, _ => False
theorem Yh2 {K : Frag} {as : List Addr} {H : Hp} {st : YkJ} {v : V} {p : P} {xs : List P} (rp : Rep K as st H) (d : Den K as H v p) (h : rowAt p st = some xs) : ∃ k : ZK, v = k.v /\ k.ok K H /\ YnD K as H p k := by
 cases d with
 | tup s1 d1 => exact ⟨.tup _, rfl, ⟨_, s1⟩, .tup s1 d1⟩
 | str => exact ⟨.str _, rfl, trivial, rfl⟩
 | ref e1 =>
  have h' : listAt st _ = some xs := h
  obtain ⟨vs, s1, _⟩ := Y7 rp e1 h'
  exact ⟨.lst _, rfl, ⟨_, s1⟩, e1⟩
 | _ => cases h
theorem Yf8 {K : Frag} {as as2 : List Addr} {H H2 : Hp} {st2 : YkJ} {p px : P} {k : ZK} {xs : List P} {i : Nat} (z : YnD K as H p k) (x : Ext as H as2 H2) (rp : Rep K as2 st2 H2) (h : rowAt p st2 = some xs) (hi : xs[i]? = some px) : ∃ v, goZ K k i H2 v /\ Den K as2 H2 v px := by
 match p, k, z with
 | .tup ys, .tup a, z =>
  cases h
  have z' : Den K as H (.ref a) (.tup xs) := z
  cases z'.ext x with
  | tup s1 d1 =>
   obtain ⟨v, g1, g2⟩ := d1.get hi
   exact ⟨v, ⟨_, s1, g1⟩, g2⟩
 | .str y, .str _, z =>
  have z' : y = _ := z
  subst z'
  have h' : Ymh y = xs := Option.some.inj h
  subst h'
  unfold Ymh at hi
  rw [ZAj] at hi
  obtain ⟨c, e2, rfl⟩ := ZCT.mp hi
  exact ⟨_, ⟨c, by simpa using e2, rfl⟩, .str⟩
 | .ref j, .lst a, z =>
  have z' : as[j]? = some a := z
  have h' : listAt st2 j = some xs := h
  obtain ⟨vs, s1, d1⟩ := Y7 rp (x.pre j a z') h'
  obtain ⟨v, g1, g2⟩ := d1.get hi
  exact ⟨v, ⟨_, s1, g1⟩, g2⟩
theorem Ydt {K : Frag} {as as2 : List Addr} {H H2 : Hp} {st2 : YkJ} {p : P} {k : ZK} {xs : List P} {i : Nat} (z : YnD K as H p k) (x : Ext as H as2 H2) (rp : Rep K as2 st2 H2) (h : rowAt p st2 = some xs) (hi : i = xs.length) : Ym2 K k i H2 := by
 match p, k, z with
 | .tup ys, .tup a, z =>
  cases h
  have z' : Den K as H (.ref a) (.tup xs) := z
  cases z'.ext x with
  | tup s1 d1 => exact ⟨_, s1, by rw [d1.length]; exact hi⟩
 | .str y, .str _, z =>
  have z' : y = _ := z
  subst z'
  have h' : Ymh y = xs := Option.some.inj h
  subst h'
  show i = y.cps.size
  rw [hi]
  unfold Ymh
  simp
 | .ref j, .lst a, z =>
  have z' : as[j]? = some a := z
  have h' : listAt st2 j = some xs := h
  obtain ⟨vs, s1, d1⟩ := Y7 rp (x.pre j a z') h'
  exact ⟨_, s1, by rw [d1.length]; exact hi⟩
def Yl5 (p q : P) (n : Nat) : Src := ⟨n, fun i st => match rowAt p st, rowAt q st with
 | some xs, some ys => if i <= xs.length /\ i <= ys.length then some (YlI xs ys i) else none
 | _, _ => none⟩
theorem Yen {K : Frag} {as : List Addr} {H : Hp} {p q : P} {n : Nat} {k1 k2 : ZK} (ha : YnD K as H p k1) (hb : YnD K as H q k2) : YmF K as H (Yl5 p q n) (YoE K k1 k2) where
 go := fun i as2 st2 H2 pp x rp e => by
  have e' : (match rowAt p st2, rowAt q st2 with
   | some xs, some ys => if i <= xs.length /\ i <= ys.length then some (YlI xs ys i) else none
   | _, _ => none) = some (some pp) := e
  cases q1 : rowAt p st2 with
  | none => show 255
  | some xs =>
   cases q2 : rowAt q st2 with
   | none => show 265
   | some ys =>
    rw [q1, q2] at e'
    dsimp only at e'
    have ez : YlI xs ys i = some pp := by
     by_cases y : i <= xs.length /\ i <= ys.length
     ·rw [ZAI y] at e'; exact Option.some.inj e'
     ·rw [ZAJ y] at e'; cases e'
    unfold YlI at ez
    cases r1 : xs[i]? with
    | none => rw [r1] at ez; cases ez
    | some px =>
     cases r2 : ys[i]? with
     | none => show 263
     | some py =>
      rw [r1, r2] at ez
      cases ez
      obtain ⟨v, g1, g2⟩ := Yf8 ha x rp q1 r1
      obtain ⟨w, g3, g4⟩ := Yf8 hb x rp q2 r2
      refine ⟨⟨v, w, g1, g3⟩, fun u H3 ⟨t, e1, e2, e3⟩ => ?_⟩
      have := e3 v w g1 g3
      subst this e1
      exact ⟨Ext.laid e2, rp.laid e2, .tup (.of Yl) (.cons (g2.ext (Ext.laid e2)) (.cons (g4.ext (Ext.laid e2)) .nil))⟩
 stop := fun i as2 st2 H2 x rp e => by
  have e' : (match rowAt p st2, rowAt q st2 with
   | some xs, some ys => if i <= xs.length /\ i <= ys.length then some (YlI xs ys i) else none
   | _, _ => none) = some none := e
  cases q1 : rowAt p st2 with
  | none => show 255
  | some xs =>
   cases q2 : rowAt q st2 with
   | none => show 265
   | some ys =>
    rw [q1, q2] at e'
    dsimp only at e'
    by_cases y : i <= xs.length /\ i <= ys.length
    ·rw [ZAI y] at e'
     have ez : YlI xs ys i = none := Option.some.inj e'
     unfold YlI at ez
     cases r1 : xs[i]? with
     | none =>
      have := ZAk.mp r1
      exact .inl (Ydt ha x rp q1 (by omega))
     | some px =>
      cases r2 : ys[i]? with
      | none =>
       have := ZAk.mp r2
       obtain ⟨v, g1, g2⟩ := Yf8 ha x rp q1 r1
       exact .inr ⟨⟨v, g1⟩, Ydt hb x rp q2 (by omega)⟩
      | some py => show 263
    ·rw [ZAJ y] at e'; cases e'
def YmP : List P -> Bool
 | [.ref _, .ref _] => true
 | _ => false
def Ynq (ps : List P) (st : YkJ) : R Src := match ps with
 | [p, q] => (match rowAt p st, rowAt q st with
  | some xs, some _ => .ok (Yl5 p q xs.length) st
  | _, _ => .bad)
 | _ => .bad
def YmY (ps : List P) (st : YkJ) : R Src := if YmP ps = true then YoC ps st else Ynq ps st
def Ynn (mr : MA) : MI := fun ρ st => (mr ρ st).bind YmY
theorem YdJ {mr : MA} (hg : Gl X "zip") (hm : X.mg "zip" = none) (hv : bootBuiltins "zip" = some (.type "zip")) (ha : JA X [e, f] mr) (hs : starEach [e, f] X.env = [(false, eval e X.env), (false, eval f X.env)] := by rfl) (hs2 : starEach [f] X.env = [(false, eval f X.env)] := by rfl) :
 JI X (.Tuple elts x1 tp) (.Call (.Name "zip" p) [e, f] [] pos) (Ynn mr) := by
 show 226
 refine Yhw hg hm hv ha hs hs2 pins s σ H R I ⟨as, ρ, st, en, rp, ?_⟩
 refine Ylh.bindA h fun ps st1 as1 H1 vs x rp1 d h1 => ?_
 unfold YmY at h1
 by_cases ht : YmP ps = true
 ·rw [ZAI ht] at h1
  match ps, d, h1, ht with
  | [.ref k, .ref l], d, h1, _ =>
   obtain ⟨v, w, rfl, d1, d2⟩ := d.two
   cases d1 with
   | ref e1 =>
    cases d2 with
    | ref e2 =>
     have h2 : Ylh X as1 H1 ρ (match listAt st1 k, listAt st1 l with | some xs, some _ => .ok (Yoj k l xs.length) st1 | _, _ => .bad) R := h1
     cases q1 : listAt st1 k with
     | none => rw [q1] at h2; exact h2.elim
     | some xs =>
      cases q2 : listAt st1 l with
      | none => rw [q1, q2] at h2; exact h2.elim
      | some ys =>
       rw [q1, q2] at h2
       obtain ⟨vs, s1, _⟩ := Y7 rp1 e1 q1
       obtain ⟨ws, s2, _⟩ := Y7 rp1 e2 q2
       exact .inl ⟨_, _, rfl, vs, ws, s1, s2, h2 as1 H1 _ Ext.refl rp1 (Yfo e1 e2)⟩
 ·rw [ZAJ ht] at h1
  match ps, d, h1 with
  | [p, q], d, h1 =>
   obtain ⟨v, w, rfl, d1, d2⟩ := d.two
   have h2 : Ylh X as1 H1 ρ (match rowAt p st1, rowAt q st1 with | some xs, some _ => .ok (Yl5 p q xs.length) st1 | _, _ => .bad) R := h1
   cases q1 : rowAt p st1 with
   | none => rw [q1] at h2; exact h2.elim
   | some xs =>
    cases q2 : rowAt q st1 with
    | none => rw [q1, q2] at h2; exact h2.elim
    | some ys =>
     rw [q1, q2] at h2
     obtain ⟨k1, rfl, o1, z1⟩ := Yh2 rp1 d1 q1
     obtain ⟨k2, rfl, o2, z2⟩ := Yh2 rp1 d2 q2
     exact .inr ⟨k1, k2, rfl, o1, o2, h2 as1 H1 _ Ext.refl rp1 (Yen z1 z2)⟩
  | [], _, h1 => show 173
  | [_], _, h1 => show 173
  | _ :: _ :: _ :: _, _, h1 => show 173
end
section
variable {ρ : Rho} {st : YkJ}
theorem Yhk {r : MA} : Ynn r ρ st = (r ρ st).bind fun ps st1 => YmY ps st1 := rfl
theorem Yao {p q : P} {xs ys : List P} (ht : YmP [p, q] = false) (h1 : rowAt p st = some xs) (h2 : rowAt q st = some ys) : YmY [p, q] st = .ok (Yl5 p q xs.length) st := by
 unfold YmY
 rw [ZAJ (by rw [ht]; decide)]
 unfold Ynq
 show 154
 rw [h1, h2]
theorem Yhl {p q : P} {n : Nat} : (Yl5 p q n).n = n := rfl
theorem Ye4 {p q : P} {n i : Nat} {xs ys : List P} (h1 : rowAt p st = some xs) (h2 : rowAt q st = some ys) (h3 : i <= xs.length) (h4 : i <= ys.length) : (Yl5 p q n).nx i st = some (YlI xs ys i) := by
 unfold Yl5
 show 154
 rw [h1, h2]
 show 154
 rw [ZAI ⟨h3, h4⟩]
end
section
variable {X : Cx}
end
section
variable {X : Cx}
def Ypk : GM := fun p ps st => match p, ps with
 | .ref k, [] => (match Ylq st k with
  | some xs => (match xs[xs.length - 1]? with
   | some y => some (y, st.set k (.lst xs.dropLast))
   | none => none)
  | none => none)
 | _, _ => none
theorem Dens.dropLast {K : Frag} {as : List Addr} {H : Hp} : ∀ {vs : List V} {xs : List P}, Dens K as H vs xs -> Dens K as H vs.dropLast xs.dropLast
 | [], [], _ => .nil
 | [_], [_], _ => .nil
 | v :: v2 :: vs, x :: x2 :: xs, d => by
  cases d with
  | cons d1 d2 =>
   have ih := Dens.dropLast d2
   exact .cons d1 ih
 | [], _ :: _, d => nomatch d
 | _ :: _, [], d => nomatch d
 | [_], _ :: _ :: _, d => by cases d with | cons _ d2 => cases d2
 | _ :: _ :: _, [_], d => by cases d with | cons _ d2 => cases d2
def YoP : GM := fun p ps st => match p, ps with
 | .ref k, [.ref l] => (match Ylq st k, Ylq st l with
  | some xs, some ys => if xs.length + ys.length <= cap then some (.non, st.set k (.lst (xs ++ ys))) else none
  | _, _ => none)
 | _, _ => none
def YnY : GC := fun ps st => match ps with
 | [.int i] => okP (.int i) st
 | [.bl k] => okP (.int (if k then 1 else 0)) st
 | _ => none
theorem Yjz : YlD X (.type "int") (rMC X YnY) := by
 intro pins s σ H xs us Q I r ⟨as, st, ps, rp, d, h⟩
 match ps, d, h with
 | [.int i], d, h =>
  obtain ⟨x, rfl, dx⟩ := d.one
  cases dx
  exact Ya4 pins s σ H _ us Q I r (.inl ⟨i, rfl, h as H _ Ext.refl rp .int⟩)
 | [.bl k], d, h =>
  obtain ⟨x, rfl, dx⟩ := d.one
  cases dx
  exact Ya4 pins s σ H _ us Q I r (.inr ⟨k, rfl, h as H _ Ext.refl rp .int⟩)
 | [], _, h => show 152
 | [.non], _, h => show 152
 | [.str _], _, h => show 152
 | [.tup _], _, h => show 152
 | [.ref _], _, h => show 152
 | _ :: _ :: _, _, h => exact (by simp only [YnY] at h; exact h.elim)
def YlC {α : Type} (is : List Nat) (xs : List α) : List α := is.filterMap fun i => xs[i]?
def YlZ (n : Nat) (lo hi : Option Int) (c : Int) : List Nat := sliceRange (sliceBounds lo hi (some c) n).1 (sliceBounds lo hi (some c) n).2.1 (sliceBounds lo hi (some c) n).2.2
theorem Ya6 {xs : List V} {its : List Value} (r : Vals xs its) : ∀ is : List Nat, Vals (YlC is xs) (YlC is its)
 | [] => .nil
 | i :: is => by
  have ih := Ya6 r is
  unfold YlC at ih ⊢
  cases q : xs[i]? with
  | none =>
   have : its[i]? = none := ZA2 (by rw [<- r.length]; exact ZAk.mp q)
   rw [ZBU q, ZBU this]
   exact ih
  | some x =>
   obtain ⟨u, hu, ru⟩ := r.get q
   rw [ZBV q, ZBV hu]
   exact .cons ru ih
theorem YaU {K : Frag} {as : List Addr} {H : Hp} {vs : List V} {xs : List P} (d : Dens K as H vs xs) : ∀ is : List Nat, Dens K as H (YlC is vs) (YlC is xs)
 | [] => .nil
 | i :: is => by
  have ih := YaU d is
  unfold YlC at ih ⊢
  cases q : xs[i]? with
  | none =>
   have : vs[i]? = none := ZA2 (by rw [d.length]; exact ZAk.mp q)
   rw [ZBU q, ZBU this]
   exact ih
  | some x =>
   obtain ⟨u, hu, ru⟩ := d.get q
   rw [ZBV q, ZBV hu]
   exact .cons ru ih
theorem J7 (its : List Value) (lo hi : Option Int) (c : Int) : slicePick its.toArray lo hi (some c) = (YlC (YlZ its.length lo hi c) its).toArray := by
 unfold slicePick YlC YlZ
 simp
variable {e es : Expr} {lo hi : Option Expr} {pos p2 : Pos}
end
section
variable {ρ : Rho} {st : YkJ}
theorem Yf3 {b : Bool} : YnY [.bl b] st = some (.int (if b then 1 else 0), st) := rfl
end
section
variable {X : Cx}
end
section
variable {X : Cx}
end
section
variable {prog : Program} {w : World} {A : Around} {E : VSP} {s : Shared}
end
section
variable {prog : Program} {w : World} {A : Around} {R : Result -> Shared -> Prop} {I : Addr} {fp wr : List Addr} {G : Array GenState -> Array GenState -> Prop} {P : Nat -> Value -> Prop} {St : Nat -> Shared -> Prop}
def YmL (prog : Program) (w : World) (P : Nat -> Value -> Prop) (no : List Addr) (prs : List (Key × Value)) (h : Heap) : Prop :=
 ∀ i v, P i v -> ∃ t k key val, v = .ref t /\ t ∉ no /\ IsTup h t #[key, val] /\ prs[i]? = some (k, val) /\ (Yk6 prog w).is k key = true
theorem YmL.keep {no : List Addr} {prs : List (Key × Value)} {h h' : Heap} (x : YmL prog w P no prs h) (k : ∀ b o, b ∉ no -> h.get? b = some o -> h'.get? b = some o) : YmL prog w P no prs h' := fun i v hv => by
 obtain ⟨t, kk, key, val, e1, e2, ⟨o, ho, c⟩, e4, e5⟩ := x i v hv
 exact ⟨t, kk, key, val, e1, e2, ⟨o, k t o e2 ho, c⟩, e4, e5⟩
end
section
variable {prog : Program} {w : World} {A : Around} {E : VSP} {s : Shared}
theorem PlainL.keep {h h' : Heap} {a : Addr} {xs : Array Value} (x : PlainL h a xs) (k : ∀ o, h.get? a = some o -> h'.get? a = some o) : PlainL h' a xs :=
 let ⟨o, n, e, c⟩ := x; ⟨o, n, k o e, c⟩
end
section
variable {X : Cx} {pins : LAO} {σ : St} {H : Hp} {s : Shared}
end
section
variable {X : Cx} {e : Expr} {m : MA} {p pos : Pos}
end
section
variable {X : Cx}
end
section
variable {prog : Program} {w : World} {A : Around} {E : VSP} {s : Shared}
abbrev Yod (h : Heap) (z TI TO a : Addr) (f : Bool) : Prop := h.get? z = some { cls := .type "zip", dict := none, data := .fields #[rawInt a, .bool f, .bool false, .ref TI, .ref TO], slots := #[] }
end
section
variable {prog : Program} {w : World} {A : Around} {E : VSP} {s : Shared} {z TI TO i1 i2 al : Addr} {fl : Bool} {f1 f2 : List Addr} {n1 n2 k : Nat} {P1 P2 : Nat -> Value -> Prop} {S1 S2 : Nat -> Heap -> Prop}
def ZSt (z TI TO i1 i2 : Addr) (lo : Addr) (S1 S2 : Nat -> Heap -> Prop) (i : Nat) (h : Heap) : Prop :=
 (IsZip h z TI TO .none \/ ∃ a f, Yod h z TI TO a f /\ lo <= a /\ ∃ o, h.get? a = some o) /\ IsPair h TI (.ref i1) (.ref i2) /\ (∃ x y, IsPair h TO x y) /\ S1 i h /\ S2 i h
theorem ZSt.keep {lo : Addr} {h h' : Heap} {d : Addr} {i : Nat} (D1 : Draws prog w A i1 f1 n1 P1 S1) (D2 : Draws prog w A i2 f2 n2 P2 S2) (st : ZSt z TI TO i1 i2 lo S1 S2 i h) (e : ∀ b o, b ≠ d -> h.get? b = some o -> h'.get? b = some o) (dz : z ≠ d) (dTI : TI ≠ d) (dTO : TO ≠ d) (d1 : d ∉ f1) (d2 : d ∉ f2) (dl : d < lo) : ZSt z TI TO i1 i2 lo S1 S2 i h' := by
 obtain ⟨hz, hTI, ⟨u, v, hTO⟩, h1, h2⟩ := st
 refine ⟨?_, e _ _ dTI hTI, ⟨u, v, e _ _ dTO hTO⟩, D1.frame _ _ _ h1 fun b hb o q => e b o (fun z => d1 (z ▸ hb)) q, D2.frame _ _ _ h2 fun b hb o q => e b o (fun z => d2 (z ▸ hb)) q⟩
 rcases hz with hz | ⟨a, f, hz, la, o, ho⟩
 ·exact .inl (e _ _ dz hz)
 ·exact .inr ⟨a, f, e _ _ dz hz, la, o, e a o (ZBE (ZAN dl la)) ho⟩
end
section
variable {prog : Program} {w : World} {A : Around} {R : Result -> Shared -> Prop} {z TI TO i1 i2 : Addr} {f1 f2 : List Addr} {P1 P2 : Nat -> Value -> Prop} {S1 S2 : Nat -> Heap -> Prop}
end
section
variable {prog : Program} {w : World} {A : Around} {E : VSP} {s : Shared}
end
section
variable {X : Cx} {e f : Expr} {p p2 pos pos2 : Pos}
end
section
variable {X : Cx} {e f : Expr} {p p2 pos pos2 : Pos} {m : MA}
end
def Ymd (z : Str) : Str := ⟨((Builtin.Str.strSliceIndices none none (-1) z.length).filterMap (z.cps[·]?)).toArray⟩
def YmZ (me : ME) : ME := fun ρ st => (me ρ st).bind fun p st1 => match p with
 | .tup xs => .ok (.tup xs.reverse) st1
 | .str z => if (Ymd z).length <= cap then .ok (.str (Ymd z)) st1 else .bad
 | .ref k => (match listAt st1 k with
  | some xs => ofO (YlW (YlC (YlZ xs.length none none (-1)) xs) st1)
  | none => .bad)
 | _ => .bad
section
variable {X : Cx} {e : Expr} {pos p2 : Pos} {me : ME}
theorem YhX {j : Nat} {p3 p4 : Pos} (he : JE X e me) : JE X (.Subscript e (.Slice none none (some (.UnaryOp .USub (.Constant (.int 1) j p3) p4)) p2) pos) (YmZ me) := by
 show 256
 refine Subscript_ (thn (he pins s σ H (fun x H1 => (∃ a vs, x = .ref a /\ SqT X.K H1 a vs /\ ∀ p, H1 p = none -> Q (.ref p) (upd H1 p (.tup vs.reverse))) \/ (∃ z, x = .str z /\ (Ymd z).length <= cap /\ Q (.str (Ymd z)) H1) \/ ∃ a vs, x = .ref a /\ SqL X.K H1 a vs /\ (YlC (YlZ vs.length none none (-1)) vs).length <= sizeLine /\ ∀ p, H1 p = none -> Q (.ref p) (upd H1 p (.lst (YlC (YlZ vs.length none none (-1)) vs)))) I ⟨as, ρ, st, en, rp, YkV.bindE h fun p st1 as1 H1 v x rp1 d h1 => ?_⟩) fun v s1 ⟨x, H1, I1, r1, q1⟩ => ?_)
 ·cases d with
  | @tup a vs xs e r => exact .inl ⟨a, vs, rfl, e, fun p hp => h1 as1 _ _ (Ext.laid hp) (rp1.laid hp) (.tup (.of Yl) (r.reverse.ext (Ext.laid hp)))⟩
  | @str z =>
   have h2 : YkV X as1 H1 ρ (if (Ymd z).length <= cap then .ok (.str (Ymd z)) st1 else .bad) Q := h1
   by_cases hl : (Ymd z).length <= cap
   ·rw [ZAI hl] at h2
    exact .inr (.inl ⟨_, rfl, hl, h2 as1 H1 _ Ext.refl rp1 .str⟩)
   ·rw [ZAJ hl] at h2; exact h2.elim
  | @ref k a e =>
   have h2 : YkV X as1 H1 ρ (match listAt st1 k with | some xs => ofO (YlW (YlC (YlZ xs.length none none (-1)) xs) st1) | none => .bad) Q := h1
   cases q : listAt st1 k with
   | none => rw [q] at h2; exact h2.elim
   | some xs =>
    rw [q] at h2
    dsimp only at h2
    have h3 := YkV.ofO h2
    obtain ⟨vs, sq, r⟩ := Y7 rp1 e q
    have hd := YaU r (YlZ xs.length none none (-1))
    rw [<- r.length] at hd h3
    exact .inr (.inr ⟨_, vs, rfl, sq, by rw [hd.length]; exact Yb8 h3, fun p hp => WY rp1 hd h3 hp⟩)
  | _ => show 173
 ·rcases q1 with ⟨a, vs, ex, hq, q1⟩ | ⟨z, ex, hz0, q1⟩ | ⟨a, vs, ex, hq, hz0, q1⟩
  ·subst ex
   cases r1
   refine ZCS ?_
   rw [evalPart_none]
   refine ZAC (ZAC ?_)
   rw [evalPart_some]
   refine UnaryOp_ (ZBq (neg_int ?_))
   obtain ⟨its, r, ht, hz⟩ := I1.tuple hq
   show wpAny (model X.prog X.w) X.A (subscriptTail e _ (.ref a) (.ref s1.heap.objs.size)) (EP X pins σ Q) X.xe { s1 with heap := s1.heap.push { cls := .type "slice", data := .fields #[.none, .none, .int (-1) (s1.toks + 1)] }, toks := s1.toks + 1 + 1 }
   have I2 : Inv X pins σ H1 { s1 with heap := s1.heap.push { cls := .type "slice", data := .fields #[.none, .none, .int (-1) (s1.toks + 1)] }, toks := s1.toks + 1 + 1 } := I1.kept fun b ob q => ZAB _ q
   obtain ⟨its2, r2, ht2, hz2⟩ := I2.tuple hq
   refine tail_any (ops := [.ref a, .ref s1.heap.objs.size]) ht2.typeIs PyProof.Rows.slot_tuple_getitem.lookup (Vp (u := s1.toks + 1) ht2 ⟨_, Heap.get?_push_size _ rfl, rfl, rfl⟩ ?_ (by rw [<- r2.length]; exact hz2)) (by with_unfolding_all rfl)
   refine ⟨.ref _, _, I2.laid (o := .tup vs.reverse) (fun b ob q => ZAB _ q) (ZAE _) ?_, rfl, q1 _ (I2.hok.fresh (ZAE _))⟩
   exact ⟨by rw [List.length_reverse]; exact hz2, _, r2.reverse, IsTup.new _ _⟩
  ·subst ex
   obtain ⟨t, rfl⟩ : ∃ t, v = .str z t := r1
   refine ZCS ?_
   rw [evalPart_none]
   refine ZAC (ZAC ?_)
   rw [evalPart_some]
   refine UnaryOp_ (ZBq (neg_int ?_))
   show wpAny (model X.prog X.w) X.A (subscriptTail e _ (.str z t) (.ref s1.heap.objs.size)) (EP X pins σ Q) X.xe { s1 with heap := s1.heap.push { cls := .type "slice", data := .fields #[.none, .none, .int (-1) (s1.toks + 1)] }, toks := s1.toks + 1 + 1 }
   have I2 : Inv X pins σ H1 { s1 with heap := s1.heap.push { cls := .type "slice", data := .fields #[.none, .none, .int (-1) (s1.toks + 1)] }, toks := s1.toks + 1 + 1 } := I1.kept fun b ob q => ZAB _ q
   refine tail_any (ops := [.str z t, .ref s1.heap.objs.size]) (typeIs_str _ z t) F.slot_str_getitem.lookup (wpAny_getItem_str_slice (l := none) (u := none) (st := some (-1, s1.toks + 1)) ⟨_, Heap.get?_push_size _ rfl, rfl, rfl⟩ rfl ?_) (by with_unfolding_all rfl)
   show (Made.str (Ymd z)).post _ _
   exact ⟨ZAH hz0 Ys, .str (Ymd z), H1, I2.kept (t' := s1.toks + 1 + 1 + 1) fun b ob q => q, ⟨_, rfl⟩, q1⟩
  ·subst ex
   cases r1
   refine ZCS ?_
   rw [evalPart_none]
   refine ZAC (ZAC ?_)
   rw [evalPart_some]
   refine UnaryOp_ (ZBq (neg_int ?_))
   show wpAny (model X.prog X.w) X.A (subscriptTail e _ (.ref a) (.ref s1.heap.objs.size)) (EP X pins σ Q) X.xe { s1 with heap := s1.heap.push { cls := .type "slice", data := .fields #[.none, .none, .int (-1) (s1.toks + 1)] }, toks := s1.toks + 1 + 1 }
   have I2 : Inv X pins σ H1 { s1 with heap := s1.heap.push { cls := .type "slice", data := .fields #[.none, .none, .int (-1) (s1.toks + 1)] }, toks := s1.toks + 1 + 1 } := I1.kept fun b ob q => ZAB _ q
   obtain ⟨its, r, ht, hz'⟩ := I2.list hq
   have hlen := r.length
   refine tail_any (ops := [.ref a, .ref s1.heap.objs.size]) ht.isList.typeIs slot_list_getitem.lookup ?_ (by with_unfolding_all rfl)
   refine wpAny_getItem_list_slice (lo := none) (hi := none) (st := some (-1)) ht.isList (Heap.IsSliceOf.new ..) ?_ ?_ ?_ (by decide) ?_ (by rw [ZAZ] <;> omega)
   ·exact .none
   ·exact .none
   ·exact .int _ _
   ·rw [J7, <- hlen]
    refine ⟨.ref _, _, I2.laid (t' := s1.toks + 1 + 1) (o := .lst (YlC (YlZ vs.length none none (-1)) vs)) (fun b ob q => ZAB _ q) (ZAE _) ?_, rfl, q1 _ (I2.hok.fresh (ZAE _))⟩
    exact ⟨hz0, _, 0, Ya6 r _, ZAF _ rfl⟩
end
theorem Yip (n : Nat) : sliceRange ((n : Int) - 1) (-1) (-1) = (List.range n).reverse := by
 unfold sliceRange
 have hc : (if (-1 : Int) > 0 then (if (n : Int) - 1 < -1 then (-1 - ((n : Int) - 1) + -1 - 1) / -1 else 0) else (if (n : Int) - 1 > -1 then ((n : Int) - 1 - -1 - -1 - 1) / (- -1) else 0)) = (n : Int) := by
  show 205
  by_cases h : (n : Int) - 1 > -1
  ·rw [ZAI h, show (- -1 : Int) = 1 from rfl, Int.ediv_one]; omega
  ·rw [ZAJ h]; omega
 simp only [hc, Int.toNat_natCast]
 apply List.ext_getElem
 ·simp
 ·intro i h1 h2
  simp only [List.getElem_map, List.getElem_range, List.getElem_reverse, List.length_range]
  simp at h1
  omega
theorem YfW {α : Type} (xs : List α) : YlC (List.range xs.length).reverse xs = xs.reverse := by
 unfold YlC
 rw [List.filterMap_reverse]
 congr 1
 have : ∀ n : Nat, n <= xs.length -> (List.range n).filterMap (fun i => xs[i]?) = xs.take n := by
  intro n hn
  induction n with
  | zero => rfl
  | succ n ih =>
   rw [List.range_succ, ZCV, ih (by omega), ZBd, ZAR (show n < xs.length by omega)]
   simp [show n < xs.length by omega]
 rw [this _ (ZAE _), ZA9]
theorem Yhq (z : Str) : Ymd z = ⟨z.cps.toList.reverse.toArray⟩ := by
 unfold Ymd
 have : Builtin.Str.strSliceIndices none none (-1) z.length = (List.range z.cps.toList.length).reverse := Yip _
 show 191
 have h2 := YfW z.cps.toList
 unfold YlC at h2
 congr 2
 rw [<- h2]
 congr 1
 funext i
 simp
section
variable {ρ : Rho} {st : YkJ}
end
section
variable {X : Cx}
end
section
variable {ρ : Rho} {st : YkJ}
end
def YmI (z : Str) : List V := z.cps.toList.map fun c => V.str ⟨#[c]⟩
theorem YeT (z : Str) : (YmI z).length = z.cps.size := by unfold YmI; simp
theorem Yeh {z : Str} {acc : Array Value} (h : ItemsOf (SignAt z) acc z.cps.size) : Vals (YmI z) acc.toList := by
 show 245
 have gen : ∀ (cs : List Nat) (vs : List Value), cs.length = vs.length -> (∀ (i : Nat) v, vs[i]? = some v -> ∃ c u, cs[i]? = some c /\ v = .str ⟨#[c]⟩ u) -> Vals (cs.map fun c => V.str ⟨#[c]⟩) vs := by
  intro cs
  induction cs with
  | nil =>
   intro vs hl _
   cases vs with
   | nil => exact .nil
   | cons _ _ => cases hl
  | cons c cs ih =>
   intro vs hl hv
   cases vs with
   | nil => cases hl
   | cons v vs =>
    obtain ⟨d, u, e1, e2⟩ := hv 0 v rfl
    have e1' : some c = some d := e1
    cases e1'
    exact .cons ⟨u, e2⟩ (ih vs (Nat.succ.inj hl) fun i w hw => hv (i + 1) w hw)
 refine gen z.cps.toList acc.toList (by simp [h1]) fun i v hv => ?_
 obtain ⟨c, u, e1, e2⟩ := h2 i v (by simpa using hv)
 exact ⟨c, u, by simpa using e1, e2⟩
theorem YeC {K : Frag} {as : List Addr} {H : Hp} (z : Str) : Dens K as H (YmI z) (Ymh z) := by
 unfold YmI Ymh
 induction z.cps.toList with
 | nil => exact .nil
 | cons c cs ih => exact .cons .str ih
section
variable {prog : Program} {w : World} {A : Around} {E : VSP} {s : Shared}
theorem YcK {z : Str} {t : Tok} {R : Result -> Shared -> Prop} (hh : A.handled = none) (hz : z.cps.size <= sizeLine)
 (hR : ∀ h' tk acc c1, (∀ b o, s.heap.get? b = some o -> h'.get? b = some o) -> h'.get? s.heap.objs.size = some { cls := .type "list", dict := none, data := .seq acc c1, slots := #[] } -> ItemsOf (SignAt z) acc z.cps.size -> R (.ok (.ret (.ref s.heap.objs.size))) { s with heap := h', toks := tk }) :
 codeAny (model prog w) A (.builtin "proto.collect" ⟨[.str z t], []⟩) R s := by
 apply codeAny_builtin F.entry_proto_collect
 rw [Around.under_plainId F.plain_proto_collect _]
 apply ZAA (m := newList [])
 refine ZAb ?_
 refine ZAC ⟨plainId_quiet F.plain_list_iadd _, ?_⟩
 apply codeAny_builtin F.entry_list_iadd
 rw [Around.under_plainId F.plain_list_iadd _]
 have g0 : (s.heap.push { cls := .type "list", data := .seq ([] : List Value).toArray }).get? s.heap.objs.size = some { cls := .type "list", data := .seq #[] } := ZAF _ rfl
 show wpAny _ _ (Builtin.List.listExtendWith (Value.ref s.heap.objs.size) (Value.str z t) (Value.ref s.heap.objs.size)) _ _ _
 exact wpAny_extend_str (s := { s with heap := s.heap.push { cls := .type "list", data := .seq ([] : List Value).toArray } }) hh z t s.heap.objs.size (.ref s.heap.objs.size) _ g0 (fun h1 tk acc c1 hk hS hi => hR h1 tk acc c1 (fun b o e => hk b o (ZAL (ZAD e)) (ZAB _ e)) hS hi) hz
theorem gathered {z : Str} {t : Tok} {Q : List Value -> Shared -> Prop} (hh : A.handled = none) (hz : z.cps.size <= sizeLine)
 (hQ : ∀ h' tk acc, (∀ b o, s.heap.get? b = some o -> h'.get? b = some o) -> s.heap.objs.size <= h'.objs.size -> ItemsOf (SignAt z) acc z.cps.size -> Q acc.toList { s with heap := h', toks := tk }) : wpAny (model prog w) A (collect (.str z t)) Q E s := by
 unfold collect
 apply ZAA
 apply ZB0
 refine YcK hh hz fun h1 tk acc c1 hk hS hi => ?_
 refine ZAA (m := load s.heap.objs.size) (ZCG hS ?_)
 exact ZAC (hQ h1 tk acc hk (ZBf (ZAD hS)) hi)
theorem Jt (z : Str) (t : Tok) (hz : z.cps.size <= sizeLine) :
 Meets (Builtin.«tuple.__new__» ⟨[.type "tuple", .str z t], []⟩) (fun A R s => A.handled = none /\ ∀ (h' : Heap) (tk : Nat) (acc : Array Value), (∀ b o, s.heap.get? b = some o -> h'.get? b = some o) -> s.heap.objs.size <= h'.objs.size -> ItemsOf (SignAt z) acc z.cps.size ->
  R (.ok (.ret (.ref h'.objs.size))) { s with heap := h'.push { cls := .type "tuple", data := .seq acc }, toks := tk }) :=
 .of_wp fun prog w A R s h => by
  obtain ⟨hh, h⟩ := h
  have f1 := sub_tuple_self
  have f2 := init_tuple_lookup
  have f3 := madeHere_tuple
  have f4 : s.TypeIs (.str z t) "str" := rfl
  have f5 : A.in1.handled = none := hh
  wp_walk using ZBg f4, gathered (t := t) f5 hz
  intro h1 tk acc hk hsz hi
  apply ZAA (m := pure acc.toList.toArray)
  apply ZAC
  have ea : acc.toList.toArray = acc := by simp
  show wpAny _ _ (Builtin.Tuple.tupleExact acc.toList.toArray >>= fun v => ret v) _ _ _
  rw [ea]
  unfold Builtin.Tuple.tupleExact
  refine ZAA (ZAb ?_ (by show acc.size <= sizeLine; rw [hi.1]; exact hz))
  exact ZAC ⟨_, rfl, h h1 tk acc hk hsz hi⟩
theorem JZ {Q : VSP} (hh : A.handled = none) (z : Str) (t : Tok) (hz : z.cps.size <= sizeLine)
 (h : ∀ (h' : Heap) (tk : Nat) (acc : Array Value), (∀ b o, s.heap.get? b = some o -> h'.get? b = some o) -> s.heap.objs.size <= h'.objs.size -> ItemsOf (SignAt z) acc z.cps.size -> Q (.ref h'.objs.size) { s with heap := h'.push { cls := .type "tuple", data := .seq acc }, toks := tk }) :
 wpAny (model prog w) A (call (.type "tuple") [.str z t]) Q E s :=
 callType_new F.called_tuple (by decide) (F.typeCall_tuple_1 _) (F.newCall_tuple_1 _) (fun obj => F.args_object_init_2 obj _) F.entry_tuple_new
  (Jt z t hz) ⟨hh, fun h1 tk acc hk hsz hi => ⟨⟨_, ZAF _ rfl, rfl⟩, h h1 tk acc hk hsz hi⟩⟩
end
section
variable {X : Cx}
def YlT : GC := fun ps st => match ps with
 | [.str z] => if z.cps.size <= cap then okP (.tup (Ymh z)) st else none
 | _ => Ymi ps st
theorem W1 (hc : X.calm = true) : YlD X (.type "tuple") (rMC X YlT) := by
 intro pins s σ H xs us Q I r ⟨as, st, ps, rp, d, h⟩
 have old : Yk4 X as H (Ymi ps st) Q -> wpAny (model X.prog X.w) X.A (call (.type "tuple") us) (EP X pins σ Q) X.xe s := fun h' => Ygo pins s σ H xs us Q I r ⟨as, st, ps, rp, d, h'⟩
 match ps, d, h, old with
 | [.str z], d, h, old =>
  have h' : Yk4 X as H (if z.cps.size <= cap then okP (.tup (Ymh z)) st else none) Q := h
  by_cases q : z.cps.size <= cap
  ·rw [ZAI q] at h'
   obtain ⟨x, rfl, dx⟩ := d.one
   cases dx
   obtain ⟨u, rfl, ru⟩ := vals1 r
   obtain ⟨t, rfl⟩ : ∃ t, u = .str z t := ru
   refine JZ (I.ok.hd hc) z t (ZAH q Ys) fun h1 tk acc hk hsz hi => ?_
   have hf : H h1.objs.size = none := I.hok.fresh hsz
   refine ⟨.ref h1.objs.size, _, I.laid (t' := tk) (o := .tup (YmI z)) (fun b o e => ZAB _ (hk b o e)) hsz ?_, rfl, h' as _ _ (Ext.laid hf) (rp.laid hf) (.tup (.of Yl) ((YeC z).ext (Ext.laid hf)))⟩
   refine ⟨by rw [YeT]; exact ZAH q Ys, acc.toList, Yeh hi, ?_⟩
   have := IsTup.new h1 acc
   show 192
  ·rw [ZAJ q] at h'; exact h'.elim
 | [], _, h, old => exact old h
 | [.non], _, h, old => exact old h
 | [.bl _], _, h, old => exact old h
 | [.int _], _, h, old => exact old h
 | [.ref _], _, h, old => exact old h
 | [.tup _], _, h, old => exact old h
 | _ :: _ :: _, _, h, old => exact old (by simp only [YlT] at h; exact h)
end
section
variable {prog : Program} {w : World} {A : Around} {E : VSP} {s : Shared}
set_option maxHeartbeats 3200000 in
theorem YeJ {z : Str} {tz : Tok} {ys : List Str} {Q : VSP}
 (hh : A.handled = none) (hys : ys = z.cps.toList.map fun c => (⟨#[c]⟩ : Str)) (hb : ys.length + 1 < scanBound)
 (h : ∀ (h' : Heap) (tk : Nat), TS prog w h' s.heap.objs.size (once ys) -> s.heap.objs.size < h'.objs.size -> (∀ b o, s.heap.get? b = some o -> h'.get? b = some o) -> Q (.ref s.heap.objs.size) { s with heap := h', toks := tk }) :
 wpAny (model prog w) A (call (.type "set") [.str z tz]) Q E s := by
 have hn : z.cps.size = ys.length := by rw [hys]; simp
 obtain ⟨c, tl, hmro⟩ := F.called_set.mro
 have q1 := F.called_set.made
 have q2 := F.called_set.sub
 refine ZCb (codeAny_of_tree ?_)
 show wpAny _ _ (callAny (.type "set") _) _ _ _
 refine ZAC ⟨Code.quiet_builtin _ (by decide +kernel), codeAny_builtin F.entry_type_call ?_⟩
 rw [Around.under_plain (weight_type_call_type "set" [.str z tz] []) rfl]
 have q3 := F.called_set.notType
 have q4 := F.called_set.canCreate
 have q5 := F.typeCall_set_1 (.str z tz)
 show 210
 refine codeAny_mono (Jk (.str z tz) (E := E) (Q := fun obj s1 => obj = .ref s.heap.objs.size /\ s1 = { s with heap := s.heap.push (Yk0 #[] 0 (.fresh 0 0 (!(byText w)))) }) ⟨rfl, rfl⟩) fun r s1 hr => ?_
 cases r with
 | error e => exact hr
 | ok fl =>
  cases fl with
  | ret obj =>
   obtain ⟨rfl, rfl⟩ := hr
   have gS : (s.heap.push (Yk0 #[] 0 (.fresh 0 0 (!(byText w))))).get? s.heap.objs.size = some (Yk0 #[] 0 (.fresh 0 0 (!(byText w)))) := ZAF _ rfl
   have hT : Shared.TypeIs { s with heap := s.heap.push (Yk0 #[] 0 (.fresh 0 0 (!(byText w)))) } (.ref s.heap.objs.size) "set" := ⟨_, gS, rfl⟩
   have q6 := F.called_set.init.lookup
   have q7 := F.called_set.init.bind (.ref s.heap.objs.size)
   show 210
   refine codeAny_mono (codeAny_call_builtin (R := wants (fun r s2 => r = .none /\ ∃ h' tk, s2 = { s with heap := h', toks := tk } /\ TS prog w h' s.heap.objs.size (once ys) /\ (∀ b o, s.heap.get? b = some o -> h'.get? b = some o)) E)
    F.called_set.init.plain F.entry_set_init (check_set_init_1 hT ?_)) fun r2 s2 hr2 => ?_
   ·have q8 := F.sub_str_set
    have q9 := F.sub_str_frozenset
    have q10 : (Value.type "str" == Value.type "dict") = false := by decide
    have q11 : Shared.TypeIs { s with heap := s.heap.push (Yk0 #[] 0 (.fresh 0 0 (!(byText w)))) } (.str z tz) "str" := rfl
    unfold Builtin.«set.__init__» noKeywords Builtin.Frozenset.updateFrom
    generalize hPI : pyIter = PI
    wp_walk
    subst hPI
    refine wpAny_pyIter_str fun oI St W0 hst => ?_
    refine ZAA (ZB0 ?_)
    have hh3 : A.in1.in1.in1.handled = none := by simp [hh]
    have hSf : s.heap.objs.size ∉ [(s.heap.push (Yk0 #[] 0 (.fresh 0 0 (!(byText w))))).objs.size] := by
     rw [Heap.size_push]; simp only [List.mem_singleton]
     exact ZAL (ZAz _)
    have hv : ∀ (i : Nat) (v : Value), SignAt z i v -> ∃ x t, ys[i]? = some x /\ v = .str x t := fun i v ⟨c, u, e1, e2⟩ => by
     refine ⟨⟨#[c]⟩, u, ?_, e2⟩
     rw [hys, ZAj, ZBP, e1]
     rfl
    have W := (W0 A.in1.in1.in1 hh3).toS
    rw [hn] at W
    refine Vo W s.heap.objs.size hSf hv hb (ys.length - 0) 0 _ (by omega) (ZBZ _)
     hst ?hS0 ?hR
    case hS0 =>
     exact TS.empty (ZAB _ gS)
    case hR =>
     intro s3 hm T3
     obtain ⟨h3, g3, d3, tk3, os3⟩ := s3
     have eg : g3 = s.gens := hm.gens
     have ed : d3 = s.drawn := hm.drawn
     have eo : os3 = s.os := hm.os
     subst eg; subst ed; subst eo
     show wpAny _ _ _ _ _ _
     refine ZAC ?_
     show wpAny _ _ (ret Value.none) _ _ _
     refine ZAC ⟨rfl, h3, tk3, rfl, T3, fun b o e => ?_⟩
     have hb := ZAD e
     have hb1 : b ≠ s.heap.objs.size := ZAL hb
     have hb2 : b ≠ (s.heap.push (Yk0 #[] 0 (.fresh 0 0 (!(byText w))))).objs.size := by
      rw [ZAa]; exact ZAL (ZBD hb)
     exact hm.heap b o (by simp only [List.mem_cons, List.mem_singleton, List.not_mem_nil, or_false, not_or]; exact ⟨hb1, hb2⟩) (Heap.get?_push_of_some _ (Heap.get?_push_of_some _ e))
   ·cases r2 with
    | error e => exact hr2
    | ok fl2 =>
     cases fl2 with
     | ret r =>
      obtain ⟨rfl, h', tk, rfl, hS', hk'⟩ := hr2
      show 210
      obtain ⟨es, ep, t, ho, T⟩ := hS'
      exact h _ _ ⟨es, ep, t, ho, T⟩ (ZAD ho) hk'
     | _ => exact hr2.elim
  | _ => exact hr.elim
end
def YlH (me : ME) : MA := fun ρ st => (me ρ st).bind fun p st1 => match p with
 | .ref k => (match listAt st1 k with
  | some xs => (match Ylv xs with
   | some ys => if ys.length < 4000 /\ (once ys).length < 64 then .ok ((YlM (once ys)).map P.str) st1 else .bad
   | none => .bad)
  | none => .bad)
 | .str z => if (z.cps.toList.map fun c => (⟨#[c]⟩ : Str)).length < 4000 /\ (once (z.cps.toList.map fun c => (⟨#[c]⟩ : Str))).length < 64 then .ok ((YlM (once (z.cps.toList.map fun c => (⟨#[c]⟩ : Str)))).map P.str) st1 else .bad
 | _ => .bad
section
variable {X : Cx} {e : Expr} {me : ME} {p1 p2 c1 c2 : Pos}
theorem Jm (hc : X.calm = true) (hg : Gl X "sorted") (hm : X.mg "sorted" = none) (hv : bootBuiltins "sorted" = some (.builtin "sorted")) (hg2 : Gl X "set") (hm2 : X.mg "set" = none) (hv2 : bootBuiltins "set" = some (.type "set")) (he : JE X e me)
 (hs : starEach [e] X.env = (false, eval e X.env) :: starEach [] X.env := by rfl)
 (hs2 : starEach [Expr.Call (.Name "set" p2) [e] [] c2] X.env = (false, eval (.Call (.Name "set" p2) [e] [] c2) X.env) :: starEach [] X.env := by rfl) :
 JL X (.Call (.Name "sorted" p1) [.Call (.Name "set" p2) [e] [] c2] [] c1) (YlH me) := by
 show 256
 refine ZBI (Wt I hg hm hv ?_ (by decide) (by decide))
 refine PyProof.Rows.callWith_builtin1 ?_ hs2 rfl
 rw [hs2]
 show wpAny _ _ (spliced ((false, eval (.Call (.Name "set" p2) [e] [] c2) X.env) :: backTo c1 (starEach [] X.env))) _ _ s
 refine Calls.spliced_cons ?_
 refine ZBI (Wt I hg2 hm2 hv2 ?_ (by decide) (by decide))
 refine PyProof.Rows.callWith_type1 ?_ hs rfl
 rw [hs]
 show wpAny _ _ (spliced ((false, eval e X.env) :: backTo c2 (starEach [] X.env))) _ _ s
 refine Calls.spliced_cons ?_
 unfold YlH at h
 refine thn (he pins s σ H (fun v H1 => ∃ ys ks as1 st1, ((∃ a vs, v = .ref a /\ SqL X.K H1 a vs /\ (∀ us, Vals vs us -> StrsAre us ys)) \/ ∃ z, v = .str z /\ ys = z.cps.toList.map fun c => (⟨#[c]⟩ : Str)) /\ ys.length < 4000 /\ (once ys).length < 64 /\ ks = YlM (once ys) /\ Rep X.K as1 st1 H1 /\
  ∀ l, H1 l = none -> Q (.ref l) (upd H1 l (.lst (ks.map V.str)))) I ⟨as, ρ, st, en, rp, ?_⟩) fun u s1 ⟨x, H1, I1, r1, q1⟩ => ?_
 ·refine Yk3.bindE (Q := Q) h fun p st1 as1 H1 v x rp1 d h1 => ?_
  cases d with
  | @str z =>
   show 193
   by_cases q : (z.cps.toList.map fun c => (⟨#[c]⟩ : Str)).length < 4000 /\ (once (z.cps.toList.map fun c => (⟨#[c]⟩ : Str))).length < 64
   ·rw [ZAI q] at h1
    refine ⟨_, _, as1, st1, .inr ⟨z, rfl, rfl⟩, q.1, q.2, rfl, rp1, fun l hl => ?_⟩
    exact h1 as1 _ l _ (Ext.laid hl) (rp1.laid hl) Yl (rp1.fresh hl) (WW _)
   ·rw [ZAJ q] at h1; exact h1.elim
  | @ref k a e =>
   show 193
   cases q : listAt st1 k with
   | none => rw [q] at h1; exact h1.elim
   | some xs =>
    rw [q] at h1
    show 193
    cases q2 : Ylv xs with
    | none => rw [q2] at h1; exact h1.elim
    | some ys =>
     rw [q2] at h1
     show 193
     by_cases z : ys.length < 4000 /\ (once ys).length < 64
     ·rw [ZAI z] at h1
      obtain ⟨vs, g1, g2⟩ := Y7 rp1 e q
      refine ⟨ys, _, as1, st1, .inl ⟨a, vs, rfl, g1, fun us r => ZL g2 r q2⟩, z.1, z.2, rfl, rp1, fun l hl => ?_⟩
      exact h1 as1 _ l _ (Ext.laid hl) (rp1.laid hl) Yl (rp1.fresh hl) (WW _)
     ·rw [ZAJ z] at h1; exact h1.elim
  | _ => show 173
 ·obtain ⟨ys, ks, as1, st1, hway, hl1, hl2, hks, rp1, hq⟩ := q1
  refine Calls.spliced_nil ?_
  have fin : ∀ (h2 : Heap) (tk : Nat), TS X.prog X.w h2 s1.heap.objs.size (once ys) -> s1.heap.objs.size < h2.objs.size -> (∀ b o, s1.heap.get? b = some o -> h2.get? b = some o) -> wpAny (model X.prog X.w) X.A (spliced []) (fun vs s₂ => wpAny (model X.prog X.w) X.A (call (.builtin "sorted") ((.ref s1.heap.objs.size) :: vs)) (EP X pins σ Q) X.xe s₂) X.xe { s1 with heap := h2, toks := tk } := fun h2 tk TS2 lt2 keep2 => by
   have I2 : Inv X pins σ H1 { s1 with heap := h2, toks := tk } := I1.kept keep2
   refine Calls.spliced_nil ?_
   refine Jv TS2 hl2 (I1.ok.hd hc) fun D s3 out ss n hD keep3 hg3 ho3 hD3 hss hp3 hs3 => ?_
   have ess : ss = ks := by rw [hks]; exact Wi hp3 (ZX ss hs3)
   have hDs : s1.heap.objs.size <= D := ZAH (ZBf (ZB4 (ZAE _) lt2)) hD
   have hzl : ss.length <= sizeLine := by
    rw [hp3.length_eq, sizeLine_eq]; omega
   have I3 : Inv X pins σ (upd H1 D (.lst (ss.map V.str))) { s1 with heap := s3.heap, gens := s3.gens, drawn := s3.drawn, toks := s3.toks } := by
    have hn : H1 D = none := I1.hok.fresh hDs
    have I3a : Inv X pins σ H1 { s1 with heap := s3.heap, gens := s3.gens, drawn := s3.drawn, toks := s3.toks } := by
     refine I1.step (ch := []) (fun b hb => absurd hb (by simp)) (fun b o _ _ _ e _ => keep3 b o (keep2 b o e)) (fun b o _ _ _ e _ => ⟨o.slots, keep3 b o (keep2 b o e)⟩) (fun b o _ e n => n) (fun b o _ e => ⟨o, keep3 b o (keep2 b o e)⟩)
      (fun b xs e => e) (fun b o u e => e) (fun b ps e => ⟨#[], by rw [e]; simp⟩) (fun m hm => hm.keeps fun b o e => keep3 b o (keep2 b o e)) (I1.hok.kept fun b o e => keep3 b o (keep2 b o e)) ?_
     rw [show s3.gens = s1.gens from hg3]; exact I1.bare
    have fo := I1.fpOk hDs hn
    exact Mi.Inv.track I3a hD3 hn (VS hss) (by rw [ZAO]; exact hzl) (ZAH I1.sz hDs) fo.2.1 fo.2.2.2.2.1 fo.2.2.2.2.2
   have es3 : { s1 with heap := s3.heap, gens := s3.gens, drawn := s3.drawn, toks := s3.toks } = s3 := by
    have : s3.os = s1.os := ho3
    cases s3
    simp only at this
    simp [this]
   rw [es3] at I3
   exact ⟨.ref D, _, I3, rfl, by rw [ess]; exact hq D (I1.hok.fresh hDs)⟩
  rcases hway with ⟨a, vs, rfl, hsq, hst⟩ | ⟨z, rfl, hys⟩
  ·cases r1
   obtain ⟨its, rv, pl, _⟩ := I1.list hsq
   exact YeH (I1.ok.hd hc) pl.isList (by simpa using hst its rv) (by show _ < 4096; omega) fun h2 tk TS2 lt2 keep2 => fin h2 tk TS2 lt2 keep2
  ·obtain ⟨t, rfl⟩ : ∃ t, u = .str z t := r1
   exact YeJ (I1.ok.hd hc) hys (by show _ < 4096; omega) fun h2 tk TS2 lt2 keep2 => fin h2 tk TS2 lt2 keep2
end
def YmH (z : Str) (q : P) (st : YkJ) : R P := match Ylf q st with
 | some ps => (match Ylv ps with
  | some ys => if Yly z ys <= cap then .ok (.str (Txt.join z ys)) st else .bad
  | none => .bad)
 | none => .bad
def Ynm (me mx : ME) : ME := fun ρ st => (me ρ st).bind fun p st1 => match p with
 | .str z => (mx ρ st1).bind fun q st2 => YmH z q st2
 | _ => .bad
section
variable {X : Cx} {o e : Expr} {me mx : ME} {apos cpos : Pos}
theorem Yg8 (ho : JE X o me) (h : JE X e mx)
 (hbase : attributeBase o "join" X.env (eval o X.env) = eval o X.env := by rfl)
 (hfew : ((backTo cpos (starEach [e] X.env)).all (fun x => !x.1) && (backToKw cpos (keywordEach [] X.env)).all (fun x => x.1.isSome)
  && decide (([e] : List Expr).length + ([] : List Keyword).length + (if ([] : List Keyword).isEmpty then 0 else 1) < 30)) = true := by rfl)
 (hline : (apos.endLine == cpos.line) = true := by rfl) (hs : starEach [e] X.env = (false, eval e X.env) :: starEach [] X.env := by rfl) : JE X (.Call (.Attribute o "join" apos) [e] [] cpos) (Ynm me mx) :=
 PE.imp (YgH PySem.F.plainAttrs_str PySem.F.slot_str_join PySem.F.type_str_join Ycm ho (Wq h VT hs) hbase hfew hline hs) fun σ H Q ⟨as, ρ, st, en, rp, h⟩ => ⟨as, ρ, st, en, rp, YkV.bindE h fun p st1 as1 H1 v x rp1 d h1 => by
  cases d with
  | @str z =>
   refine ⟨rfl, as1, ρ, st1, en.ext x, rp1, YkV.bindE h1 fun q st2 as2 H2 w x2 rp2 d2 h2 => ?_⟩
   unfold YmH at h2
   cases q1 : Ylf q st2 with
   | none => rw [q1] at h2; exact h2.elim
   | some ps =>
    rw [q1] at h2
    dsimp only at h2
    obtain ⟨a, vs, rfl, hq, r⟩ := Ybu rp2 d2 q1
    cases q2 : Ylv ps with
    | none => rw [q2] at h2; exact h2.elim
    | some ys =>
     rw [q2] at h2
     by_cases hz : Yly z ys <= cap
     ·simp only [if_pos hz] at h2
      exact ⟨z, a, vs, ys, rfl, rfl, hq, fun us r' => ZL r r' q2, hz, h2 as2 H2 _ Ext.refl rp2 .str⟩
     ·simp only [if_neg hz] at h2; exact h2.elim
  | _ => exact h1.elim⟩
end
section
variable {ρ : Rho} {st : YkJ}
theorem YhS {z : Str} {q : P} {ps : List P} (h : Ylf q st = some ps) : YmH z q st = match Ylv ps with
 | some ys => if Yly z ys <= cap then .ok (.str (Txt.join z ys)) st else .bad
 | none => .bad := by unfold YmH; rw [h]
end
end Mi
namespace Mi
open PySem PySem.Spec L2
open PyProof.Rows hiding St
theorem YeY {P' : Program} {w : World} {H : Hp} {h : Heap} {a : Addr} {o : HO} (x : Ylk P' w H h a o) : ∃ u, h.get? a = some u := by
 cases o with
 | lst xs => obtain ⟨_, _, _, _, e⟩ := x; exact ⟨_, e⟩
 | tup xs => obtain ⟨_, _, _, ob, e, _⟩ := x; exact ⟨_, e⟩
 | dK kvs => obtain ⟨_, _, _, _, o, _, _, e, _⟩ := x; exact ⟨_, e⟩
 | dT kvs => obtain ⟨_, _, _, _, o, _, _, e, _⟩ := x; exact ⟨_, e⟩
 | set S n => obtain ⟨o, _, _, _, e, _⟩ := x; exact ⟨_, e⟩
 | ins C dx fs => obtain ⟨_, _, _, e, _⟩ := x; exact ⟨_, e⟩
 | own y => exact x
 | xd fs => obtain ⟨_, ⟨_, _, _, e, _⟩, _⟩ := x; exact ⟨_, e⟩
 | rng lo hi => obtain ⟨_, _, _, e⟩ := x; exact ⟨_, e⟩
 | frz ob u => obtain ⟨e, _⟩ := x; exact ⟨_, e⟩
 | tbl ps => exact ⟨_, x⟩
 | met f y => exact ⟨_, x⟩
 | ext φ => exact x.2.1
theorem WP (f : Array Value -> Array Value) (o : Obj) : (Obj.mapFields f o).dict = o.dict := by
 obtain ⟨c, d, dt, sl⟩ := o
 cases dt <;> rfl
structure YmK (l : List Env) (a : Addr) (Ts : List Addr) (h h' : Heap) : Prop where
 keep : ∀ b o, h.get? b = some o -> b ≠ a -> b ∉ Ts -> b ∉ frs l -> h'.get? b = some o
 slot : ∀ b o, h.get? b = some o -> b ∈ frs l -> ∃ sl, h'.get? b = some { o with slots := sl }
section
variable {M : Model} {A : Around} {E : VSP} {s : Shared} {base : Heap} {env e0 : Env} {l r : List Env} {L a : Addr} {oe : Obj} {vs : Array Value}
theorem Ycl {Q : VSP} (hfr : A.frames = some l) (hl : s.heap.FunFrames base l) (hle : l = e0 :: r) (h0 : e0.frame = some L) (hf : env.frame = some L)
 (h : ∀ h', Heap.SlotsOnly (frs l) s.heap h' -> Q (.ref L) { s with heap := h' }) : wpAny M A (PySem.frameOf env) Q E s := by
 subst hle
 unfold PySem.frameOf
 refine ZAA (wpAny_frameEnvs hfr ?_)
 have hdw : ((e0 :: r).dropWhile fun x => x.frame != env.frame) = e0 :: r := by simp [List.dropWhile, h0, hf]
 rw [hdw]
 unfold frameObject
 refine ZAA (ZAA (wpAny_readyFrames_fun hl fun h₁ hs₁ => ZAC ?_))
 rw [h0]
 exact ZAC (h h₁ hs₁)
theorem YnB {Q : Unit -> Shared -> Prop} {head : Value} {hadNext : Bool} (hfr : A.frames = some l) (hl : s.heap.FunFrames base l) (hle : l = e0 :: r) (h0 : e0.frame = some L) (hf : env.frame = some L)
 (he : s.heap.get? a = some oe) (hd : oe.data = .fields vs) (hsz : 1 < vs.size)
 (h : ∀ h' T oT ts, h'.get? a = some (oe.mapFields (·.setIfInBounds 1 (.ref T))) -> s.heap.get? T = none -> h'.get? T = some oT -> oT.data = .fields ts -> ts[3]? = some (rawInt L) ->
  (∀ b o, b ≠ a -> b ∉ frs l -> s.heap.get? b = some o -> h'.get? b = some o) -> (∀ b o, b ∈ frs l -> s.heap.get? b = some o -> ∃ sl, h'.get? b = some { o with slots := sl }) -> Q () { s with heap := h' }) :
 wpAny M A (do let a' <- PySem.frameOf env; let pl <- entryPlaceOf L hadNext; let b <- EntryCells.newEntry head a' .none (rawInt L) .none pl; setField (.ref a) 1 b) Q E s := by
 have hene : a ∉ frs l := fun hm => by
  obtain ⟨_, o, ho, hnf⟩ := hl.mem hm
  rw [he] at ho; cases ho; exact hnf vs hd
 refine ZAA (Ycl hfr hl hle h0 hf fun h₁ hs₁ => ?_)
 refine ZAA (wpAny_entryPlaceOf fun pl hpl => ?_)
 unfold EntryCells.newEntry newFields
 refine ZAA (ZAb ?_ (hpl.sizeOk5 _ _ _ _ _))
 have he₁ : h₁.get? a = some oe := (hs₁.2.1 a hene).trans he
 generalize hob : ({ cls := .type "traceback", dict := none, data := .fields ([head, .ref L, .none, rawInt L, .none] ++ (if pl.isEmpty then List.replicate 6 Value.none else pl)).toArray } : Obj) = ob
 have hbd : ob.data = .fields ([head, .ref L, .none, rawInt L, .none] ++ (if pl.isEmpty then List.replicate 6 Value.none else pl)).toArray := by rw [<- hob]
 have hfree : ob.isFreed = false := by rw [<- hob]; rfl
 have he₂ := ZAB (h := h₁) ob he₁
 refine ZB1 he₂ hd hsz ?_
 have hTe : h₁.objs.size ≠ a := ZBE (ZAD he₁)
 have hd₃ := Obj.data_mapFields hd (·.setIfInBounds 1 (Value.ref h₁.objs.size))
 have keep : ∀ b o, b ≠ a -> h₁.get? b = some o -> ((h₁.push ob).update a (Obj.mapFields (·.setIfInBounds 1 (Value.ref h₁.objs.size)))).get? b = some o := fun b o hb e => by
  rw [ZAT _ _ (ZA1 hb)]
  exact ZAB _ e
 refine h _ h₁.objs.size ob _ (ZAx _ he₂ (Obj.isFreed_of_fields hd₃)) (ZCa (by rw [hs₁.1]; exact ZAE _)) ((ZAT _ _ (ZA1 hTe)).trans (ZAF h₁ hfree)) hbd ?_ (fun b o hb hbf e => keep b o hb ((hs₁.2.1 b hbf).trans e)) fun b o hb e => ?_
 ·first | (simp; done) | (rcases hpl with rfl | ⟨_, _, _, _, _, _, _, rfl⟩ <;> simp)
 ·obtain ⟨sl, e1⟩ := hs₁.2.2 b o e
  refine ⟨sl, keep b _ (fun z => hene (z ▸ hb)) e1⟩
end
section
variable {M : Model} {A : Around} {E : VSP} {X : Cx} {pins : LAO} {σ : St} {H : Hp} {s : Shared} {a : Addr} {C : Value} {od : Option Addr} {N : Addr -> Prop}
theorem untracked (I : Inv X pins σ H s) {T : Addr} (z : s.heap.get? T = none) : H T = none := by
 cases q : H T with
 | none => rfl
 | some u =>
  obtain ⟨u', hu⟩ := YeY (I.hok T u q)
  rw [z] at hu; cases hu
theorem YmC {Q : Unit -> Shared -> Prop} (I : Inv X pins σ H s) (f : YlV N H a C od s.heap)
 (hQ : ∀ h' Ts, (∀ t ∈ Ts, N t /\ H t = none /\ t ≠ a /\ ∃ o vs, s.heap.get? t = some o /\ o.data = .fields vs) -> YmK X.stack a Ts s.heap h' -> YlV (fun b => N b \/ s.heap.get? b = none) H a C od h' -> Q () { s with heap := h' }) :
 wpAny M A (setFlight (.ref a) none) Q E s := by
 obtain ⟨na, ha, oe, vs, h1, h2, h3, h4, h5⟩ := f
 rcases h5 with h5 | ⟨T, oT, ts, g1, g2, g3, g4, g5, g6, g7⟩
 ·unfold setFlight
  refine ZAA (ZAg h1 h4 h5 ?_)
  show 205
  exact ZAC (hQ s.heap [] (fun _ z => nomatch z) ⟨fun b o e _ _ _ => e, fun b o e _ => ⟨o.slots, e⟩⟩ ⟨.inl na, ha, oe, vs, h1, h2, h3, h4, .inl h5⟩)
 ·have hsz3 : 3 < ts.size := g7
  refine wpAny_setFlight_none h1 h4 g1 g5 g6 hsz3 ?_
  have other : ∀ b o, b ≠ T -> s.heap.get? b = some o -> (s.heap.update T (Obj.mapFields (·.setIfInBounds 3 Value.none))).get? b = some o := fun b o hb e => (ZAT _ _ (ZA1 hb)).trans e
  refine hQ _ [T] (fun t z => by rw [List.mem_singleton.mp z]; exact ⟨g2, g3, g4, oT, ts, g5, g6⟩) ⟨fun b o e hb hbT hbf => other b o (by simpa using hbT) e, fun b o e hb => ⟨o.slots, other b o (fun z => ?_) e⟩⟩
   ⟨.inl na, ha, oe, vs, other a oe (Ne.symm g4) h1, h2, h3, h4, .inr ⟨T, _, _, g1, .inl g2, g3, g4, Heap.get?_update_self _ g5 (Obj.isFreed_of_fields (Obj.data_mapFields g6 _)), Obj.data_mapFields g6 _, by simp [hsz3]⟩⟩
  obtain ⟨_, o', q3, q4⟩ := I.stack.mem hb
  rw [z, g5] at q3; cases q3
  exact q4 ts g6
theorem Ymx {Q : Unit -> Shared -> Prop} {env e0 : Env} {r : List Env} {L : Addr} (I : Inv X pins σ H s) (f : YlV N H a C od s.heap) (hfr : A.frames = some X.stack) (hst : X.stack = e0 :: r) (h0 : e0.frame = some L) (hf : env.frame = some L)
 (hQ : ∀ h' Ts, (∀ t ∈ Ts, N t /\ H t = none /\ t ≠ a /\ ∃ o vs, s.heap.get? t = some o /\ o.data = .fields vs) -> YmK X.stack a Ts s.heap h' -> YlV (fun b => N b \/ s.heap.get? b = none) H a C od h' -> Q () { s with heap := h' }) :
 wpAny M A (noteFrame (.ref a) env) (fun _ s₂ => wpAny M A (setFlight (.ref a) none) Q E s₂) E s := by
 obtain ⟨na, ha, oe, vs, h1, h2, h3, h4, h5⟩ := f
 have fin : ∀ (Ts : List Addr) (h₀ : Heap), (∀ t ∈ Ts, N t /\ H t = none /\ t ≠ a /\ ∃ o vs, s.heap.get? t = some o /\ o.data = .fields vs) -> h₀.get? a = some oe -> (∀ b o, b ∉ Ts -> s.heap.get? b = some o -> h₀.get? b = some o) -> (∀ b, s.heap.get? b = none -> h₀.get? b = none) -> (∀ b, h₀.get? b = none -> s.heap.get? b = none) ->
  h₀.FunFrames X.base X.stack -> 1 < vs.size -> ∀ (head : Value) (hadNext : Bool), wpAny M A (do let a' <- PySem.frameOf env; let pl <- entryPlaceOf L hadNext; let b <- EntryCells.newEntry head a' .none (rawInt L) .none pl; setField (.ref a) 1 b)
   (fun _ s₂ => wpAny M A (setFlight (.ref a) none) Q E s₂) E { s with heap := h₀ } := fun Ts h₀ hT he hk hno hno' hff hsz head hadNext => by
  refine YnB (s := { s with heap := h₀ }) hfr hff hst h0 hf he h4 hsz fun h' T oT ts e1 e2 e3 e4 e5 e6 e7 => ?_
  have hTa : T ≠ a := fun z => by have e2' : h₀.get? T = none := e2; rw [z, he] at e2'; cases e2'
  have hsz3 : 3 < ts.size := (ZBF.mp e5).1
  have d1 := Obj.data_mapFields h4 (·.setIfInBounds 1 (Value.ref T))
  have sT : s.heap.get? T = none := hno' T e2
  refine wpAny_setFlight_none (s := { s with heap := h' }) e1 d1 (tb := T) (by simp [hsz]) e3 e4 hsz3 ?_
  have other : ∀ b o, b ≠ T -> h'.get? b = some o -> (h'.update T (Obj.mapFields (·.setIfInBounds 3 Value.none))).get? b = some o := fun b o hb e => (ZAT _ _ (ZA1 hb)).trans e
  have nT : ∀ b o, s.heap.get? b = some o -> b ≠ T := fun b o e z => by rw [z, sT] at e; cases e
  have nfr : ∀ b, b ∈ frs X.stack -> b ∉ Ts := fun b hb z => by
   obtain ⟨_, _, _, o, ws, q1, q2⟩ := hT b z
   obtain ⟨_, o', q3, q4⟩ := I.stack.mem hb
   rw [q1] at q3; cases q3
   exact q4 ws q2
  refine hQ _ Ts hT ⟨fun b o e hb hbT hbf => other b o (nT b o e) (e6 b o hb hbf (hk b o hbT e)), fun b o e hb => ?_⟩ ⟨.inl na, ha, _, _, other a _ (Ne.symm hTa) e1, ?_, ?_, d1, .inr ⟨T, _, _, by simp [hsz], .inr sT, untracked I sT, hTa, Heap.get?_update_self _ e3 (Obj.isFreed_of_fields (Obj.data_mapFields e4 _)), Obj.data_mapFields e4 _, by simp [hsz3]⟩⟩
  ·obtain ⟨sl, e8⟩ := e7 b o hb (hk b o (nfr b hb) e)
   exact ⟨sl, other b _ (nT b o e) e8⟩
  ·rw [Obj.cls_mapFields]; exact h2
  ·rw [WP]; exact h3
 rcases h5 with h5 | ⟨T, oT, ts, g1, g2, g3, g4, g5, g6, g7⟩
 ·unfold noteFrame
  simp only [hf]
  refine ZAA (ZAg h1 h4 h5 ?_)
  show 205
  exact fin [] s.heap (fun _ z => nomatch z) h1 (fun b o _ e => e) (fun b e => e) (fun b e => e) I.stack (ZBF.mp h5).1 _ _
 ·unfold noteFrame
  simp only [hf]
  refine ZAA (ZAg h1 h4 g1 ?_)
  rw [if_pos (show (Value.ref T != Value.none) = true from by simp)]
  refine wpAny_bind (wpAny_field g5 g6 (x := ts[3]) (by simp [g7]) ?_)
  by_cases hfl : (ts[3] == rawInt L) = true
  ·rw [ZAI hfl]
   exact ZAC (YmC I ⟨na, ha, oe, vs, h1, h2, h3, h4, .inr ⟨T, oT, ts, g1, g2, g3, g4, g5, g6, g7⟩⟩ hQ)
  rw [ZAJ hfl]
  refine ZAA (ZB1 g5 g6 g7 ?_)
  have other : ∀ b, b ≠ T -> (s.heap.update T (Obj.mapFields (·.setIfInBounds 3 Value.none))).get? b = s.heap.get? b := fun b hb => ZAT _ _ (ZA1 hb)
  have self : (s.heap.update T (Obj.mapFields (·.setIfInBounds 3 Value.none))).get? T = some _ := ZAx _ g5 (Obj.isFreed_of_fields (Obj.data_mapFields g6 _))
  refine fin [T] _ (fun t z => by rw [List.mem_singleton.mp z]; exact ⟨g2, g3, g4, oT, ts, g5, g6⟩) ((other a (Ne.symm g4)).trans h1) (fun b o hb e => (other b (by simpa using hb)).trans e) (fun b e => ?_) (fun b e => ?_) (I.stack.of_keeps fun b o hb hnf => ⟨o, (other b fun z => ?_).trans hb, rfl⟩) (Array.getElem?_eq_some_iff.mp g1).1 _ _
  ·exact (other b (fun z => by rw [z, g5] at e; cases e)).trans e
  ·by_cases z : b = T
   ·rw [z, self] at e; cases e
   ·rw [other b z] at e; exact e
  ·rw [z, g5] at hb; cases hb; exact hnf ts g6
theorem YmK.hok {Ts : List Addr} {h' : Heap} (I : Inv X pins σ H s) (n : YmK X.stack a Ts s.heap h') (ha : H a = none) (hT : ∀ t ∈ Ts, H t = none) : HOk X.prog X.w H h' := fun b u e => by
 refine (I.hok b u e).stay (fun c v hc q => ?_) (fun _ q => q) fun _ _ q => q
 have tr : ∃ z, H c = some z := by
  show 250
  ·exact ⟨_, e⟩
  ·exact ⟨_, hc⟩
 obtain ⟨z, hz⟩ := tr
 refine n.keep c v q (fun y => ?_) (fun y => ?_) fun y => ?_
 ·rw [y, ha] at hz; cases hz
 ·rw [hT c y] at hz; cases hz
 ·rw [I.stkFree c y] at hz; cases hz
end
end Mi
namespace Mi
open PySem PySem.Spec L2
open PyProof.Rows hiding St
def CX1 (P' : Program) (w : World) : CXT := fun outer H s E e s' => ∃ a C od H', e = .ref a /\ s'.os = s.os /\ AllBare s'.gens /\ Un (frs outer) [] H H' s.heap s'.heap /\ HOk P' w H' s'.heap /\
 YlV (fun b => s.heap.get? b = none) H' a C od s'.heap /\ E C od H'
section
variable {P' : Program} {w : World} {K : Frag} {mg : SOV} {base : Heap} {N : List Str} {qual : Str} {scope : Scope} {f : Addr} {cd : Value} {A : Around} {outer : List Env} {s₀ : Shared} {H₀ : Hp} {E : XK}
theorem leave1 {pins : LAO} {σ : St} {H : Hp} {s : Shared} {a : Addr} {C : Value} {od : Option Addr} (I : Inv (YlY (CX1 P' w) P' w K mg base N qual scope f cd A outer s₀ H₀ E) pins σ H s)
 (fl : YlV (Nw (YlY (CX1 P' w) P' w K mg base N qual scope f cd A outer s₀ H₀ E) pins) H a C od s.heap) (hE : E C od H) : (YlY (CX1 P' w) P' w K mg base N qual scope f cd A outer s₀ H₀ E).xe (.ref a) s := by
 show wpAny _ _ (leaving _ _) _ _ _
 unfold leaving
 refine ZAA (Ymx I fl I.ok.frames rfl rfl rfl fun h' Ts hT n f' => ?_)
 have noex : ∀ b : Addr, b ∉ (YlY (CX1 P' w) P' w K mg base N qual scope f cd A outer s₀ H₀ E).ex := fun b z => absurd (show b ∈ ([] : List Addr) from z) (by simp)
 have nw : ∀ b, Nw (YlY (CX1 P' w) P' w K mg base N qual scope f cd A outer s₀ H₀ E) pins b -> s₀.heap.get? b = none := fun b z => z.1.elim (fun y => absurd y (noex b)) fun y => y
 have ne : ∀ b o, s₀.heap.get? b = some o -> b ≠ a /\ b ∉ Ts := fun b o e =>
  ⟨fun z => (by rw [z, nw a fl.na] at e; cases e), fun z => (by rw [nw b (hT b z).1] at e; cases e)⟩
 have ins : ∀ b, b ∈ frs outer -> b ∈ frs (YlY (CX1 P' w) P' w K mg base N qual scope f cd A outer s₀ H₀ E).stack := fun b hb => by
  obtain ⟨env, he, hf⟩ := ZBH.mp hb
  exact ZBH.mpr ⟨env, .tail _ he, hf⟩
 have neL : ∀ b o, s₀.heap.get? b = some o -> b ∉ frs outer -> b ∉ frs (YlY (CX1 P' w) P' w K mg base N qual scope f cd A outer s₀ H₀ E).stack := fun b o e hb z =>
  (ZAV.mp (I.stkSub b z)).elim (ZAL (ZAN (ZAD e) I.ok.above)) hb
 refine ⟨a, C, od, H, rfl, I.os, I.bare, ⟨fun b o e nn hb hx => ?_, fun b o e nn hb hx => ?_, fun b o e nn hx => I.base.free b o e nn (noex b), fun b o e hx => ?_, I.base.tups, I.base.frzs, I.base.tbls⟩,
  n.hok I fl.ha (fun t z => (hT t z).2.1), f'.mono fun b z => ?_, hE⟩
 ·exact n.keep b o (I.base.keep b o e nn hb (noex b)) (ne b o e).1 (ne b o e).2 (neL b o e hb)
 ·obtain ⟨sl, e1⟩ := I.base.slot b o e nn hb (noex b)
  obtain ⟨sl', e2⟩ := n.slot b _ e1 (ins b hb)
  exact ⟨sl', e2⟩
 ·obtain ⟨o', e1⟩ := I.base.there b o e (noex b)
  by_cases hb : b ∈ frs outer
  ·obtain ⟨sl', e2⟩ := n.slot b _ e1 (ins b hb)
   exact ⟨_, e2⟩
  ·exact ⟨o', n.keep b o' e1 (ne b o e).1 (ne b o e).2 (neL b o e hb)⟩
 ·rcases z with z | z
  ·exact nw b z
  ·cases q : s₀.heap.get? b with
   | none => rfl
   | some o =>
    obtain ⟨o', e1⟩ := I.base.there b o q (noex b)
    have z' : s.heap.get? b = none := z
    rw [e1] at z'; cases z'
end
def YmQ (n : Nat) (m : MS) : MF := fun ps st => match m (ps.map some ++ List.replicate (n - ps.length) none) st with
 | .nx _ st' => .ok .non st'
 | .rt p st' => .ok p st'
 | .exc x _ st' => .exc x st'
 | _ => .bad
def YoB (K : Frag) (n : Nat) (mf : MF) : Sp := fun vs H Q E => vs.length = n /\ ∃ as st ps, Rep K as st H /\ Dens K as H vs ps /\ match mf ps st with
 | .ok p st' => ∀ as' H' v, Ext as H as' H' -> Rep K as' st' H' -> Den K as' H' v p -> Q v H'
 | .exc x st' => ∀ as' H' C od, nsIn K mainGlobals x.1 = some (some (.ref C)) -> Ynu K as' H' od x.2 -> Ext as H as' H' -> Rep K as' st' H' -> E (.ref C) od H'
 | .bad => False
abbrev FM1 (P' : Program) (w : World) (K : Frag) (mg : SOV) (base : Heap) (k : Nat) (f : Addr) (fd : FuncData) (ps : List Str) (mf : MF) : Prop := Ymb P' w K mg base (CX1 P' w) k f fd ps (YoB K ps.length mf)
section
variable {P' : Program} {w : World} {K : Frag} {mg : SOV} {base : Heap}
theorem Fun.mirror1 {x qual : Str} {st : Stmt} {f : Addr} {fd : FuncData} {N ps : List Str} {k : Nat} {m : MS} (F : Fun K x qual st f fd) (S : YkU N ps (YkL st))
 (hbody : ∀ (cdv : Value) (A : Around) (outer : List Env) (s : Shared) (H : Hp) (E : XK), Ylu k (A.deeper (envOfC qual (YkL st) s.heap.objs.size f cdv)) -> JSs (YlY (CX1 P' w) P' w K mg base N qual (YkL st) f cdv A outer s H E) (YkQ st) m) :
 FM1 P' w K mg base (k + 1) f fd ps (YmQ N.length m) := by
 obtain ⟨oc, od, kV, doc, pm, an, cdv, ct, osl, rfl, lk, hcd⟩ := F.ex
 refine Yh3 lk hcd S (fun vs H Q E h => h.1) fun A outer s H vs Q E hr h => ⟨_, hbody cdv A outer s H E hr, ?_⟩
 obtain ⟨hl, as, st', qs, rp, d, h⟩ := h
 refine ⟨as, _, st', YaX d, rp, ?_⟩
 unfold YmQ at h
 cases q : m (qs.map some ++ List.replicate (N.length - qs.length) none) st' with
 | nx ρ' s' => rw [q] at h; exact fun as' H' σ' x rp en => h as' H' .non x rp .non
 | rt p s' => show 164
 | bk ρ' s' => show 195
 | ct ρ' s' => show 195
 | exc k ρ' s' =>
  show 167
  exact fun pins σ' t as' H' a I en ext rp fl => by
   obtain ⟨C, od, hns, f0, fa⟩ := fl
   exact leave1 I f0 (h as' H' C od hns fa ext rp)
 | bad => show 195
end
section
variable {X : Cx} {k : Nat} {f : Addr} {fd : FuncData} {ps : List Str} {mf : MF} {x : Str} {p pos : Pos} {e : Expr} {es : List Expr} {mr : MA}
theorem Yct {pins : LAO} {σ : St} {H : Hp} {s : Shared} {b : Addr} (I : Inv X pins σ H s) (h : s.heap.get? b = none) : Nw X pins b := by
 refine ⟨?_, fun p hp z => ?_⟩
 ·by_cases hb : b ∈ X.ex
  ·exact .inl hb
  ·refine .inr ?_
   cases q : X.s₀.heap.get? b with
   | none => rfl
   | some o =>
    obtain ⟨o', e1⟩ := I.base.there b o q hb
    rw [h] at e1; cases e1
 ·have := (I.pin p hp).1
  rw [z, h] at this; cases this
def YlN (n : Nat) (mf : MF) (mr : MA) : ME := fun ρ st => (mr ρ st).bind fun ps st1 => if ps.length = n then mf ps st1 else .bad
theorem Ygm (F : FM1 X.prog X.w X.K X.mg X.base k f fd ps mf) (hr : Ylu k X.A) (hg : Gl X x) (hm : X.mg x = some (.ref f)) (hk : PySem.W.keepIn X.K (.ref f) = true) (hb : Binds X.K fd ps [])
 (ha : JA X (e :: es) mr) (hdb : (x == ("__debug__" : Str)) = false := by decide) (he : starEach (e :: es) X.env = (false, eval e X.env) :: starEach es X.env := by rfl) (hpl : (backTo pos (starEach es X.env)).any (·.1) = false := by rfl) :
 JE X (.Call (.Name x p) (e :: es) [] pos) (YlN ps.length mf mr) := by
 show 256
 refine ZBI (JD I hg hm ?_ hdb)
 refine PySem.W.callWith_K (h₀ := X.base) I.ok.mod.kin hk (thn (ha pos pins s σ H (fun vs H1 => ∃ qs st1 as1, Ext as H as1 H1 /\ Rep X.K as1 st1 H1 /\ Dens X.K as1 H1 vs qs /\ YkV X as1 H1 ρ (if qs.length = ps.length then mf qs st1 else .bad) Q) I
  ⟨as, ρ, st, en, rp, YkV.bindA h fun qs st1 as1 H1 vs x rp1 d h1 => ⟨qs, st1, as1, x, rp1, d, h1⟩⟩) fun us s1 ⟨vs, H1, I1, r, qs, st1, as1, x1, rp1, d, h1⟩ => ⟨I1.kIn, ?_⟩) he hpl
 by_cases hl : qs.length = ps.length
 ·rw [ZAI hl] at h1
  have hsp : YoB X.K ps.length mf vs H1 Q (fun C od H' => ∀ s' a, Inv X pins σ H' s' -> YlV (Nw X pins) H' a C od s'.heap -> X.xe (.ref a) s') := by
   refine ⟨by rw [d.length]; exact hl, as1, st1, qs, rp1, d, ?_⟩
   cases z : mf qs st1 with
   | ok p' st2 => rw [z] at h1; exact h1
   | exc xc st2 =>
    rw [z] at h1
    exact fun as' H' C od hns fa ext rp2 s' a I' f0 => h1 pins σ s' as' H' a I' (en.ext (x1.trans ext)) ext rp2 ⟨C, od, hns, f0, fa⟩
   | bad => rw [z] at h1; exact h1.elim
  have hl' : us.length = ps.length := by rw [<- r.length, d.length]; exact hl
  refine ZCb (codeAny_mono (F.run X.A X.stack s1 H1 ⟨us, []⟩ us vs Q _ hr I1.env0 (by have := hb s1 us I1.kIn (by rw [ZBW]; exact hl'); rwa [ZBW] at this) r hsp) fun r s' hq => ?_)
  cases r with
  | error ev =>
   obtain ⟨a, C, od, H', rfl, o1, o2, un, hok, f0, hE⟩ := hq
   exact hE s' a (I1.call' o1 un hok o2 fun b z => absurd z (by simp)) (f0.mono fun b z => Yct I1 z)
  | ok fl =>
   cases fl with
   | ret u => exact I1.after hq
   | next => show 211
   | brk => show 211
   | cont => show 211
 ·rw [ZAJ hl] at h1; exact h1.elim
end
structure Fn1 (P' : Program) (w : World) (K : Frag) (mg : SOV) (base : Heap) (x : Str) (k : Nat) (ps : List Str) (mf : MF) : Prop where
 ex : ∃ f fd, FM1 P' w K mg base k f fd ps mf /\ mg x = some (.ref f) /\ PySem.W.keepIn K (.ref f) = true /\ Binds K fd ps []
theorem V2 {X : Cx} {x : Str} {k : Nat} {ps : List Str} {mf : MF} {e : Expr} {es : List Expr} {mr : MA} {p pos : Pos} (F : Fn1 X.prog X.w X.K X.mg X.base x k ps mf) (hr : Ylu k X.A) (hg : Gl X x) (ha : JA X (e :: es) mr)
 (hdb : (x == ("__debug__" : Str)) = false := by decide) (he : starEach (e :: es) X.env = (false, eval e X.env) :: starEach es X.env := by rfl) (hpl : (backTo pos (starEach es X.env)).any (·.1) = false := by rfl) :
 JE X (.Call (.Name x p) (e :: es) [] pos) (YlN ps.length mf mr) := by
 obtain ⟨f, fd, h1, h2, h3, h4⟩ := F.ex
 exact Ygm h1 hr hg h2 h3 h4 ha hdb he hpl
section
variable {P' : Program} {w : World} {K : Frag} {mg : SOV} {base : Heap} {x : Str} {st : Stmt} {N ps : List Str} {k : Nat} {m : MS}
theorem YbF (T : Top K mg) (D : YkO K x st) (S : YkU N ps (YkL st))
 (hb : ∀ (kV doc pm : Value) (an : Option Addr) (cdv ct : Value) (us : List Value), us.length = ps.length -> bindArgs (fnOf x x (YkS st) (YkQ st) (YkL st) .none kV doc pm an cdv ct) ⟨us, []⟩ = pure (ps.zip us))
 (hbody : ∀ (f : Addr) (cdv : Value) (A : Around) (outer : List Env) (s : Shared) (H : Hp) (E : XK), Ylu k (A.deeper (envOfC x (YkL st) s.heap.objs.size f cdv)) -> JSs (YlY (CX1 P' w) P' w K mg base N x (YkL st) f cdv A outer s H E) (YkQ st) m) :
 Fn1 P' w K mg base x (k + 1) ps (YmQ N.length m) := by
 obtain ⟨f, oc, od, an, kV, doc, pm, cd, ct, sl, h1, h2, h3, h4⟩ := D
 have F := Yc3 (st := st) h2 h3 h4
 exact ⟨f, _, Mi.Fun.mirror1 F S (hbody f), T.at h1, h4, F.binds hb⟩
end
section
variable {K : Frag} {h : Heap} {C : Addr} {bmB : List Value} {newId : String}
theorem YaO (X : K.In h) (q : PySem.W.excIn K C bmB newId = true) : ∃ (nm qn : Str) (N : Addr) (bs bm : List Value) (hdct : Bool) (sn : List Str) (sub : List Value) (ab : Bool) (col : Option Bool) (dd : Option Addr) (k0 k1 k2 k3 k5 : Option Value),
 h.get? C = some (excClassObj nm qn C N bs bm hdct sn sub ab col dd k0 k1 k2 k3 k5 newId) /\ h.Ns N (h.nsMap N) /\ h.nsMap N "__init__" = none /\ OwnTail h bmB bm := by
 unfold PySem.W.excIn at q
 split at q
 ·rename_i dd cd sl ho
  split at q
  ·rename_i C' bm k0 k1 k2 k3 n k5 hm hs
   simp only [Bool.and_eq_true, beq_iff_eq, Bool.not_eq_true'] at q
   obtain ⟨⟨⟨⟨⟨rfl, rfl⟩, hdel⟩, ht⟩, hok⟩, hni⟩ := q
   obtain ⟨nm, bs, mro, ns, qn, hd, sn, sub, ab, col, del⟩ := cd
   dsimp only at hm hdel hok hni
   subst hm hdel
   have hsl : sl = #[k0, k1, k2, k3, some (.builtin n), k5] := by
    obtain ⟨l⟩ := sl
    simp only at hs
    rw [hs]
   subst hsl
   exact ⟨nm, qn, ns, bs, bm, hd, sn, sub, ab, col, dd, k0, k1, k2, k3, k5, X _ _ ho, .of_isNs (PySem.W.isNs_of_in X hok), PySem.W.nsMap_none_of_in X hok hni, PySem.W.tail_of_in X ht⟩
  ·cases q
 ·cases q
end
abbrev YnP : List Value := [.type "ValueError", .type "Exception", .type "BaseException", .type "object"]
def ExcAt (K : Frag) (c : Str) : Prop := ∃ C, nsIn K mainGlobals c = some (some (.ref C)) /\ PySem.W.excIn K C YnP "ValueError.__new__" = true
theorem ExcAt.of {K : Frag} {c : Str} {C : Addr} (a : nsIn K mainGlobals c = some (some (.ref C))) (b : PySem.W.excIn K C YnP "ValueError.__new__" = true) : ExcAt K c := ⟨C, a, b⟩
def Ymz (c : Str) (ma : MA) : MS := fun ρ st => RS.ofE ρ (ma ρ st) fun ps st1 => if ps.length <= 1000 then .exc (c, []) ρ st1 else .bad
theorem Yb6 {X : Cx} {c : Str} {ma : MA} {np cpos pos : Pos} {e : Expr} {es : List Expr} (D : ExcAt X.K c) (hc : X.calm = true) (hg : Gl X c) (ha : JA X (e :: es) ma)
 (hdb : (c == ("__debug__" : Str)) = false := by decide) (he : starEach (e :: es) X.env = (false, eval e X.env) :: starEach es X.env := by rfl) (hpl : (backTo cpos (starEach (e :: es) X.env)).any (·.1) = false := by rfl) :
 JS X (.Raise (some (.Call (.Name c np) (e :: es) [] cpos)) none pos) (Ymz c ma) := by
 intro pins s σ H D' I ⟨as, ρ, st, en, rp, h⟩
 obtain ⟨C, hn, hx⟩ := D
 have hm : X.mg c = some (.ref C) := PySem.W.mg_of I.ok.mod.kin I.ok.mod.glob hn
 obtain ⟨nm, qn, N, bs, bm, hdct, sn, sub, ab, col, dd, k0, k1, k2, k3, k5, g1, g2, g3, g4⟩ := YaO I.ok.mod.kin hx
 refine wpAny_Raise_call_subU (C := C) (nm := nm) (q := qn) (N := N) (bs := bs) (bm := bm) (hdct := hdct) (sn := sn) (sub := sub) (ab := ab) (col := col) (dd := dd) (k0 := k0) (k1 := k1) (k2 := k2) (k3 := k3) (k5 := k5) (mN := X.base.nsMap N)
  PySem.F.excBase_ValueError (by decide) PySem.F.excBase_ValueError (g4.hasType (by decide)) (I.ok.hd hc) hpl g3 (JD I hg hm ⟨rfl, ?_⟩ hdb)
 have key : backTo cpos (starEach (e :: es) X.env) = (false, eval e X.env) :: backTo cpos (starEach es X.env) := by rw [he]; rfl
 rw [key]
 refine Calls.evalArgs_plain ?_
 rw [<- key]
 refine thn (ha cpos pins s σ H (fun vs H1 => vs.length <= 1000 /\ ∃ st1 as1, Ext as H as1 H1 /\ Rep X.K as1 st1 H1 /\ XOk X as1 H1 ρ (c, []) st1) I ⟨as, ρ, st, en, rp, ?_⟩) fun us s1 ⟨vs, H1, I1, r, hvl, st1, as1, x1, rp1, xok⟩ => ?_
 ·unfold Ymz at h
  cases q : ma ρ st with
  | ok qs st1 =>
   show 167
   intro as1 H1 vs x1 rp1 d
   have h' : Yk1 X as H (if qs.length <= 1000 then RS.exc (c, []) ρ st1 else .bad) D' := h
   by_cases hl : qs.length <= 1000
   ·rw [ZAI hl] at h'
    exact ⟨by rw [d.length]; exact hl, st1, as1, x1, rp1, XOk.ext x1 h'⟩
   ·rw [ZAJ hl] at h'; exact h'.elim
  | exc xc st1 => show 164
  | bad => show 164
 ·have kb := I1.bk
  refine ⟨rfl, ?_, kb _ _ g1, g2.keeps kb, g4.keeps kb, fun h' ev hm => ?_⟩
  ·show us.length <= sizeLine
   rw [<- r.length, sizeLine_eq]; omega
  ·obtain ⟨t, ht, htn, htt⟩ := hm.there
   have I2 : Inv X pins σ H1 { s1 with heap := h' } := I1.kept hm.keeps
   exact xok pins σ _ as1 H1 ev I2 (en.ext x1) Ext.refl rp1 ⟨C, none, hn, ⟨Yct I1 hm.new, untracked I1 hm.new, _, _, ht, rfl, rfl, rfl, .inl rfl⟩, .inl ⟨rfl, rfl⟩⟩
end Mi
namespace Mi
open PySem PySem.Spec L2
open PyProof.Rows hiding St
section
variable {X : Cx} {pins : LAO} {σ : St} {H H' : Hp} {s : Shared}
theorem _root_.L2.Inv.stepN {h' : Heap} {t' : Nat} {ch : List Addr} (I : Inv X pins σ H s) (hch : ∀ b ∈ ch, Nw X pins b /\ b ≠ X.env.locals /\ (∀ x c, X.env.cells.lookup x = some c -> c ≠ b) /\ b ∉ frs X.stack)
 (keep : ∀ b o, b ∉ frs X.stack -> b ∉ ch -> s.heap.get? b = some o -> H b = none -> h'.get? b = some o) (slot : ∀ b o, b ∈ frs X.stack -> s.heap.get? b = some o -> ∃ sl, h'.get? b = some { o with slots := sl })
 (free : ∀ b, b ∉ ch -> H b = none -> H' b = none) (there : ∀ b o, b ∉ ch -> s.heap.get? b = some o -> ∃ o', h'.get? b = some o') (trk : ∀ b u, H b = some u -> H' b = some u)
 (hL : ∃ o sl, s.heap.get? X.env.locals = some o /\ h'.get? X.env.locals = some { o with slots := sl }) (hfs : ∀ b ∈ X.fs, b ∈ frs X.stack)
 (hok : HOk X.prog X.w H' h') : Inv X pins σ H' { s with heap := h', toks := t' } := by
 have neC : ∀ b o, X.s₀.heap.get? b = some o -> b ∉ X.ex -> b ∉ ch := fun b o e hx hb => by
  rcases (hch b hb).1.1 with z | z
  ·exact hx z
  ·rw [z] at e; cases e
 have anyF : ∀ b o, b ∉ ch -> s.heap.get? b = some o -> H b = none -> ∃ sl, h'.get? b = some { o with slots := sl } := fun b o hc e n => by
  by_cases hb : b ∈ frs X.stack
  ·exact slot b o hb e
  ·exact ⟨o.slots, keep b o hb hc e n⟩
 have cellK : ∀ x c, X.env.cells.lookup x = some c -> ∀ v, s.heap.IsCell c v -> h'.IsCell c v := fun x c e v ⟨o, ho, hd⟩ => by
  obtain ⟨sl, q⟩ := anyF c o (fun z => (hch c z).2.2.1 x c e rfl) ho (I.freeC x c e)
  exact ⟨_, q, hd⟩
 obtain ⟨oL, slL, hoL, hoL'⟩ := hL
 have nsK : ∀ m, s.heap.Ns X.env.locals m -> h'.Ns X.env.locals m := fun m ⟨o, es, ep, ho, r⟩ => by
  rw [hoL] at ho; cases ho
  exact ⟨_, es, ep, hoL', r⟩
 have lnch : X.env.locals ∉ ch := fun z => (hch _ z).2.1 rfl
 refine ⟨I.ok, I.os, I.bare, ⟨fun b o e n hb hx => ?_, fun b o e n hb hx => ?_, fun b o e n hx => free b (neC b o e hx) (I.base.free b o e n hx), fun b o e hx => ?_, fun b xs e => trk _ _ (I.base.tups b xs e), fun b o xs e => trk _ _ (I.base.frzs b o xs e), fun b ps e => ?_⟩,
  ?_, fun x c e => ?_, free _ lnch I.free, fun x c e => free c (fun z => (hch c z).2.2.1 x c e rfl) (I.freeC x c e), fun p hp => ?_, hok, I.len⟩
 ·have h1 := I.base.keep b o e n hb hx
  exact keep b o (fun z => by
   rcases ZAV.mp (I.stkSub b z) with y | y
   ·exact absurd (ZAN (ZAD e) I.ok.above) (by rw [y]; exact ZA5 _)
   ·exact hb y) (neC b o e hx) h1 (I.base.free b o e n hx)
 ·show 219
  obtain ⟨sl', e2⟩ := slot b _ (hfs b hb) e1
  exact ⟨sl', e2⟩
 ·show 207
  exact there b o' (neC b o e hx) e1
 ·obtain ⟨m1, e1⟩ := I.base.tbls b ps e
  exact ⟨m1, trk _ _ e1⟩
 ·obtain ⟨m, hn, hl⟩ := I.loc
  refine ⟨m, nsK m hn, fun i x v e1 e2 e3 => ?_⟩
  obtain ⟨u, r, l⟩ := hl i x v e1 e2 e3
  refine ⟨u, r, ?_⟩
  rcases l with l | ⟨k, c, e, z⟩
  ·exact .inl l
  ·exact .inr ⟨k, c, e, cellK x c e _ z⟩
 ·obtain ⟨v, z⟩ := I.cell x c e
  exact ⟨v, cellK x c e v z⟩
 ·show 227
  have nch : p.1 ∉ ch := fun z => (hch p.1 z).1.2 p hp rfl
  refine ⟨keep p.1 p.2 (fun z => ?_) nch e n, free p.1 nch n, ne, nf, d⟩
  rcases ZAV.mp (I.stkSub p.1 z) with y | y
  ·exact ne y
  ·exact nf y
theorem Wj {a : Addr} {oe : Obj} {vs : Array Value} (I : Inv X pins σ H s) (h1 : s.heap.get? a = some oe) (h2 : oe.data = .fields vs) : a ≠ X.env.locals /\ (∀ x c, X.env.cells.lookup x = some c -> c ≠ a) /\ a ∉ frs X.stack := by
 refine ⟨fun z => ?_, fun x c e z => ?_, fun z => ?_⟩
 ·obtain ⟨m, ⟨o, es, ep, ho, hd, _⟩, _⟩ := I.loc
  rw [<- z, h1] at ho; cases ho
  rw [h2] at hd; cases hd
 ·obtain ⟨v, o, ho, hd⟩ := I.cell x c e
  rw [z, h1] at ho; cases ho
  rw [h2] at hd; cases hd
 ·obtain ⟨_, o, ho, hd⟩ := I.stack.mem z
  rw [h1] at ho; cases ho
  exact hd vs h2
theorem _root_.L2.Inv.noted {a : Addr} {C : Value} {od : Option Addr} {Ts : List Addr} {h' : Heap} (I : Inv X pins σ H s) (f : YlV (Nw X pins) H a C od s.heap) (hT : ∀ t ∈ Ts, Nw X pins t /\ H t = none /\ t ≠ a /\ ∃ o vs, s.heap.get? t = some o /\ o.data = .fields vs)
 (n : YmK X.stack a Ts s.heap h') (hst : X.stack = X.env :: X.outer) (hf : X.env.frame = some X.env.locals) (ha : ∃ o, h'.get? a = some o) : Inv X pins σ H { s with heap := h' } := by
 obtain ⟨na, hna, oe, vs, h1, h2, h3, h4, h5⟩ := id f
 have fs : ∀ b ∈ X.fs, b ∈ frs X.stack := fun b hb => by
  obtain ⟨env, he, hf⟩ := ZBH.mp hb
  rw [hst]
  exact ZBH.mpr ⟨env, .tail _ he, hf⟩
 have lin : X.env.locals ∈ frs X.stack := by rw [hst]; exact ZBH.mpr ⟨X.env, .head _, hf⟩
 obtain ⟨m, ⟨oL, es, ep, hoL, _⟩, _⟩ := id I.loc
 obtain ⟨slL, hoL'⟩ := n.slot _ oL hoL lin
 refine L2.Inv.stepN (t' := s.toks) (ch := a :: Ts) I (fun b hb => ?_) (fun b o hbf hc e _ => n.keep b o e (fun z => hc (by rw [z]; exact .head _)) (fun z => hc (.tail _ z)) hbf) (fun b o hb e => n.slot b o e hb) (fun b _ q => q) (fun b o hc e => ?_) (fun b u q => q) ⟨oL, slL, hoL, hoL'⟩ fs
  (n.hok I hna fun t z => (hT t z).2.1)
 ·rcases ZAV.mp hb with z | z
  ·subst z
   obtain ⟨f1, f2, f3⟩ := Wj I h1 h4
   exact ⟨na, f1, f2, f3⟩
  ·obtain ⟨o, ws, e1, e2⟩ := (hT b z).2.2.2
   obtain ⟨f1, f2, f3⟩ := Wj I e1 e2
   exact ⟨(hT b z).1, f1, f2, f3⟩
 ·by_cases hb : b ∈ frs X.stack
  ·obtain ⟨sl, e2⟩ := n.slot b o e hb
   exact ⟨_, e2⟩
  ·exact ⟨o, n.keep b o e (fun z => hc (by rw [z]; exact .head _)) (fun z => hc (.tail _ z)) hb⟩
theorem _root_.L2.Inv.gone {i : Nat} {n : Str} {h' : Heap} {v : Option Value} {m : SOV} {t' : Nat} (I : Inv X pins σ H s) (hN : X.N.Nodup) (hi : X.N[i]? = some n) (hk : X.env.kindOf n = some .local) (hn : s.heap.Ns X.env.locals m)
 (hl : ∀ (i : Nat) (x : Str) (v : V), X.N[i]? = some x -> σ[i]? = some (some v) -> Vis X.env.scope x -> ∃ u, RelV v u /\ Look X.env s.heap m x u)
 (hn' : h'.Ns X.env.locals (fun x => if x = n then v else m x)) (hs : Heap.SameBut X.env.locals s.heap h') : Inv X pins (σ.set i none) H { s with heap := h', toks := t' } := by
 have cne := I.cne
 obtain ⟨oL, _, _, hoL, _⟩ := id hn
 have lt : ∀ b o, X.s₀.heap.get? b = some o -> b ≠ X.env.locals := fun b o e => ZAL (ZAN (ZAD e) I.ok.above)
 refine ⟨I.ok, I.os, I.bare, ⟨fun b o e n hb hx => (hs.2 b (lt b o e)).trans (I.base.keep b o e n hb hx), fun b o e n hb hx => ?_, I.base.free, fun b o e hx => ?_, I.base.tups, I.base.frzs, I.base.tbls⟩, ⟨_, hn', fun j y v' e1 e2 e3 => ?_⟩, fun y c e => ?_, I.free, I.freeC, fun p hp => ?_, fun b ob e => ?_, by simpa using I.len⟩
 ·show 219
  exact ⟨sl, (hs.2 b (lt b o e)).trans e1⟩
 ·show 207
  exact ⟨o', (hs.2 b (lt b o e)).trans e1⟩
 ·have hj : i ≠ j := fun z => by
   subst z
   by_cases hlt : i < σ.length
   ·rw [ZAh hlt] at e2; cases e2
   ·rw [ZCL (by omega)] at e2
    have := (ZAG.mp e2).1
    omega
  rw [ZAy hj] at e2
  obtain ⟨u', r', q⟩ := hl j y v' e1 e2 e3
  refine ⟨u', r', ?_⟩
  rcases q with ⟨k, e⟩ | ⟨k, c, e, z⟩
  ·refine .inl ⟨k, ?_⟩
   have : y ≠ n := fun z => hj (JU hN hi (z ▸ e1))
   simp [this, e]
  ·exact .inr ⟨k, c, e, z.sameBut hs (cne y c e)⟩
 ·obtain ⟨w', z⟩ := I.cell y c e
  exact ⟨w', z.sameBut hs (cne y c e)⟩
 ·show 227
  exact ⟨(hs.2 p.1 ne).trans e, n, ne, nf, d⟩
 ·refine (I.hok b ob e).stay (fun c w' hc q => (hs.2 c ?_).trans q) (fun _ q => q) fun _ _ q => q
  rintro rfl
  show 250
  ·rw [I.free] at e; cases e
  ·rw [I.free] at hc; cases hc
end
abbrev _root_.L2.Cx.tried (X : Cx) (pins : LAO) (E : VSP) : Cx := { X with pn := X.pn ++ pins, xe := E }
abbrev _root_.L2.Cx.caught (X : Cx) (pins : LAO) (v : Value) : Cx := { X with pn := X.pn ++ pins, A := X.A.mark (some v), calm := false, xe := fun _ _ => False }
theorem _root_.L2.Cx.Ok.tried {X : Cx} (ok : X.Ok) (pins : LAO) (E : VSP) : (X.tried pins E).Ok :=
 ⟨ok.mod, ok.kind, ok.glob, ok.blt, ok.above, ok.inj, ok.has, ok.cab, ok.hd, ok.frames, ok.stk, ok.exf, ok.bs, ok.bsz, ok.noex, ok.exfs, ok.funs, ok.frf⟩
theorem _root_.L2.Cx.Ok.caught {X : Cx} (ok : X.Ok) (pins : LAO) (v : Value) : (X.caught pins v).Ok :=
 ⟨ok.mod, ok.kind, ok.glob, ok.blt, ok.above, ok.inj, ok.has, ok.cab, (fun h => by cases h), ok.frames, ok.stk, ok.exf, ok.bs, ok.bsz, ok.noex, ok.exfs, ok.funs, ok.frf⟩
section
variable {X : Cx} {pins : LAO} {σ : St} {H : Hp} {s : Shared}
theorem _root_.L2.Inv.tried (I : Inv X pins σ H s) (E : VSP) : Inv (X.tried pins E) [] σ H s :=
 ⟨I.ok.tried pins E, I.os, I.bare, I.base, I.loc, I.cell, I.free, I.freeC, fun p hp => I.pin p (by simpa using hp), I.hok, I.len⟩
theorem _root_.L2.Inv.untried {E : VSP} {pins' : LAO} (ok : X.Ok) (I : Inv (X.tried pins E) pins' σ H s) : Inv X pins σ H s :=
 ⟨ok, I.os, I.bare, I.base, I.loc, I.cell, I.free, I.freeC, fun p hp => I.pin p (ZAo _ hp), I.hok, I.len⟩
theorem _root_.L2.Inv.caught (I : Inv X pins σ H s) (v : Value) : Inv (X.caught pins v) [] σ H s :=
 ⟨I.ok.caught pins v, I.os, I.bare, I.base, I.loc, I.cell, I.free, I.freeC, fun p hp => I.pin p (by simpa using hp), I.hok, I.len⟩
theorem _root_.L2.Inv.uncaught {v : Value} {pins' : LAO} (ok : X.Ok) (I : Inv (X.caught pins v) pins' σ H s) : Inv X pins σ H s :=
 ⟨ok, I.os, I.bare, I.base, I.loc, I.cell, I.free, I.freeC, fun p hp => I.pin p (ZAo _ hp), I.hok, I.len⟩
end
def Ynl (i : Nat) : RS -> RS
 | .nx ρ st => .nx (ρ.set i none) st
 | .rt p st => .rt p st
 | _ => .bad
def YmG : RS -> RS
 | .exc _ _ _ => .bad
 | r => r
def YnG (mb : MS) (c : Str) (mh : MS) : MS := fun ρ st => match mb ρ st with
 | .exc x ρ' st' => if x.1 = c then YmG (mh ρ' st') else .bad
 | r => r
section
variable {X : Cx} {pins : LAO}
theorem handled1 {c : Str} {np hpos : Pos} {name : Option Str} {b₀ : Stmt} {suite : List Stmt} {rest : List ExceptHandler} {σ' : St} {H' : Hp} {s' : Shared} {a C : Addr} {od : Option Addr} {Q : Flow -> Shared -> Prop}
 (hst : X.stack = X.env :: X.outer) (hf : X.env.frame = some X.env.locals) (hg : Gl X c) (hn : nsIn X.K mainGlobals c = some (some (.ref C))) (hx : PySem.W.excIn X.K C YnP "ValueError.__new__" = true) (hdb : (c == ("__debug__" : Str)) = false)
 (I : Inv X pins σ' H' s') (f0 : YlV (Nw X pins) H' a (.ref C) od s'.heap)
 (h : ∀ s₁, Inv X pins σ' H' s₁ -> YlV (Nw X pins) H' a (.ref C) od s₁.heap ->
  codeAny (model X.prog X.w) (X.A.mark (some (.ref a))) (.handlers (.ref a) [.ExceptHandler none name (b₀ :: suite) hpos] X.env) (fun r s₂ => match r with
   | .ok f => (match name with
    | none => Q f s₂
    | some n => wpAny (model X.prog X.w) X.A (do bindName X.env n .none; unbindBehindTheSuite X.env n hpos) (fun _ s₃ => Q f s₃) X.xe s₂)
   | .error x => cameBackBy (model X.prog X.w) X.A X.env X.xe x s₂) s₁) :
 wpAny (model X.prog X.w) X.A (noteFrame (.ref a) X.env) (fun _ s₂ => wpAny (model X.prog X.w) X.A (setFlight (.ref a) none) (fun _ s₃ => wpAny (model X.prog X.w) X.A (handleBy (.ref a) X.env (.ExceptHandler (some (.Name c np)) name (b₀ :: suite) hpos :: rest)) Q X.xe s₃) X.xe s₂) X.xe s' := by
 refine Ymx I f0 I.ok.frames hst hf hf fun h' Ts hT n f' => ?_
 have f1 : YlV (Nw X pins) H' a (.ref C) od h' := f'.mono fun b z => z.elim (fun y => y) fun y => Yct I y
 have I1 : Inv X pins σ' H' { s' with heap := h' } := I.noted f0 hT n hst hf (let ⟨oe, _, e, _⟩ := f1.tr; ⟨oe, e⟩)
 refine wpAny_handleBy_cons (codeAny_handlers_test ?_) (by intro q; cases q)
 have hm : X.mg c = some (.ref C) := PySem.W.mg_of I.ok.mod.kin I.ok.mod.glob hn
 refine JD (X := X.caught pins (.ref a)) (I1.caught (.ref a)) hg hm ?_ hdb
 obtain ⟨nm, qn, N, bs, bm, hdct, sn, sub, ab, col, dd, k0, k1, k2, k3, k5, g1, g2, g3, g4⟩ := YaO I1.kIn hx
 obtain ⟨oe, vs, e1, e2, e3, e4, e5⟩ := id f1.tr
 have key := h _ I1 f1
 obtain ⟨hp, g, d, tk, os⟩ := s'
 exact wpAny_excMatches_sub_self g1 e1 e2 (g4.hasType (by decide)) key
theorem YjC {c : Str} {np hpos pos : Pos} {body : List Stmt} {b₀ : Stmt} {suite : List Stmt} {mb mh : MS} (D : ExcAt X.K c) (hst : X.stack = X.env :: X.outer) (hf : X.env.frame = some X.env.locals) (hg : Gl X c)
 (hb : ∀ pins E, JSs (X.tried pins E) body mb) (hh : ∀ pins v, JSs (X.caught pins v) (b₀ :: suite) mh) (hdb : (c == ("__debug__" : Str)) = false := by decide) :
 JS X (.Try body [.ExceptHandler (some (.Name c np)) none (b₀ :: suite) hpos] [] [] pos) (YnG mb c mh) := by
 intro pins s σ H D' I ⟨as, ρ, st, en, rp, h⟩
 obtain ⟨C, hn, hx⟩ := D
 refine wpAny_Try_except (ZAw (hb pins _ [] s σ H D' (I.tried _) ⟨as, ρ, st, en, rp, ?_⟩) (fun fl s₁ q => ?_) fun e s₁ q => q)
 ·unfold YnG at h
  cases q : mb ρ st with
  | exc x ρ' st' =>
   show 167
   by_cases hc : x.1 = c
   ·have h' : Yk1 X as H (YmG (mh ρ' st')) D' := by simpa only [hc, if_true] using h
    intro pins' σ' s' as' H' a I' en' ext rp' ⟨C', od, hn', f0, fa⟩
    have I0 : Inv X pins σ' H' s' := I'.untried I.ok
    rw [hc] at hn'
    have hn2 : nsIn X.K mainGlobals c = some (some (.ref C')) := hn'
    rw [hn] at hn2; cases hn2
    refine handled1 hst hf hg hn hx hdb I0 (f0.mono fun b z => ⟨z.1, fun p hp => z.2 p (ZAo _ hp)⟩) fun s₁ I1 f1 => codeAny_handlers_suite (YmC I1 f1 fun h2 Ts hT n f2 => ?_)
    have f2' : YlV (Nw X pins) H' a (.ref C) od h2 := f2.mono fun b z => z.elim (fun y => y) fun y => Yct I1 y
    have I2 : Inv X pins σ' H' { s₁ with heap := h2 } := I1.noted f1 hT n hst hf (let ⟨oe, _, e, _⟩ := f2'.tr; ⟨oe, e⟩)
    refine ZAw (hh pins (.ref a) [] _ σ' H' D' (I2.caught (.ref a)) ⟨as', ρ', st', en', rp', ?_⟩) (fun fl s₂ q => ?_) fun e s₂ z => z.elim
    ·have h2 := Yk1.ext ext h'
     cases q2 : mh ρ' st' with
     | nx ρ2 st2 => show 218
     | rt p st2 => show 218
     | bk ρ2 st2 => show 218
     | ct ρ2 st2 => show 218
     | exc k ρ2 st2 => rw [q2] at h2; exact h2.elim
     | bad => show 218
    ·cases fl with
     | next => obtain ⟨σ2, H2, J, z⟩ := q; exact ⟨σ2, H2, J.uncaught I.ok, z⟩
     | brk => obtain ⟨σ2, H2, J, z⟩ := q; exact ⟨σ2, H2, J.uncaught I.ok, z⟩
     | cont => obtain ⟨σ2, H2, J, z⟩ := q; exact ⟨σ2, H2, J.uncaught I.ok, z⟩
     | ret u => obtain ⟨v, σ2, H2, J, r, z⟩ := q; exact ⟨v, σ2, H2, J.uncaught I.ok, r, z⟩
   ·have h' : False := by simpa only [hc, if_false, Yk1] using h
    show 174
  | nx ρ2 st2 => show 164
  | rt p st2 => show 164
  | bk ρ2 st2 => show 164
  | ct ρ2 st2 => show 164
  | bad => show 164
 ·cases fl with
  | next => obtain ⟨σ2, H2, J, z⟩ := q; exact ZBp ⟨σ2, H2, J.untried I.ok, z⟩
  | brk => obtain ⟨σ2, H2, J, z⟩ := q; exact ⟨σ2, H2, J.untried I.ok, z⟩
  | cont => obtain ⟨σ2, H2, J, z⟩ := q; exact ⟨σ2, H2, J.untried I.ok, z⟩
  | ret u => obtain ⟨v, σ2, H2, J, r, z⟩ := q; exact ⟨v, σ2, H2, J.untried I.ok, r, z⟩
end
end Mi
namespace Mi
open PySem PySem.Spec L2 PySem.W
open PyProof.Rows hiding St
section
variable {prog : Program} {w : World} {A : Around} {E : VSP} {s : Shared} {K : Frag} {x C : Addr} {ox : Obj} {odo : Option Obj} {name : Str}
end
end Mi
namespace Mi
open PySem PySem.Spec L2
open PyProof.Rows hiding St
section
variable {K : Frag}
end
section
variable {X : Cx} {e : Expr} {me : ME} {pos p p' : Pos}
end
end Mi
namespace Mi
open PySem PySem.Spec L2
open PyProof.Rows hiding St
def Yll : P -> Bool
 | .non => true
 | .bl _ => true
 | .int _ => true
 | .str _ => true
 | _ => false
def eqF : P -> P -> Bool
 | .non, .non => true
 | .bl a, .bl b => a == b
 | .bl a, .int b => (if a then 1 else 0) == b
 | .int a, .bl b => a == (if b then 1 else 0)
 | .int a, .int b => a == b
 | .str a, .str b => a == b
 | _, _ => false
def Ynh : G2 := fun p q st => match Ylf q st with
 | some xs => if Yll p = true /\ xs.all Yll = true then okP (.bl (xs.any fun y => eqF y p)) st else none
 | none => inP p q st
def Ylo : G2 := fun p q st => match Ylf q st with
 | some xs => if Yll p = true /\ xs.all Yll = true then okP (.bl (!(xs.any fun y => eqF y p))) st else none
 | none => YmA p q st
section
variable {K : Frag} {as : List Addr} {H : Hp}
theorem J1 {v : V} {p : P} (d : Den K as H v p) (h : Yll p = true) : Yl4 v = true := by cases d <;> first | rfl | cases h
theorem YhY {v w : V} {p q : P} (d : Den K as H v p) (e : Den K as H w q) (h : Yll p = true) (h' : Yll q = true) : eqV v w = eqF p q := by
 cases d <;> first | (cases h; done) | (cases e <;> first | rfl | (cases h'; done))
theorem V7 : ∀ {vs : List V} {ps : List P}, Dens K as H vs ps -> ps.all Yll = true -> vs.all Yl4 = true
 | _, _, .nil, _ => rfl
 | _, _, .cons d r, h => by
  rw [ZBl, ZAq] at h ⊢
  exact ⟨J1 d h.1, V7 r h.2⟩
theorem Ybp {w : V} {q : P} (e : Den K as H w q) (h' : Yll q = true) : ∀ {vs : List V} {ps : List P}, Dens K as H vs ps -> ps.all Yll = true -> inV w vs = ps.any fun y => eqF y q
 | _, _, .nil, _ => rfl
 | _, _, .cons d r, h => by
  rw [ZBl, ZAq] at h
  have ih := Ybp e h' r h.2
  unfold inV at ih ⊢
  rw [ZBM, ZBM, YhY d e h.1 h', ih]
end
section
variable {X : Cx}
theorem Yc1 (hu : X.A.units + 1 < cLine) : OpR X (compareOp .In) (rM X Ynh) := opM fun pins s σ H x y v u Q as st p q I rx ry rp d1 d2 h => by
 have h' : Yk4 X as H (match Ylf q st with
  | some xs => if Yll p = true /\ xs.all Yll = true then okP (.bl (xs.any fun y => eqF y p)) st else none
  | none => inP p q st) Q := h
 cases z : Ylf q st with
 | none =>
  rw [z] at h'
  exact Ykt hu pins s σ H x y v u Q I rx ry ⟨as, st, p, q, rp, d1, d2, h'⟩
 | some xs =>
  rw [z] at h'
  by_cases c : Yll p = true /\ xs.all Yll = true
  ·simp only [if_pos c] at h'
   obtain ⟨a, vs, e1, e2, e3⟩ := Ybu rp d2 z
   subst e1
   refine Yd2 pins s σ H x _ v u Q I rx ry ⟨a, vs, rfl, e2, J1 d1 c.1, V7 e3 c.2, ?_⟩
   have := Ybp d1 c.1 e3 c.2
   simp only [Bool.false_eq_true, if_false, this]
   show 251
  ·simp only [if_neg c] at h'; exact h'.elim
theorem ZE (hu : X.A.units + 1 < cLine) : OpR X (compareOp .NotIn) (rM X Ylo) := opM fun pins s σ H x y v u Q as st p q I rx ry rp d1 d2 h => by
 have h' : Yk4 X as H (match Ylf q st with
  | some xs => if Yll p = true /\ xs.all Yll = true then okP (.bl (!(xs.any fun y => eqF y p))) st else none
  | none => YmA p q st) Q := h
 cases z : Ylf q st with
 | none =>
  rw [z] at h'
  exact Ye7 hu pins s σ H x y v u Q I rx ry ⟨as, st, p, q, rp, d1, d2, h'⟩
 | some xs =>
  rw [z] at h'
  by_cases c : Yll p = true /\ xs.all Yll = true
  ·simp only [if_pos c] at h'
   obtain ⟨a, vs, e1, e2, e3⟩ := Ybu rp d2 z
   subst e1
   refine Ybg pins s σ H x _ v u Q I rx ry ⟨a, vs, rfl, e2, J1 d1 c.1, V7 e3 c.2, ?_⟩
   have := Ybp d1 c.1 e3 c.2
   simp only [if_true, this]
   show 251
  ·simp only [if_neg c] at h'; exact h'.elim
end
end Mi
namespace Mi
open PySem PySem.Spec L2
open PyProof.Rows hiding St
structure Yn7 (N : Addr -> Prop) (H : Hp) (a : Addr) (C : Value) (od : Option Addr) (h : Heap) : Prop where
 na : N a
 ha : H a = none
 tr : ∃ oe vs T oT ts, h.get? a = some oe /\ oe.cls = C /\ oe.dict = od /\ oe.data = .fields vs /\ vs[1]? = some (.ref T) /\ N T /\ H T = none /\ T ≠ a /\ h.get? T = some oT /\ oT.data = .fields ts /\ 3 < ts.size
section
variable {M : Model} {A : Around} {E : VSP} {X : Cx} {pins : LAO} {σ : St} {H : Hp} {s : Shared} {a : Addr} {C : Value} {od : Option Addr} {N : Addr -> Prop}
theorem YnE {Q : Unit -> Shared -> Prop} {env e0 : Env} {r : List Env} {L : Addr} (I : Inv X pins σ H s) (f : YlV N H a C od s.heap) (hfr : A.frames = some X.stack) (hst : X.stack = e0 :: r) (h0 : e0.frame = some L) (hf : env.frame = some L)
 (hQ : ∀ h' Ts, (∀ t ∈ Ts, N t /\ H t = none /\ t ≠ a /\ ∃ o vs, s.heap.get? t = some o /\ o.data = .fields vs) -> YmK X.stack a Ts s.heap h' -> Yn7 (fun b => N b \/ s.heap.get? b = none) H a C od h' -> Q () { s with heap := h' }) :
 wpAny M A (noteFrame (.ref a) env) Q E s := by
 obtain ⟨na, ha, oe, vs, h1, h2, h3, h4, h5⟩ := f
 have fin : ∀ (Ts : List Addr) (h₀ : Heap), (∀ t ∈ Ts, N t /\ H t = none /\ t ≠ a /\ ∃ o vs, s.heap.get? t = some o /\ o.data = .fields vs) -> h₀.get? a = some oe -> (∀ b o, b ∉ Ts -> s.heap.get? b = some o -> h₀.get? b = some o) -> (∀ b, s.heap.get? b = none -> h₀.get? b = none) -> (∀ b, h₀.get? b = none -> s.heap.get? b = none) ->
  h₀.FunFrames X.base X.stack -> 1 < vs.size -> ∀ (head : Value) (hadNext : Bool), wpAny M A (do let a' <- PySem.frameOf env; let pl <- entryPlaceOf L hadNext; let b <- EntryCells.newEntry head a' .none (rawInt L) .none pl; setField (.ref a) 1 b)
   Q E { s with heap := h₀ } := fun Ts h₀ hT he hk hno hno' hff hsz head hadNext => by
  refine YnB (s := { s with heap := h₀ }) hfr hff hst h0 hf he h4 hsz fun h' T oT ts e1 e2 e3 e4 e5 e6 e7 => ?_
  have hTa : T ≠ a := fun z => by have e2' : h₀.get? T = none := e2; rw [z, he] at e2'; cases e2'
  have hsz3 : 3 < ts.size := (ZBF.mp e5).1
  have d1 := Obj.data_mapFields h4 (·.setIfInBounds 1 (Value.ref T))
  have sT : s.heap.get? T = none := hno' T e2
  have nfr : ∀ b, b ∈ frs X.stack -> b ∉ Ts := fun b hb z => by
   obtain ⟨_, _, _, o, ws, q1, q2⟩ := hT b z
   obtain ⟨_, o', q3, q4⟩ := I.stack.mem hb
   rw [q1] at q3; cases q3
   exact q4 ws q2
  refine hQ _ Ts hT ⟨fun b o e hb hbT hbf => e6 b o hb hbf (hk b o hbT e), fun b o e hb => e7 b o hb (hk b o (nfr b hb) e)⟩ ⟨.inl na, ha, _, _, T, oT, ts, e1, ?_, ?_, d1, by simp [hsz], .inr sT, untracked I sT, hTa, e3, e4, hsz3⟩
  ·rw [Obj.cls_mapFields]; exact h2
  ·rw [WP]; exact h3
 rcases h5 with h5 | ⟨T, oT, ts, g1, g2, g3, g4, g5, g6, g7⟩
 ·unfold noteFrame
  simp only [hf]
  refine ZAA (ZAg h1 h4 h5 ?_)
  show 205
  exact fin [] s.heap (fun _ z => nomatch z) h1 (fun b o _ e => e) (fun b e => e) (fun b e => e) I.stack (ZBF.mp h5).1 _ _
 ·unfold noteFrame
  simp only [hf]
  refine ZAA (ZAg h1 h4 g1 ?_)
  rw [if_pos (show (Value.ref T != Value.none) = true from by simp)]
  refine wpAny_bind (wpAny_field g5 g6 (x := ts[3]) (by simp [g7]) ?_)
  by_cases hfl : (ts[3] == rawInt L) = true
  ·rw [ZAI hfl]
   exact ZAC (hQ s.heap [] (fun _ z => nomatch z) ⟨fun b o e _ _ _ => e, fun b o e _ => ⟨o.slots, e⟩⟩ ⟨.inl na, ha, oe, vs, T, oT, ts, h1, h2, h3, h4, g1, .inl g2, g3, g4, g5, g6, g7⟩)
  rw [ZAJ hfl]
  refine ZAA (ZB1 g5 g6 g7 ?_)
  have other : ∀ b, b ≠ T -> (s.heap.update T (Obj.mapFields (·.setIfInBounds 3 Value.none))).get? b = s.heap.get? b := fun b hb => ZAT _ _ (ZA1 hb)
  have self : (s.heap.update T (Obj.mapFields (·.setIfInBounds 3 Value.none))).get? T = some _ := ZAx _ g5 (Obj.isFreed_of_fields (Obj.data_mapFields g6 _))
  refine fin [T] _ (fun t z => by rw [List.mem_singleton.mp z]; exact ⟨g2, g3, g4, oT, ts, g5, g6⟩) ((other a (Ne.symm g4)).trans h1) (fun b o hb e => (other b (by simpa using hb)).trans e) (fun b e => ?_) (fun b e => ?_) (I.stack.of_keeps fun b o hb hnf => ⟨o, (other b fun z => ?_).trans hb, rfl⟩) (Array.getElem?_eq_some_iff.mp g1).1 _ _
  ·exact (other b (fun z => by rw [z, g5] at e; cases e)).trans e
  ·by_cases z : b = T
   ·rw [z, self] at e; cases e
   ·rw [other b z] at e; exact e
  ·rw [z, g5] at hb; cases hb; exact hnf ts g6
theorem YnL {α : Type} {Q : α -> Shared -> Prop} {what : String} {env : Env} (f : Yn7 N H a C od s.heap)
 (h : ∀ h' T, N T -> H T = none -> (∃ o ts, s.heap.get? T = some o /\ o.data = .fields ts) -> (∀ b o, b ≠ T -> s.heap.get? b = some o -> h'.get? b = some o) -> YlV N H a C od h' -> E (.ref a) { s with heap := h' }) : wpAny M A (PySem.passOn what (.ref a) env : Sem α) Q E s := by
 obtain ⟨na, ha, oe, vs, T, oT, ts, h1, h2, h3, h4, g1, g2, g3, g4, g5, g6, g7⟩ := f
 unfold PySem.passOn
 refine ZAA (ZAg h1 h4 g1 ?_)
 rw [if_neg (show ¬ ((Value.ref T == Value.none) = true) from by simp)]
 unfold setFlight
 refine ZAA (ZAA (ZAg h1 h4 g1 ?_))
 rw [if_pos (show (Value.ref T != Value.none) = true from by simp)]
 refine ZB1 g5 g6 g7 (wpAny_throw ?_)
 have other : ∀ (x : Value) b o, b ≠ T -> s.heap.get? b = some o -> (s.heap.update T (Obj.mapFields (·.setIfInBounds 3 x))).get? b = some o := fun x b o hb e => (ZAT _ _ (ZA1 hb)).trans e
 refine h _ T g2 g3 ⟨oT, ts, g5, g6⟩ (other _) ⟨na, ha, oe, vs, other _ a oe (Ne.symm g4) h1, h2, h3, h4, .inr ⟨T, _, _, g1, g2, g3, g4, Heap.get?_update_self _ g5 (Obj.isFreed_of_fields (Obj.data_mapFields g6 _)), Obj.data_mapFields g6 _, by simp [g7]⟩⟩
end
section
variable {X : Cx} {scope : Scope} {TN FN : List Str} {pins : LAO} {σ : St} {H2 : Hp} {s2 : Shared} {fp : List Addr} {Cc : Addr}
theorem Ydi {use : Option (Value -> Sem Unit)} {Q0 : VSP} {acc : Value} {PL : LAO} {as as7 : List Addr} {H H7 : Hp} {ρ ρ1 : Rho} {x : Xc} {st' : YkJ}
 (I2 : Inv X pins σ H2 s2) (f2 : ∀ b ∈ fp, YlA X pins H2 b) (hC : s2.heap.objs.size <= Cc) (hst : X.stack = X.env :: X.outer) (hf : X.env.frame = some X.env.locals) (hPL : ∀ b ∈ fp, ∃ o, (b, o) ∈ PL)
 (x7 : Ext as H as7 H7) (en : YkZ X.K as H ρ σ) (hx : XOk X as7 H7 ρ x st') :
 XOk ((YkR X scope (TN ++ FN) Cc s2 H2 fp).tried PL (notedBy (model X.prog X.w) X.A (compEnvC scope (Yk9 X.env.cells scope.names []) Cc X.env) fun e s' => compPost (model X.prog X.w) X.A X.xe use Q0 acc Cc (.error e) s')) as7 H7 ρ1 x st' := by
 intro pins' σ' s' as' H' a I' en' ext rp' ⟨C, od, hn, f0, fa⟩
 have pinned : ∀ b ∈ fp, ∃ o, s'.heap.get? b = some o := fun b hb => by
  obtain ⟨o, ho⟩ := hPL b hb
  exact ⟨o, (I'.pin (b, o) (ZAo _ (ZAP _ ho))).1⟩
 have nn : ∀ b, s'.heap.get? b = none -> s2.heap.get? b = none /\ b ∉ fp := fun b z => by
  have nf : b ∉ fp := fun hb => by obtain ⟨o, e⟩ := pinned b hb; rw [z] at e; cases e
  refine ⟨?_, nf⟩
  cases q : s2.heap.get? b with
  | none => rfl
  | some o =>
   obtain ⟨o', e⟩ := I'.base.there b o q nf
   rw [z] at e; cases e
 have nw : ∀ b, (∀ p ∈ ((YkR X scope (TN ++ FN) Cc s2 H2 fp).pn ++ PL) ++ pins', p.1 ≠ b) /\ (b ∈ fp \/ s2.heap.get? b = none) -> s2.heap.get? b = none /\ b ∉ fp := fun b z => by
  have nf : b ∉ fp := fun hb => by obtain ⟨o, ho⟩ := hPL b hb; exact z.1 (b, o) (ZAo _ (ZAP _ ho)) rfl
  exact ⟨z.2.resolve_left nf, nf⟩
 have nw' : ∀ b, Nw ((YkR X scope (TN ++ FN) Cc s2 H2 fp).tried PL (notedBy (model X.prog X.w) X.A (compEnvC scope (Yk9 X.env.cells scope.names []) Cc X.env) fun e s' => compPost (model X.prog X.w) X.A X.xe use Q0 acc Cc (.error e) s')) pins' b -> s2.heap.get? b = none /\ b ∉ fp := fun b z => nw b ⟨z.2, z.1⟩
 show wpAny _ _ (noteFrame (.ref a) (compEnvC scope (Yk9 X.env.cells scope.names []) Cc X.env)) _ _ s'
 refine YnE I' f0 I'.ok.frames hst hf hf fun h1 Ts hT n f1 => ?_
 obtain ⟨m, hns, _⟩ := id I'.loc
 obtain ⟨oL, es, ep, hoL, hrest⟩ := id hns
 have Cfr : Cc ∉ frs X.stack := fun z => by
  rcases ZAV.mp (I2.stkSub _ z) with e | e
  ·have := I2.lt; rw [<- e] at this; exact absurd (ZAN this hC) (ZA5 _)
  ·exact I2.nofs hC e
 have fr1 : ∀ {b o ws}, s'.heap.get? b = some o -> o.data = .fields ws -> b ≠ Cc := fun {b o ws} e1 e2 => (Wj I' e1 e2).1
 obtain ⟨na1, ha1, oe1, vs1, T1, oT1, ts1, k1, k2, k3, k4, k5, k6, k7, k8, k9, k10, k11⟩ := id f1
 have aC : a ≠ Cc := by
  obtain ⟨oe, vs, e1, _, _, e2, _⟩ := f0.tr
  exact fr1 e1 e2
 have hns1 : h1.Ns Cc m := ⟨oL, es, ep, n.keep Cc oL hoL (ZA1 aC) (fun z => by
  obtain ⟨_, _, _, o, ws, q1, q2⟩ := hT Cc z
  exact fr1 q1 q2 rfl) Cfr, hrest⟩
 have notC : ∀ {b o ws}, h1.get? b = some o -> o.data = .fields ws -> b ≠ Cc := fun {b o ws} e1 e2 z => by
  subst z
  obtain ⟨o', es', ep', e3, e4, _⟩ := hns1
  rw [e1] at e3; cases e3
  rw [e2] at e4; cases e4
 refine ⟨m, hns1, fun h2 sb cenv' _ => ?_⟩
 have f2' : Yn7 (fun b => s2.heap.get? b = none /\ b ∉ fp) H' a (.ref C) od h2 := by
  refine ⟨na1.elim (nw' a) (nn a), ha1, oe1, vs1, T1, oT1, ts1, (sb.2 a aC).trans k1, k2, k3, k4, k5, k6.elim (nw' T1) (nn T1), k7, k8, (sb.2 T1 (notC k9 k10)).trans k9, k10, k11⟩
 refine YnL (s := { s' with heap := h2 }) f2' fun h3 T nT hT0 hTo keep3 f3 => ?_
 obtain ⟨oT, tsT, hTo, hTd⟩ := hTo
 have step : ∀ b o, b ∉ frs X.stack -> s2.heap.get? b = some o -> b ∉ fp -> ∀ o', s'.heap.get? b = some o' -> h3.get? b = some o' := fun b o hbf e hbx o' e' => by
  have na' : b ≠ a := fun z => by have := (nw' a f0.na).1; rw [<- z, e] at this; cases this
  have nTs : b ∉ Ts := fun z => by have := (nw' b (hT b z).1).1; rw [e] at this; cases this
  have nCc : b ≠ Cc := ZAL (ZAN (ZAD e) hC)
  have nT' : b ≠ T := fun z => by have := nT.1; rw [<- z, e] at this; cases this
  exact keep3 b o' nT' ((sb.2 b nCc).trans (n.keep b o' e' na' nTs hbf))
 have stepF : ∀ b o, b ∈ frs X.stack -> s'.heap.get? b = some o -> ∃ sl, h3.get? b = some { o with slots := sl } := fun b o hb e => by
  obtain ⟨sl, e1⟩ := n.slot b o e hb
  have nCc : b ≠ Cc := fun z => Cfr (z ▸ hb)
  have e2 : h2.get? b = some { o with slots := sl } := (sb.2 b nCc).trans e1
  refine ⟨sl, keep3 b _ (fun z => ?_) e2⟩
  obtain ⟨_, o', q3, q4⟩ := I'.stack.mem hb
  rw [e] at q3; cases q3
  subst z
  have hTo' : h2.get? b = some oT := hTo
  rw [e2] at hTo'; cases hTo'
  exact q4 tsT hTd
 have u := I'.base
 have un : Un (frs X.stack) fp H2 H' s2.heap h3 := by
  refine ⟨fun b o e n' hb hx' => step b o hb e hx' o (u.keep b o e n' hb hx'), fun b o e n' hb hx' => ?_, u.free, fun b o e hx' => ?_, u.tups, u.frzs, u.tbls⟩
  ·obtain ⟨sl, q⟩ := u.slot b o e n' hb hx'
   obtain ⟨sl', q'⟩ := stepF b _ hb q
   exact ⟨sl', q'⟩
  ·obtain ⟨o', q⟩ := u.there b o e hx'
   by_cases hb : b ∈ frs X.stack
   ·obtain ⟨sl', q'⟩ := stepF b _ hb q
    exact ⟨_, q'⟩
   ·exact ⟨o', step b o hb e hx' o' q⟩
 have hok1 := n.hok I' f0.ha fun t z => (hT t z).2.1
 have hok : HOk X.prog X.w H' h3 := fun b v e => (hok1 b v e).stay (fun c' v' hc' q => by
  have tr : ∃ z, H' c' = some z := by
   rcases hc' with rfl | hc'
   ·exact ⟨_, e⟩
   ·exact ⟨_, hc'⟩
  obtain ⟨z, hz⟩ := tr
  refine keep3 c' v' (fun y => ?_) ((sb.2 c' fun y => ?_).trans q)
  ·rw [y, hT0] at hz; cases hz
  ·have nC : H' Cc = none := I'.free
   rw [y, nC] at hz; cases hz) (fun _ q => q) fun _ _ q => q
 have IX : Inv X pins σ H' { s' with heap := h3 } := I2.call' (s' := { s' with heap := h3 }) (ch := fp) I'.os un hok I'.bare fun b hb => ⟨(f2 b hb).2.2.2.1, (f2 b hb).2.1, (f2 b hb).2.2.2.2.1, (f2 b hb).2.2.2.2.2⟩
 exact hx pins σ _ as' H' a IX (en.ext (x7.trans ext)) ext rp' ⟨C, od, hn, f3.mono fun b z => Yct I2 z.1, fa⟩
end
def Yle (src : Src) (g : MG) (nt : MT) (me : ME) (ρ0 : Rho) : Nat -> Nat -> YkJ -> List P -> R (List P)
 | 0, i, st, acc => match src.nx i st with
  | some none => .ok acc st
  | _ => .bad
 | n + 1, i, st, acc => match src.nx i st with
  | some none => .ok acc st
  | none => .bad
  | some (some p) => match g p ρ0 st with
   | none => .bad
   | some ρ1 => match nt ρ1 st with
    | .ok false st1 => Yle src g nt me ρ0 n (i + 1) st1 acc
    | .ok true st1 => match me ρ1 st1 with
     | .ok q st2 => if acc.length < cap then Yle src g nt me ρ0 n (i + 1) st2 (acc ++ [q]) else .bad
     | .exc x st2 => .exc x st2
     | .bad => .bad
    | _ => .bad
def Ymv (mi : MI) (n : Nat) (fr : List Nat) (g : MG) (nt : MT) (me : ME) : MA := fun ρ st => (mi ρ st).bind fun src st1 => Yle src g nt me (rho0 n fr ρ) src.n 0 st1 []
section
variable {X : Cx}
set_option maxHeartbeats 4000000 in
theorem YcW {elt tg iter : Expr} {ifs : List Expr} {scope : Scope} {pos pos0 : Pos} {TN FN : List Str} {fr : List Nat} {mi : MI} {g : MG} {nt : MT} {me : ME} {use : Option (Value -> Sem Unit)} {Q0 : VSP} {pins : LAO} {s : Shared} {σ : St} {H : Hp} {Q : VK}
 (hst : X.stack = X.env :: X.outer) (hf : X.env.frame = some X.env.locals) (hc : X.calm = true) (c : Ylw X scope TN FN fr) (hi : JI X tg iter mi) (hgo : Yms TN.length g)
 (hb : ∀ C s₀ H₀ ex, JG (YkR X scope (TN ++ FN) C s₀ H₀ ex) tg g /\ JTs (YkR X scope (TN ++ FN) C s₀ H₀ ex) ifs nt /\ ∀ pins E, JE ((YkR X scope (TN ++ FN) C s₀ H₀ ex).tried pins E) elt me)
 (hs : ∀ x, foldedSetIterable iter X.env x = pure x) (I : Inv X pins σ H s) (ht : tL X (Ymv mi TN.length fr g nt me) σ H Q)
 (hend : ∀ (s4 : Shared) (C D : Addr) (H' : Hp), (∃ m, s4.heap.Ns C m) -> H' C = none -> YlA X pins H' C -> (∀ h', Heap.SameBut C s4.heap h' -> Inv X pins σ H' { s4 with heap := h' }) -> Q (.ref D) H' -> compPost (model X.prog X.w) X.A X.xe use Q0 (.ref D) C (.ok .next) s4) :
 wpAny (model X.prog X.w) X.A (comprehension (.ListComp elt [⟨tg, iter, ifs, 0⟩] scope pos) scope X.env pos0 (newList []) false (eval iter X.env) use) Q0 X.xe s := by
 obtain ⟨as, ρ, st, en, rp, h⟩ := ht
 refine ZCM (use := use) rfl hs (Va (c.has I.ok)) c.kind c.names ?_
 refine thn (hi pins s σ H (fun J H1 => ∃ as1 src st1, Ext as H as1 H1 /\ Rep X.K as1 st1 H1 /\ YmF X.K as1 H1 src J /\ Yk3 X as1 H1 ρ (Yle src g nt me (rho0 TN.length fr ρ) src.n 0 st1 []) Q) I ⟨as, ρ, st, en, rp, ?_⟩) fun v s1 h1 => thn h1 fun itv s2 h2 => ?_
 ·unfold Ymv at h
  cases q : mi ρ st with
  | bad => show 164
  | exc k st' => show 164
  | ok src st1 =>
   show 167
   exact fun as1 H1 J x rp1 ok => ⟨as1, src, st1, x, rp1, ok, Yk3.ext x h⟩
 obtain ⟨it, fp, tn, J, H2, rfl, I2, T, st2, f2, as1, src, st1, x1, rp1, ok, hp⟩ := h2
 have hfo : ∀ b ∈ fp, ∃ o, s2.heap.get? b = some o := fun b hb => let ⟨o, e, _⟩ := T.obj 0 _ st2 b hb; ⟨o, e⟩
 have hfl : ∀ b ∈ fp, b < s2.heap.objs.size := fun b hb => let ⟨o, e⟩ := hfo b hb; ZAD e
 refine wpAny_newObj_type (wpAny_newFunctionEnv c.cell (by intro y hy; simp at hy) (fun h₁ hns hsb => ?_) c.kind)
 dsimp only at hns hsb ⊢
 generalize hH2 : s2.heap.push { cls := .type "list", dict := none, data := .seq ([] : List Value).toArray } = G at hns hsb ⊢
 have hGC : G.objs.size = s2.heap.objs.size + 1 := by rw [<- hH2, ZAa]
 have hDC : s2.heap.objs.size ≠ G.objs.size := by omega
 have hC : s2.heap.objs.size <= G.objs.size := by omega
 have keep : ∀ b o, s2.heap.get? b = some o -> h₁.get? b = some o := fun b o e => hsb.extBut b o (ZAL (ZAN (ZAD e) hC)) (ZAB _ (hH2 ▸ ZAB _ e))
 have hD0 : h₁.get? s2.heap.objs.size = some { cls := .type "list", data := .seq ([] : List Value).toArray 0 } := hsb.extBut _ _ hDC (ZAB _ (hH2 ▸ ZAF _ rfl))
 have hns' : h₁.Ns G.objs.size fun _ => none := by simpa using hns
 obtain ⟨bg, bt, be⟩ := hb G.objs.size s2 H2 fp
 have HD0 : H2 s2.heap.objs.size = none := I2.hok.fresh (ZAE _)
 have loop : ∀ s₃ : Shared, s₃ = { s2 with heap := h₁, toks := s2.toks + ([] : List (Str × Value)).length } ->
  codeAny (model X.prog X.w) X.A (.compLoop (.ListComp elt [⟨tg, iter, ifs, 0⟩] scope pos) 0 (.ref it) (.ref s2.heap.objs.size) (compEnvC scope (Yk9 X.env.cells scope.names []) G.objs.size X.env))
   (compPost (model X.prog X.w) X.A X.xe use Q0 (.ref s2.heap.objs.size) G.objs.size) s₃ := by
  rintro s₃ rfl
  have IY := Yb9 (tk := s2.toks + ([] : List (Str × Value)).length) c I2 f2 hfo hC keep hns'
  have stat : ∀ {H' : Hp} {pl : LAO}, (∀ b ∈ fp, H' b = none) -> (∀ p ∈ pl, ∀ b ∈ fp, p.1 ≠ b) -> ∀ b ∈ fp, YlA (YkR X scope (TN ++ FN) G.objs.size s2 H2 fp) pl H' b := fun {H' pl} hn hpl b hb => by
   obtain ⟨f0, f1, f2', f3, f4, f5⟩ := f2 b hb
   refine ⟨hn b hb, ?_, ?_, .inl hb, fun y a e => f4 y a (c.cl e), fun p hp => hpl p hp b hb⟩
   ·exact ZAL (ZAN (hfl b hb) hC)
   ·intro z
    rcases ZAV.mp (I2.stkSub b z) with e | e
    ·exact f1 e
    ·exact f2' e
  have nDf : s2.heap.objs.size ∉ frs X.stack := fun z => by
   rcases ZAV.mp (I2.stkSub _ z) with e | e
   ·exact absurd (e ▸ I2.lt) (ZA5 _)
   ·exact I2.nofs (ZAE _) e
  have cellD : ∀ y a, X.env.cells.lookup y = some a -> a ≠ s2.heap.objs.size := fun y a e => by
   obtain ⟨v, q⟩ := I2.cell y a e
   exact ZAL q.lt
  refine YaW (fun n s' => ∃ i as' st' H' σ' acc vs its m, Inv (YkR X scope (TN ++ FN) G.objs.size s2 H2 fp) [] σ' H' s' /\ YkZ X.K as' H' (rho0 TN.length fr ρ) σ' /\ Ext as1 H2 as' H' /\ Rep X.K as' st' H' /\ tn i s'.heap /\ (∀ b ∈ fp, H' b = none) /\
   s'.heap.get? s2.heap.objs.size = some { cls := .type "list", data := .seq its.toArray m } /\ H' s2.heap.objs.size = none /\ Vals vs its /\ Dens X.K as' H' vs acc /\ acc.length <= cap /\ Yk3 X as' H' ρ (Yle src g nt me (rho0 TN.length fr ρ) n i st' acc) Q) ?_ src.n
   ⟨0, as1, st1, H2, _, [], [], [], 0, IY, env0 (YkZ.ext x1 en), Ext.refl, rp1, T.keep _ _ _ st2 fun b hb o e => keep b o e, fun b hb => (f2 b hb).1, hD0, HD0, .nil, .nil, ZBZ _, hp⟩
  rintro n s3 ⟨i, as3, st3, H3, σ3, acc, vs, its, m, I3, en3, x3, rp3, tn3, fr3, hD, nD, rv, dn, hl, h⟩
  have nDloc : s2.heap.objs.size ≠ (YkR X scope (TN ++ FN) G.objs.size s2 H2 fp).env.locals := hDC
  have IP : Inv (YkR X scope (TN ++ FN) G.objs.size s2 H2 fp) [(s2.heap.objs.size, { cls := .type "list", data := .seq its.toArray m })] σ3 H3 s3 := I3.pins_of fun p hp => by
   show 66
   exact ⟨hD, nD, nDloc, nDf, fun v z => by cases z⟩
  have hpl : ∀ p ∈ [(s2.heap.objs.size, ({ cls := .type "list", data := .seq its.toArray m } : Obj))], ∀ b ∈ fp, p.1 ≠ b := fun p hp b hb => by
   show 66
   exact ZBE (hfl b hb)
  have done : src.nx i st3 = some none -> Yk3 X as3 H3 ρ (.ok acc st3) Q -> wpAny (model X.prog X.w) X.A (pyNext (.ref it)) (fun r s₁ => r = none /\ compPost (model X.prog X.w) X.A X.xe use Q0 (.ref s2.heap.objs.size) G.objs.size (.ok .next) s₁)
   (notedBy (model X.prog X.w) X.A (compEnvC scope (Yk9 X.env.cells scope.names []) G.objs.size X.env) fun e s' => compPost (model X.prog X.w) X.A X.xe use Q0 (.ref s2.heap.objs.size) G.objs.size (.error e) s') s3 := fun e h => by
   refine thn (T.done (YkR X scope (TN ++ FN) G.objs.size s2 H2 fp) rfl rfl rfl hc i _ s3 σ3 H3 _ IP (stat fr3 hpl) tn3 (ok.stop i as3 st3 H3 x3 rp3 e)) fun r s4 ⟨hr, I4⟩ => ⟨hr, ?_⟩
   obtain ⟨m4, hn4, _⟩ := id I4.loc
   obtain ⟨hD4, nD4, _⟩ := I4.pin _ (ZAP _ ZAU)
   have inv : ∀ h', Heap.SameBut G.objs.size s4.heap h' -> Inv X pins σ (upd H3 s2.heap.objs.size (.lst vs)) { s4 with heap := h' } := fun h' sb => by
    have un : Un (frs X.stack) fp H2 H3 s2.heap h' := by
     have u := I4.base
     have up : ∀ b o, s2.heap.get? b = some o -> b ≠ G.objs.size := fun b o e => ZAL (ZAN (ZAD e) hC)
     exact ⟨fun b o e n hb hx => (sb.2 b (up b o e)).trans (u.keep b o e n hb hx), fun b o e n hb hx => let ⟨sl, q⟩ := u.slot b o e n hb hx; ⟨sl, (sb.2 b (up b o e)).trans q⟩, u.free, fun b o e hx => let ⟨o', q⟩ := u.there b o e hx; ⟨o', (sb.2 b (up b o e)).trans q⟩, u.tups, u.frzs, u.tbls⟩
    have hok : HOk X.prog X.w H3 h' := fun b u e => (I4.hok b u e).stay (fun c' v hc' q => by
     refine (sb.2 c' ?_).trans q
     rintro rfl
     have nC : H3 G.objs.size = none := I4.free
     rcases hc' with z | z
     ·rw [<- z, nC] at e; cases e
     ·rw [nC] at z; cases z) (fun _ q => q) fun _ _ q => q
    have IX : Inv X pins σ H3 { s4 with heap := h' } := I2.call' (s' := { s4 with heap := h' }) (ch := fp) I4.os un hok I4.bare fun b hb => ⟨(f2 b hb).2.2.2.1, (f2 b hb).2.1, (f2 b hb).2.2.2.2.1, (f2 b hb).2.2.2.2.2⟩
    have hDh : h'.get? s2.heap.objs.size = some { cls := .type "list", data := .seq its.toArray m } := (sb.2 _ hDC).trans hD4
    have IT := Inv.track (s := { s4 with heap := h' }) IX hDh nD rv (by rw [dn.length]; exact ZAH hl Ys) I2.sz (by have := I2.lt; exact ZBE this) cellD (fun p hp => ZAL (ZAD (I2.pin p hp).1))
    exact IT
   have nC : (upd H3 s2.heap.objs.size (.lst vs)) G.objs.size = none := by rw [Yh (ZA1 hDC)]; exact I4.free
   exact hend s4 G.objs.size s2.heap.objs.size _ ⟨m4, hn4⟩ nC (I2.fpOk hC nC) inv (h as3 _ _ vs (Ext.laid nD) (rp3.laid nD) Yl (rp3.fresh nD) (dn.ext (Ext.laid nD)))
  have bad : ∀ {r : Option Value -> Shared -> Prop} {E : VSP}, False -> wpAny (model X.prog X.w) X.A (pyNext (.ref it)) r E s3 := fun f => f.elim
  cases e : src.nx i st3 with
  | none => cases n <;> (simp only [Yle, e] at h; exact h.elim)
  | some o =>
   cases o with
   | none =>
    have h' : Yk3 X as3 H3 ρ (.ok acc st3) Q := by cases n <;> (simp only [Yle, e] at h; exact h)
    exact thn (done e h') fun r s4 ⟨hr, q⟩ => by subst hr; exact q
   | some p =>
    cases n with
    | zero => simp only [Yle, e] at h; exact h.elim
    | succ n =>
     obtain ⟨g1, g2⟩ := ok.go i as3 st3 H3 p x3 rp3 e
     cases zg : g p (rho0 TN.length fr ρ) st3 with
     | none => simp only [Yle, e, zg] at h; exact h.elim
     | some ρ1 =>
      obtain ⟨gl, gk⟩ := hgo _ _ _ _ zg
      refine thn (T.item (YkR X scope (TN ++ FN) G.objs.size s2 H2 fp) rfl rfl rfl hc i _ s3 σ3 H3 _ IP (stat fr3 hpl) tn3 g1) fun r s4 ⟨u, hr, h4⟩ => ?_
      subst hr
      refine thn h4 fun _ s5 ⟨x, H5, I5, r5, y5, st5, fr5⟩ => ?_
      obtain ⟨x5, rp5, d5⟩ := g2 x H5 y5
      have nD5 : H5 s2.heap.objs.size = none := (I5.pin _ (ZAP _ ZAU)).2.1
      have I5' := I5.pinned (stat fr5 hpl) (T.obj _ _ st5)
      refine ZAw (bg _ s5 σ3 H5 x u (fun σ' H' => H' = H5 /\ YkZ X.K as3 H5 ρ1 σ') I5' r5 ⟨as3, _, st3, p, ρ1, en3.ext x5, rp5, d5, zg, fun σ' en' => ⟨rfl, en'⟩⟩) (fun _ s6 ⟨σ6, H6, I6, e6, en6⟩ => ?_) fun _ _ f => f.elim
      subst e6
      cases zt : nt ρ1 st3 with
      | bad => simp only [Yle, e, zg, zt] at h; exact h.elim
      | exc k st' => simp only [Yle, e, zg, zt] at h; exact h.elim
      | ok k st4 =>
       refine ZAw (bt _ s6 σ6 H6 (fun k' H' => k' = k /\ ∃ as', Ext as3 H6 as' H' /\ Rep X.K as' st4 H') I6 ⟨as3, ρ1, st3, en6, rp5, by rw [zt]; exact fun as' H' x rp => ⟨rfl, as', x, rp⟩⟩) (fun k' s7 ⟨H7, I7, ek, as7, x7, rp7⟩ => ?_) fun _ _ f => f.elim
       subst ek
       have fin : ∀ {H8 : Hp} {s8 : Shared} {as8 : List Addr} {st8 : YkJ} {acc' : List P} {vs' : List V} {its' : List Value} {m' : Nat} {s9 : Shared}, Inv (YkR X scope (TN ++ FN) G.objs.size s2 H2 fp) ([] : LAO) σ6 H8 s9 -> Ext as7 H7 as8 H8 -> Rep X.K as8 st8 H8 ->
        tn (i + 1) s9.heap -> (∀ b ∈ fp, H8 b = none) -> s9.heap.get? s2.heap.objs.size = some { cls := .type "list", data := .seq its'.toArray m' } -> H8 s2.heap.objs.size = none -> Vals vs' its' -> Dens X.K as8 H8 vs' acc' -> acc'.length <= cap ->
        Yk3 X as8 H8 ρ (Yle src g nt me (rho0 TN.length fr ρ) n (i + 1) st8 acc') Q -> ∃ m, m < n + 1 /\ ∃ i as' st' H' σ' acc vs its m_1, Inv (YkR X scope (TN ++ FN) G.objs.size s2 H2 fp) [] σ' H' s9 /\ YkZ X.K as' H' (rho0 TN.length fr ρ) σ' /\ Ext as1 H2 as' H' /\ Rep X.K as' st' H' /\ tn i s9.heap /\ (∀ b ∈ fp, H' b = none) /\
         s9.heap.get? s2.heap.objs.size = some { cls := .type "list", data := .seq its.toArray m_1 } /\ H' s2.heap.objs.size = none /\ Vals vs its /\ Dens X.K as' H' vs acc /\ acc.length <= cap /\ Yk3 X as' H' ρ (Yle src g nt me (rho0 TN.length fr ρ) m i st' acc) Q :=
        fun {H8 s8 as8 st8 acc' vs' its' m' s9} I8 x8 rp8 t8 fr8 hD8 nD8 rv8 dn8 hl8 h8 => ⟨n, ZAz n, i + 1, as8, st8, H8, σ6, acc', vs', its', m', I8, YkZ.ext x8 (YkZ.ext x7 (en6.back gl gk)), ((x3.trans x5).trans x7).trans x8, rp8, t8, fr8, hD8, nD8, rv8, dn8, hl8, h8⟩
       have stay : ∀ {H8 : Hp} {s8 : Shared}, Inv (YkR X scope (TN ++ FN) G.objs.size s2 H2 fp) ([(s2.heap.objs.size, ({ cls := .type "list", data := .seq its.toArray m } : Obj))] ++ Ymk fp s5.heap) σ6 H8 s8 ->
        tn (i + 1) s8.heap /\ (∀ b ∈ fp, H8 b = none) /\ s8.heap.get? s2.heap.objs.size = some { cls := .type "list", data := .seq its.toArray m } /\ H8 s2.heap.objs.size = none := fun {H8 s8} I8 => by
        refine ⟨T.keep _ _ _ st5 fun b hb o e => (I8.pin (b, o) (ZAP _ (ZAP _ (Za hb e)))).1, fun b hb => ?_, ?_⟩
        ·obtain ⟨o, e, d⟩ := T.obj _ _ st5 b hb
         exact (I8.pin (b, o) (ZAP _ (ZAP _ (Za hb e)))).2.1
        ·have q := I8.pin (s2.heap.objs.size, { cls := .type "list", data := .seq its.toArray m }) (ZAP _ (ZAo _ ZAU))
         exact ⟨q.1, q.2.1⟩
       have nopins : ∀ {H8 : Hp} {s8 : Shared} {pl : LAO}, Inv (YkR X scope (TN ++ FN) G.objs.size s2 H2 fp) pl σ6 H8 s8 -> Inv (YkR X scope (TN ++ FN) G.objs.size s2 H2 fp) [] σ6 H8 s8 := fun {H8 s8 pl} I8 => I8.pins_of fun p hp => by cases hp
       cases k' with
       | false =>
        simp only [Yle, e, zg, zt] at h
        rw [ZAJ ZAQ]
        obtain ⟨t7, f7, hD7, nD7⟩ := stay I7
        exact fin (s8 := s7) (nopins I7) Ext.refl rp7 t7 f7 hD7 nD7 rv (dn.ext (x5.trans x7)) hl (Yk3.ext (x5.trans x7) h)
       | true =>
        rw [ZAI rfl]
        cases ze : me ρ1 st4 with
        | bad => simp only [Yle, e, zg, zt, ze] at h; exact h.elim
        | exc k st' =>
         simp only [Yle, e, zg, zt, ze] at h
         exact ZAw (be _ (notedBy (model X.prog X.w) X.A (compEnvC scope (Yk9 X.env.cells scope.names []) G.objs.size X.env) fun e s' => compPost (model X.prog X.w) X.A X.xe use Q0 (.ref s2.heap.objs.size) G.objs.size (.error e) s') [] s7 σ6 H7 (fun _ _ => False) (I7.tried _) ⟨as7, ρ1, st4, en6.ext x7, rp7, by rw [ze]; exact Ydi I2 f2 hC hst hf (fun b hb => let ⟨o, e, _⟩ := T.obj _ _ st5 b hb; ⟨o, ZAP _ (Za hb e)⟩) (x1.trans (x3.trans (x5.trans x7))) en (XOk.ext (x5.trans x7) h)⟩) (fun w' s8 ⟨y, H8, I8, r8, f⟩ => f.elim) fun _ _ z => z
        | ok q st8 =>
         simp only [Yle, e, zg, zt, ze] at h
         by_cases hlt : acc.length < cap
         ·rw [ZAI hlt] at h
          refine ZAw (be _ (fun _ _ => False) [] s7 σ6 H7 (fun v' H' => ∃ as', Ext as7 H7 as' H' /\ Rep X.K as' st8 H' /\ Den X.K as' H' v' q) (I7.tried _) ⟨as7, ρ1, st4, en6.ext x7, rp7, by rw [ze]; exact fun as' H' v' x rp d => ⟨as', x, rp, d⟩⟩) (fun w' s8 ⟨y, H8, I8', r8, as8, x8, rp8, d8⟩ => ?_) fun _ _ f => f.elim
          have I8 := I8'.untried I7.ok
          obtain ⟨t8, f8, hD8, nD8⟩ := stay I8
          have hll : its.length <= cap := by rw [<- rv.length, dn.length]; exact hl
          refine call_meets F.slot_list_append ⟨_, hD8, rfl⟩ F.entry_list_append (F.args_list_append_2 _ _) (PySem.list_append s2.heap.objs.size its.toArray m w' (by rw [ZAZ]; exact ZAH hll Ys)) ⟨hD8, ?_⟩
          have hD9 := PySem.IsL.update hD8 (fun a => a.push w')
          rw [show its.toArray.push w' = (its ++ [w']).toArray by simp] at hD9
          have oth : ∀ b o, b ≠ s2.heap.objs.size -> s8.heap.get? b = some o -> (s8.heap.update s2.heap.objs.size (Obj.mapSeq fun a => a.push w')).get? b = some o := fun b o hb e => (ZAT _ _ (ZA1 hb)).trans e
          have I9 : Inv (YkR X scope (TN ++ FN) G.objs.size s2 H2 fp) [] σ6 H8 { s8 with heap := s8.heap.update s2.heap.objs.size (Obj.mapSeq fun a => a.push w'), toks := s8.toks } :=
           Inv.turned (it := s2.heap.objs.size) (nopins I8) oth nD8 nDloc (.inr (ZAE _)) (fun y a e => cellD y a (c.cl e)) fun p hp => by cases hp
          refine fin (s8 := s8) (its' := its ++ [w']) I9 x8 rp8 (T.keep _ _ _ t8 fun b hb o e => oth b o (ZAL (hfl b hb)) e) f8 hD9 nD8 (rv.append (.cons r8 .nil)) ((dn.ext ((x5.trans x7).trans x8)).append (.cons d8 .nil)) ?_ (Yk3.ext ((x5.trans x7).trans x8) h)
          rw [ZAK, ZAW]; exact hlt
         ·rw [ZAJ hlt] at h; exact h.elim
 exact codeAny_compStart_list (loop _ rfl) (T.self _ 0 _ _ _ (T.keep _ _ _ st2 fun b hb o e => keep b o e) (loop _ rfl))
theorem YgN {elt tg iter : Expr} {ifs : List Expr} {scope : Scope} {pos : Pos} {TN FN : List Str} {fr : List Nat} {mi : MI} {g : MG} {nt : MT} {me : ME} (hst : X.stack = X.env :: X.outer) (hf : X.env.frame = some X.env.locals) (hc : X.calm = true) (c : Ylw X scope TN FN fr) (hi : JI X tg iter mi) (hgo : Yms TN.length g)
 (hb : ∀ C s₀ H₀ ex, JG (YkR X scope (TN ++ FN) C s₀ H₀ ex) tg g /\ JTs (YkR X scope (TN ++ FN) C s₀ H₀ ex) ifs nt /\ ∀ pins E, JE ((YkR X scope (TN ++ FN) C s₀ H₀ ex).tried pins E) elt me)
 (hs : ∀ x, foldedSetIterable iter X.env x = pure x := by intro _; rfl) : JL X (.ListComp elt [⟨tg, iter, ifs, 0⟩] scope pos) (Ymv mi TN.length fr g nt me) := by
 intro pins s σ H Q I ht
 rw [eval_ListComp]
 exact YcW hst hf hc c hi hgo hb hs I ht fun s4 C D H' ⟨m, hn⟩ _ _ inv q => ⟨m, hn, fun h' sb => ⟨.ref D, H', inv h' sb, rfl, q⟩⟩
end
end Mi
namespace Mi
open PySem PySem.Spec L2
open PyProof.Rows hiding St
section
variable {X : Cx}
end
end Mi
namespace Mi
open PySem PySem.Spec L2
open PyProof.Rows hiding St
section
variable {K : Frag} {as : List Addr} {H : Hp}
end
section
variable {X : Cx} {a b o i e : Expr} {ma mb mo mi me : ME} {pos pos' : Pos}
end
end Mi
namespace Mi
open PySem PySem.Spec L2
open PyProof.Rows hiding St
structure Yni (k : Nat) (A : Around) : Prop where
 dp : A.depth + 3 * k + 5 < recursionLimit
 un : A.units + 16 * k + 200 < cLine
theorem Yni.deeper {k : Nat} {A : Around} (r : Yni (k + 1) A) (env : Env) : Yni k (A.deeper env) :=
 ⟨by have := r.dp; show A.depth + 1 + 3 * k + 5 < _; omega, by have := r.un; show A.units + 3 + 16 * k + 200 < _; omega⟩
structure You (P' : Program) (w : World) (K : Frag) (mg : SOV) (base : Heap) (k : Nat) (f : Addr) (fd : FuncData) (ps : List Str) (sp : Sp) : Prop where
 run : ∀ (A : Around) (outer : List Env) (s : Shared) (H : Hp) (args : Args) (us : List Value) (vs : List V) (Q : VK) (E : XK), Yni k A -> Ync P' w K mg base A outer s H -> BindsTo s fd args (ps.zip us) -> Vals vs us -> sp vs H Q E ->
  codeAny (model P' w) A (.call (.ref f) args) (CR CX0 outer P' w H s Q E) s
section
variable {P' : Program} {w : World} {K : Frag} {mg : SOV} {base : Heap}
end
structure FnH (P' : Program) (w : World) (K : Frag) (mg : SOV) (base : Heap) (x : Str) (k : Nat) (ps : List Str) (mf : MF) : Prop where
 ex : ∃ f fd, You P' w K mg base k f fd ps (spM K ps.length mf) /\ mg x = some (.ref f) /\ PySem.W.keepIn K (.ref f) = true /\ Binds K fd ps []
section
variable {P' : Program} {w : World} {K : Frag} {mg : SOV} {base : Heap} {x : Str} {st : Stmt} {N ps : List Str} {k : Nat} {m : MS}
end
end Mi
namespace Mi
open PySem PySem.Spec L2
open PyProof.Rows hiding St
section
variable {X : Cx}
end
end Mi
namespace Mi
open PySem
open Sem (wp)
section
variable {prog : Program} {w : World} {A : Around} {E : VSP} {h : Heap} {g : Array GenState} {d : Drawn} {t : Nat} {os : OsState}
variable {nm q : Str} {C N : Addr} {bs bm bmB : List Value} {hdct : Bool} {sn : List Str} {sub : List Value} {ab : Bool} {col : Option Bool} {dd : Option Addr} {k0 k1 k2 k3 k5 : Option Value} {B Bn newId nid initId inN : String} {bmN : List Value}
end
section
variable {prog : Program} {w : World} {A : Around} {E : VSP} {s : Shared} {env : Env}
variable {nm q : Str} {C N : Addr} {bs bm bmB : List Value} {hdct : Bool} {sn : List Str} {sub : List Value} {ab : Bool} {col : Option Bool} {dd : Option Addr} {k0 k1 k2 k3 k5 : Option Value} {B Bn newId nid initId inN : String} {bmN : List Value}
end
end Mi
namespace Mi
open PySem PySem.Spec L2 PySem.W
open PyProof.Rows hiding St
open Builtin Builtin.ObjectAttr
def Yn1 : List Value -> Bool
 | .ref _ :: r => Yn1 r
 | [.type a, .type b, .type c, .type d] => a == "ValueError" && b == "Exception" && c == "BaseException" && d == "object"
 | _ => false
def Yn8 (K : Frag) (C : Addr) : Bool := (clsIn K C).any fun cd => Yn1 cd.mro
section
variable {prog : Program} {w : World} {A : Around} {E : VSP} {s : Shared} {K : Frag} {x C : Addr} {ox : Obj} {name : Str} {v : Value}
end
end Mi
namespace Mi
open PySem PySem.Spec L2 PySem.W
open PyProof.Rows hiding St
open Builtin Builtin.ObjectAttr
section
variable {prog : Program} {w : World} {A : Around} {E : VSP} {s : Shared} {K : Frag} {x C : Addr} {ox : Obj}
end
section
variable {X : Cx} {pins : LAO} {σ : St} {H H' : Hp} {s : Shared}
theorem _root_.L2.Inv.swap {pins' : LAO} {h' : Heap} {t' : Nat} (I : Inv X pins σ H s) (hpn : X.pn = []) (fs : ∀ b ∈ X.fs, b ∈ frs X.stack)
 (hch : ∀ p ∈ pins', (p.1 ∈ X.ex \/ X.s₀.heap.get? p.1 = none) /\ p.1 ≠ X.env.locals /\ (∀ x c, X.env.cells.lookup x = some c -> c ≠ p.1) /\ p.1 ∉ frs X.stack /\ H p.1 = none /\ h'.get? p.1 = some p.2 /\ ∀ v, p.2.data ≠ .cell v)
 (keep : ∀ b o, b ∉ pins'.map (·.1) -> s.heap.get? b = some o -> h'.get? b = some o) : Inv X pins' σ H { s with heap := h', toks := t' } := by
 have I0 : Inv X [] σ H s := I.pins_of fun p hp => absurd hp (by simp)
 obtain ⟨m, ⟨oL, es, ep, hoL, _⟩, _⟩ := id I.loc
 have ne : ∀ b, b ∈ pins'.map (·.1) -> ∃ p ∈ pins', p.1 = b := fun b hb => by
  obtain ⟨p, hp, e⟩ := ZA8.mp hb
  exact ⟨p, hp, e⟩
 have q := L2.Inv.stepN (t' := t') (h' := h') (H' := H) (ch := pins'.map (·.1)) I0 (fun b hb => by
  obtain ⟨p, hp, rfl⟩ := ne b hb
  obtain ⟨a1, a2, a3, a4, _⟩ := hch p hp
  exact ⟨⟨a1, fun r hr => absurd hr (by rw [hpn]; simp)⟩, a2, a3, a4⟩)
  (fun b o _ hc e _ => keep b o hc e) (fun b o hb e => ⟨o.slots, keep b o (fun z => by obtain ⟨p, hp, rfl⟩ := ne b z; exact (hch p hp).2.2.2.1 hb) e⟩) (fun b _ q => q)
  (fun b o hc e => ⟨o, keep b o hc e⟩) (fun b u q => q) ⟨oL, oL.slots, hoL, keep _ _ (fun z => by obtain ⟨p, hp, e⟩ := ne _ z; exact (hch p hp).2.1 e) hoL⟩ fs (fun b u e => by
   refine (I.hok b u e).stay (fun c v hc q => keep c v (fun z => ?_) q) (fun _ q => q) fun _ _ q => q
   obtain ⟨p, hp, rfl⟩ := ne c z
   have hn := (hch p hp).2.2.2.2.1
   rcases hc with hc | hc
   ·rw [hc, e] at hn; cases hn
   ·rw [hc] at hn; cases hn)
 refine q.pins_of fun p hp => ?_
 obtain ⟨a1, a2, a3, a4, a5, a6, a7⟩ := hch p hp
 exact ⟨a6, a5, a2, fun z => a4 (fs _ z), a7⟩
end
end Mi
namespace Mi
open PySem PySem.Spec L2 PySem.W
open PyProof.Rows hiding St
def Short (v : V) : Prop := (∃ i : Int, v = .int i /\ i.natAbs.log2 < 1920) \/ ∃ x : Str, v = .str x /\ x.length <= 2000
structure Own (X : Cx) : Prop where
 pn : X.pn = []
 ex : X.ex = []
 fs : ∀ b ∈ X.fs, b ∈ frs X.stack
section
variable {X : Cx} {pins : LAO} {σ : St} {H : Hp} {s : Shared}
variable {e C : Addr} {fs : List (Str × V)}
end
end Mi
namespace Mi
open PySem PySem.Spec L2 PySem.W
open PyProof.Rows hiding St
def shapeOf (o : Obj) : Option (ClassData × List (Option Value)) := match o with
 | { cls := .type t, data := .cls d, slots := z, .. } => if t = "type" then some (d, z.toList) else none
 | _ => none
def Yo1 : List (Option Value) -> Bool
 | [_, _, _, _, some (.builtin n), _] => n == "ValueError.__new__"
 | _ => false
def behind (C : Addr) : List Value -> Option (List Value)
 | .ref D :: r => if D = C then some r else none
 | _ => none
def Yoa (K : Frag) (C fI : Addr) : Bool := match (K.lookup C).bind shapeOf with
 | some (d, z) => Yo1 z && (!d.hasDel && (nsOkIn K d.ns && ((nsIn K d.ns "__init__" == some (some (.ref fI))) && (match behind C d.mro with | some r => tailIn K YnP r | none => false))))
 | none => false
structure Ypm (K : Frag) (C G : Addr) (ats : List Str) : Prop where
 over : Yn8 K C = true
 sa : findIn K (.ref C) "__setattr__" = some (some (.builtin "object.__setattr__"))
 hd : hasDictIn K C = true
 sp : specialIn K (.ref G) "__getattribute__" = some (some (.builtin "type.__getattribute__"))
 rd : readsIn K G (.type "type") = true
 cl : findCls K (.ref G) (.type "type") "__init__" = some (.val (.builtin "ValueError.__init__"))
 no : ∀ a ∈ ats, findIn K (.ref C) a = some none
section
variable {X : Cx} {σ : St} {e C : Addr} {fs fs' : List (Str × V)}
end
structure Made (P : Program) (w : World) (outer : List Env) (s s' : Shared) (H : Hp) (e C : Addr) (fs : List (Str × V)) : Prop where
 os : s'.os = s.os
 bare : AllBare s'.gens
 un : Un (frs outer) [] H H s.heap s'.heap
 hok : HOk P w H s'.heap
 ex : ∃ oe vs, s'.heap.get? e = some oe /\ oe.cls = .ref C /\ oe.data = .fields vs /\ vs[1]? = some .none /\
  ((oe.dict = none /\ fs = []) \/ ∃ d mA, oe.dict = some d /\ d ≠ e /\ s.heap.get? d = none /\ H d = none /\ s'.heap.Ns1 d mA /\ ∀ f, Ymo (fs.lookup f) (mA f))
section
variable {P : Program} {w : World} {K : Frag} {mg : SOV} {base : Heap}
end
end Mi
namespace Mi
open PySem PySem.Spec L2 PySem.W
open PyProof.Rows hiding St
theorem Dens.getD {K : Frag} {as : List Addr} {H : Hp} : ∀ {vs : List V} {ps : List P}, Dens K as H vs ps -> ∀ i : Nat, Den K as H (vs.getD i .non) (ps.getD i .non)
 | _, _, .nil, i => by simp; exact .non
 | _, _, .cons d r, 0 => by simp; exact d
 | _, _, .cons d r, i + 1 => by
  have := Dens.getD r i
  show 192
structure Ypj (P' : Program) (w : World) (K : Frag) (mg : SOV) (base : Heap) (c : Str) (k n : Nat) (ats : List (Str × Nat)) : Prop where
 ex : ∃ C fI oI, nsIn K mainGlobals c = some (some (.ref C)) /\ Yoa K C fI = true /\ K.lookup fI = some oI /\ oI.cls = .type "function" /\
  ∀ (A : Around) (outer : List Env) (s : Shared) (H : Hp) (us : List Value) (vs : List V) (h' : Heap) (e : Addr) (Q : VSP) (E : VSP), Ylu k A -> Ync P' w K mg base A outer s H -> Ync P' w K mg base A outer { s with heap := h' } H -> vs.length = n -> Vals vs us -> (∀ v ∈ vs, Short v) ->
   Heap.MadeExcOf s.heap h' e (.ref C) us -> s.heap.objs.size <= h'.objs.size -> (∀ s', Made P' w outer s s' H e C (ats.map fun p => (p.1, vs.getD p.2 .non)) -> Q .none s') -> wpAny (model P' w) A (call (.ref fI) (.ref e :: us)) Q E { s with heap := h' }
end Mi
namespace Mi
open PySem PySem.Spec L2 PySem.W
open PyProof.Rows hiding St
section
variable {prog : Program} {w : World} {A : Around} {E : VSP} {s : Shared} {K : Frag} {x C : Addr} {ox : Obj} {odo : Option Obj} {name : Str} {expr : Bool}
end
section
variable {X : Cx} {e : Expr} {me : ME} {pos : Pos}
end
end Mi
namespace Mi
open PySem PySem.Spec L2 PySem.W
open PyProof.Rows hiding St
abbrev HM := Xc -> Rho -> YkJ -> RS
section
variable {X : Cx}
end
end Mi
namespace Mi
open PySem PySem.Spec L2
open PyProof.Rows hiding St
section
variable {X : Cx}
end
end Mi
namespace L2
open PySem PySem.Spec PyProof.Rows
section
variable {X : Cx} {pins : LAO} {σ : List (Option V)} {H : Hp} {s : Shared} {a : Addr} {o : Obj} {ws : List (Key × V)}
theorem Inv.freeze (I : Inv X pins σ H s) (e : H a = some (.dK ws)) : ∃ o, Inv X pins σ (upd H a (.frz o (.dK ws))) s := by
 have ob : Ylk X.prog X.w H s.heap a (.dK ws) := I.hok a _ e
 obtain ⟨z, y, vs, r, o, es, ep, ho, c⟩ := id ob
 exact ⟨o, I.write (x := a) (e := a) (o := .frz o (.dK ws)) (h' := s.heap) (t' := s.toks) (by rw [e]; trivial) (.inl rfl) (fun _ _ _ q => q) ⟨o, ho⟩ ⟨ho, ob⟩⟩
theorem Inv.thaw (I : Inv X pins σ H s) (e : H a = some (.frz o (.dK ws))) (n1 : ∀ xs, X.H₀ a ≠ some (.tup xs)) (n2 : ∀ o u, X.H₀ a ≠ some (.frz o u)) (n3 : ∀ ps, X.H₀ a ≠ some (.tbl ps)) : Inv X pins σ (upd H a (.dK ws)) s := by
 have hn : ∀ b, H b = none -> b ≠ a := fun b q z => by subst z; rw [e] at q; cases q
 refine ⟨I.ok, I.os, I.bare, ⟨I.base.keep, I.base.slot, fun b u q n x => ?_, I.base.there, fun b xs q => ?_, fun b u v q => ?_, fun b ps q => ?_⟩, I.loc, I.cell, ?_, fun x c q => ?_, fun p hp => ?_, fun b u q => ?_, I.len⟩
 ·have := I.base.free b u q n x
  rw [Yh (hn b this)]; exact this
 ·by_cases h : b = a
  ·subst h; exact absurd q (n1 xs)
  ·rw [Yh h]; exact I.base.tups b xs q
 ·by_cases h : b = a
  ·subst h; exact absurd q (n2 u v)
  ·rw [Yh h]; exact I.base.frzs b u v q
 ·by_cases h : b = a
  ·subst h; exact absurd q (n3 ps)
  ·rw [Yh h]; exact I.base.tbls b ps q
 ·rw [Yh (hn _ I.free)]; exact I.free
 ·rw [Yh (hn _ (I.freeC x c q))]; exact I.freeC x c q
 ·obtain ⟨a1, a2, a3⟩ := I.pin p hp
  exact ⟨a1, by rw [Yh (hn _ a2)]; exact a2, a3⟩
 ·by_cases h : b = a
  ·subst h
   rw [Yl] at q; cases q
   exact (show Ylk X.prog X.w H s.heap b (.frz o (.dK ws)) from I.hok b _ e).2
  ·rw [Yh h] at q
   refine (I.hok b u q).stay (fun c v hc r => r) (fun c r => ?_) fun c xs r => ?_
   ·rw [Yh (by rintro rfl; rw [e] at r; cases r)]; exact r
   ·rw [Yh (by rintro rfl; rw [e] at r; cases r)]; exact r
end
def Itk (a : Addr) (o : Obj) (ws : List (Key × V)) : It :=
 ⟨fun i H => H a = some (.frz o (.dK ws)) /\ i < ws.length, fun i H x H' => H' = H /\ ∃ p, ws[i]? = some p /\ x = kV p.1, fun i H => H a = some (.frz o (.dK ws)) /\ ws.length <= i⟩
theorem Yhn {k : Key} {v : Value} (h : Ymy k v = true) : RelV (kV k) v := by
 rcases YC h with ⟨i, t, rfl, rfl⟩ | ⟨x, t, rfl, rfl⟩
 ·exact ⟨t, rfl⟩
 ·exact ⟨t, rfl⟩
theorem KV.key {ws : List (Key × V)} {vs : List (Key × Value)} (r : KV ws vs) : ∀ {i : Nat} {k : Key} {x : Value}, vs[i]? = some (k, x) -> ∃ p, ws[i]? = some p /\ p.1 = k := by
 induction r with
 | nil => intro i k x e; simp at e
 | @cons p q ps qs h t ih =>
  intro i k x e
  cases i with
  | zero => simp at e; subst e; exact ⟨p, rfl, h.1⟩
  | succ j =>
   obtain ⟨p', h1, h2⟩ := ih (i := j) (by simpa using e)
   exact ⟨p', by simpa using h1, h2⟩
theorem YgI {X : Cx} {pins : LAO} {σ : List (Option V)} {H : Hp} {s : Shared} {a : Addr} {o : Obj} {ws : List (Key × V)} {es : Array DictEntry} {ep : Nat} (I : Inv X pins σ H s) (e : H a = some (.frz o (.dK ws))) (hd : o.data = .dict es ep) :
 ∃ vs, KV ws vs /\ s.heap.DictAt (Yk6 X.prog X.w) a vs ep /\ vs.length = ws.length /\ (a == sysModules) = false := by
 obtain ⟨ho, z, y, vs, r, o', es', ep', h1, h2, h3, h4⟩ := (show Ylk X.prog X.w H s.heap a (.frz o (.dK ws)) from I.hok a _ e)
 rw [ho] at h1; cases h1
 rw [hd] at h3; cases h3
 exact ⟨vs, r, ⟨o, es, ho, h2, hd, h4⟩, (Paired.length r).symm, y⟩
theorem Yek {P : Program} {w : World} {K : Frag} {tg : Expr} (a it : Addr) (o : Obj) (ws : List (Key × V)) {es : Array DictEntry} {ep : Nat} (hd : o.data = .dict es ep) : Turn P w K tg (Itk a o ws) [it] it (fun i h => h.IsKeyIter it a i ws.length ep) where
 mem := by simp
 obj := fun i h st b hb => by
  show 80
 keep := fun i h h' st k => st.at fun o e => k it (by simp) o e
 item := by
  show 15
  obtain ⟨he, hi⟩ := hg
  obtain ⟨vs, r, da, hl, _⟩ := YgI I he hd
  show 198
  obtain ⟨⟨k, x⟩, hx⟩ : ∃ p, vs[i]? = some p := ⟨vs[i]'(by omega), by simp [hl, hi]⟩
  obtain ⟨p, hp, hpk⟩ := KV.key r hx
  rw [<- hl] at st
  refine wpAny_pyNext_dict_item st da hx fun key h' hkey st' sb => ?_
  have I1 : Inv X pins σ H { s with heap := h' } := I.turned (t' := s.toks) (fun b o hb e => (sb.2 b hb).trans e) f0 f1 f3 f4 f5
  rw [hl] at st'
  obtain ⟨o, e, c, d⟩ := id st'
  exact ⟨key, rfl, YcC (s := { s with heap := h' }) e c d (by decide) ⟨kV k, H, I1, Yhn hkey, ⟨rfl, p, hp, by rw [hpk]⟩, st', fun b hb => (hf b hb).1⟩⟩
 done := by
  show 15
  obtain ⟨he, hi⟩ := hg
  obtain ⟨vs, r, da, hl, _⟩ := YgI I he hd
  show 198
  rw [<- hl] at st
  exact wpAny_pyNext_dict_end (I.ok.hd hc) st da (by simp; omega) fun h' eb => ⟨rfl, I.turned (t' := s.toks) (fun b o hb e => eb b o hb e) f0 f1 f3 f4 f5⟩
 self := fun _ _ _ _ _ st h => wpAny_pyIter_keyiter st h
theorem Yhf {X : Cx} {tg : Expr} {pins : LAO} {σ : St} {H : Hp} {s : Shared} {a : Addr} {o : Obj} {ws : List (Key × V)} {R : It -> Hp -> Prop} {E : VSP} (I : Inv X pins σ H s) (e : H a = some (.frz o (.dK ws))) (q : R (Itk a o ws) H) :
 wpAny (model X.prog X.w) X.A (pyIter (.ref a)) (PIE X pins σ tg R) E s := by
 obtain ⟨ho, z, y, vs, r, o', es, ep, h1, h2, h3, h4⟩ := (show Ylk X.prog X.w H s.heap a (.frz o (.dK ws)) from I.hok a _ e)
 rw [ho] at h1; cases h1
 refine wpAny_pyIter_dict (knd := Yk6 X.prog X.w) y ⟨o, es, ho, h2, h3, h4⟩ ?_
 refine ⟨s.heap.objs.size, [s.heap.objs.size], _, _, H, rfl, I.kept (t' := s.toks) fun b o e => ZAB _ e, Yek a _ o ws h3, ⟨_, ZAF _ rfl, rfl, by rw [show ws.length = vs.length from Paired.length r]; rfl⟩, fun b hb => ?_, q⟩
 show 67
end L2
namespace Mi
open PySem PySem.Spec L2
open PyProof.Rows hiding St
section
variable {K : Frag} {as : List Addr} {H : Hp} {st : YkJ} {a : Addr} {o : Obj} {ws : List (Key × V)} {u : HO}
theorem SqT.thaw {b : Addr} {vs : List V} (e : H a = some (.frz o (.dK ws))) (h : SqT K H b vs) : SqT K (upd H a u) b vs := by
 rcases h with (h | ⟨ob, h⟩) | h
 ·exact .inl (.inl (by rw [Yh (by rintro rfl; rw [e] at h; cases h)]; exact h))
 ·exact .inl (.inr ⟨ob, by rw [Yh (by rintro rfl; rw [e] at h; cases h)]; exact h⟩)
 ·exact .inr h
mutual
theorem Den.thaw {v : V} {p : P} (e : H a = some (.frz o (.dK ws))) (h : Den K as H v p) : Den K as (upd H a u) v p :=
 match h with
 | .non => .non
 | .bl => .bl
 | .int => .int
 | .str => .str
 | .ref q => .ref q
 | .tup q r t => .tup (SqT.thaw e q) (Dens.thaw e r) (by rw [Yh (by rintro rfl; rw [e] at t; cases t)]; exact t)
theorem Dens.thaw {vs : List V} {ps : List P} (e : H a = some (.frz o (.dK ws))) (h : Dens K as H vs ps) : Dens K as (upd H a u) vs ps :=
 match h with
 | .nil => .nil
 | .cons x r => .cons (Den.thaw e x) (Dens.thaw e r)
end
theorem YmE.thaw {b : Addr} {ob : O} (e : H a = some (.frz o (.dK ws))) (hb : b ≠ a) (h : YmE K as H b ob) : YmE K as (upd H a u) b ob := by
 cases ob with
 | lst xs => obtain ⟨vs, h1, h2⟩ := h; exact ⟨vs, by rw [Yh hb]; exact h1, h2.thaw e⟩
 | ro xs =>
  obtain ⟨vs, h1, h2⟩ := h
  refine ⟨vs, ?_, h2.thaw e⟩
  rcases h1 with ⟨o, h1⟩ | h1
  ·exact .inl ⟨o, by rw [Yh hb]; exact h1⟩
  ·exact .inr h1
 | dct kvs => obtain ⟨ws, h1, h2, h3⟩ := h; exact ⟨ws, by rw [Yh hb]; exact h1, h2, h3.thaw e⟩
 | exc c fs =>
  obtain ⟨C, od, h1, h2, h3⟩ := h
  refine ⟨C, od, h1, by rw [Yh hb]; exact h2, ?_⟩
  rcases h3 with h3 | ⟨d, ws, h4, h5, h6, h7⟩
  ·exact .inl h3
  ·exact .inr ⟨d, ws, h4, by rw [Yh (by rintro rfl; rw [e] at h5; cases h5)]; exact h5, h6, h7.thaw e⟩
 | dtt kvs => obtain ⟨ws, h1, h2, h3⟩ := h; exact ⟨ws, by rw [Yh hb]; exact h1, h2, h3.thaw e⟩
 | fdc kvs => obtain ⟨o, ws, h1, h2, h3⟩ := h; exact ⟨o, ws, by rw [Yh hb]; exact h1, h2, h3.thaw e⟩
theorem Rep.thaw {k : Nat} {kvs : List (Key × P)} (r : Rep K as st H) (hk : as[k]? = some a) (e : H a = some (.frz o (.dK ws))) (hs : st[k]? = some (.fdc kvs)) : Rep K as (st.set k (.dct kvs)) (upd H a (.dK ws)) where
 len := by rw [ZBX]; exact r.len
 nd := fun i j b hi hj ni nj => by
  have key : ∀ (i : Nat), (¬ Yl9 (st.set k (.dct kvs))[i]?) -> ¬ Yl9 st[i]? := fun i ni z => by
   by_cases h : k = i
   ·subst h; rw [hs] at z; exact z
   ·rw [ZAy h] at ni; exact ni z
  exact r.nd i j b hi hj (key i ni) (key j nj)
 ob := fun i b q hi hq => by
  have hkl : k < st.length := (ZAG.mp hs).1
  by_cases h : k = i
  ·subst h
   rw [hk] at hi; cases hi
   rw [ZAh hkl] at hq
   cases hq
   obtain ⟨o2, ws2, h1, h2, h3⟩ := r.ob k a _ hk hs
   rw [e] at h1; cases h1
   exact ⟨ws, Yl, h2, h3.thaw e⟩
  ·rw [ZAy h] at hq
   have old := r.ob i b q hi hq
   show 214
   ·subst hb
    by_cases hr : Yl9 st[i]?
    ·rw [hq] at hr
     cases q with
     | ro xs =>
      obtain ⟨vs, h1, h2⟩ := old
      refine ⟨vs, ?_, h2.thaw e⟩
      rcases h1 with ⟨ob, h1⟩ | h1
      ·rw [e] at h1; cases h1
      ·exact .inr h1
     | _ => exact hr.elim
    ·exact absurd (r.nd k i b hk hi (by rw [hs]; exact fun z => z) hr) h
   ·exact old.thaw e hb
theorem YkZ.thaw {ρ : Rho} {σ : St} (e : H a = some (.frz o (.dK ws))) (h : YkZ K as H ρ σ) : YkZ K as (upd H a u) ρ σ :=
 ⟨h.len, fun i p q => let ⟨v, h1, h2⟩ := h.val i p q; ⟨v, h1, h2.thaw e⟩⟩
end
def Ynx (i : Nat) (m : MS) : MS := fun ρ st => match ρ[i]? with
 | some (some (.ref k)) => (match st[k]? with
  | some (.dct kvs) => (match m ρ (st.set k (.fdc kvs)) with
   | .nx ρ' st' => (match st'[k]? with
    | some (.fdc kvs') => .nx ρ' (st'.set k (.dct kvs'))
    | _ => .bad)
   | _ => .bad)
  | _ => .bad)
 | _ => .bad
section
variable {X : Cx} {tg : Expr}
theorem Yiy {sm : Stmt} {m : MS} {i : Nat} (h : JS X sm m) : JS X sm (Ynx i m) := by
 intro pins s σ H D I ⟨as, ρ, st, en, rp, q⟩
 unfold Ynx at q
 cases z1 : ρ[i]? with
 | none => simp only [z1] at q; exact q.elim
 | some o1 => cases o1 with
  | none => simp only [z1] at q; exact q.elim
  | some p => cases p with
   | ref k =>
    simp only [z1] at q
    cases z2 : st[k]? with
    | none => simp only [z2] at q; exact q.elim
    | some ob => cases ob with
     | dct kvs =>
      simp only [z2] at q
      cases z3 : m ρ (st.set k (.fdc kvs)) with
      | nx ρ' st' =>
       simp only [z3] at q
       cases z4 : st'[k]? with
       | none => simp only [z4] at q; exact q.elim
       | some ob2 => cases ob2 with
        | fdc kvs' =>
         simp only [z4] at q
         obtain ⟨v, _, dv⟩ := en.val i _ z1
         cases dv with
         | @ref _ a hk =>
          obtain ⟨ws, e, ek, ed⟩ := rp.ob k a _ hk z2
          obtain ⟨o, I1⟩ := I.freeze e
          have xw : Ext as H as (upd H a (.frz o (.dK ws))) := Ext.write e trivial
          have rp1 : Rep X.K as (st.set k (.fdc kvs)) (upd H a (.frz o (.dK ws))) := rp.write hk e trivial (fun z => z) (by rw [z2]; exact fun z => z) ⟨o, ws, Yl, ek, ed.ext xw⟩
          refine thn (h pins s σ _ ⟨fun σ' H' => ∃ as', Ext as (upd H a (.frz o (.dK ws))) as' H' /\ Rep X.K as' st' H' /\ YkZ X.K as' H' ρ' σ', fun _ _ => False, fun _ _ => False, fun _ _ => False⟩ I1 ⟨as, ρ, _, en.ext xw, rp1, by rw [z3]; exact fun as' H' σ' x r n => ⟨as', x, r, n⟩⟩) fun f s' hf => ?_
          cases f with
          | next =>
           obtain ⟨σ', H', I', as', x, r, n⟩ := hf
           have e' : H' a = some (.frz o (.dK ws)) := x.keep a _ Yl (fun z => z)
           have n1 : ∀ xs, X.H₀ a ≠ some (.tup xs) := fun xs z => by have := I.base.tups a xs z; rw [e] at this; cases this
           have n2 : ∀ o u, X.H₀ a ≠ some (.frz o u) := fun o u z => by have := I.base.frzs a o u z; rw [e] at this; cases this
           have n3 : ∀ ps, X.H₀ a ≠ some (.tbl ps) := fun ps z => by obtain ⟨_, t⟩ := I.base.tbls a ps z; rw [e] at t; cases t
           refine ⟨σ', _, I'.thaw e' n1 n2 n3, q as' _ σ' ⟨fun k b t => x.pre k b t, fun b w t nm => ?_⟩ (r.thaw (x.pre k a hk) e' z4) (n.thaw e')⟩
           have hb : b ≠ a := by rintro rfl; rw [e] at t; cases t; exact nm trivial
           rw [Yh hb]
           exact x.keep b w (by rw [Yh hb]; exact t) nm
          | brk => obtain ⟨_, _, _, z⟩ := hf; exact z.elim
          | cont => obtain ⟨_, _, _, z⟩ := hf; exact z.elim
          | ret u => obtain ⟨_, _, _, _, _, z⟩ := hf; exact z.elim
        | _ => simp only [z4] at q; exact q.elim
      | _ => simp only [z3] at q; exact q.elim
     | _ => simp only [z2] at q; exact q.elim
   | _ => simp only [z1] at q; exact q.elim
def kP : Key -> P
 | .inl i => .int i
 | .inr x => .str x
theorem Yis {K : Frag} {as : List Addr} {H : Hp} (k : Key) : Den K as H (kV k) (kP k) := by
 cases k with
 | inl i => exact .int
 | inr x => exact .str
def Ymc (kvs : List (Key × P)) : Src := ⟨kvs.length, fun i _ => some ((kvs[i]?).map fun p => kP p.1)⟩
theorem Yeo {K : Frag} {as : List Addr} {H : Hp} {a : Addr} {o : Obj} {ws : List (Key × V)} {kvs : List (Key × P)} (e : H a = some (.frz o (.dK ws))) (hk : ws.map (·.1) = kvs.map (·.1)) : YmF K as H (Ymc kvs) (Itk a o ws) where
 go := fun i as2 st2 H2 p x rp q => by
  have q' : (kvs[i]?).map (fun p => kP p.1) = some p := Option.some.inj q
  have hl : ws.length = kvs.length := by simpa using congrArg List.length hk
  cases w : kvs[i]? with
  | none => rw [w] at q'; cases q'
  | some kv =>
   rw [w] at q'
   cases q'
   have hi : i < kvs.length := (ZAG.mp w).1
   refine ⟨⟨x.keep a _ e (fun z => z), by omega⟩, fun y H3 ⟨z1, pr, z2, z3⟩ => ?_⟩
   subst z1; subst z3
   have : (ws.map (·.1))[i]? = (kvs.map (·.1))[i]? := by rw [hk]
   rw [ZAj, ZAj, z2, w] at this
   have e2 : pr.1 = kv.1 := by simpa using this
   rw [e2]
   exact ⟨Ext.refl, rp, Yis _⟩
 stop := fun i as2 st2 H2 x rp q => by
  have q' : (kvs[i]?).map (fun p => kP p.1) = none := Option.some.inj q
  have hl : ws.length = kvs.length := by simpa using congrArg List.length hk
  have : kvs.length <= i := by simpa using q'
  exact ⟨x.keep a _ e (fun z => z), by omega⟩
def Ym0 (me : ME) : MI := fun ρ st => (me ρ st).bind fun p st1 => match p with
 | .ref k => (match st1[k]? with
  | some (.fdc kvs) => .ok (Ymc kvs) st1
  | _ => .bad)
 | _ => .bad
theorem Yha {e : Expr} {me : ME} (he : JE X e me) : JI X tg e (Ym0 me) := by
 show 226
 refine thn (he pins s σ H (fun x H1 => ∃ a o ws, x = .ref a /\ H1 a = some (.frz o (.dK ws)) /\ R (Itk a o ws) H1) I
  ⟨as, ρ, st, en, rp, Ylh.bindE h fun p st1 as1 H1 v x rp1 d h1 => ?_⟩) fun v s1 ⟨x, H1, I1, r1, a, o, ws, ex, e1, q1⟩ => by subst ex; cases r1; exact Yhf I1 e1 q1
 cases d with
 | @ref k a hk =>
  show 193
  cases z : st1[k]? with
  | none => simp only [z] at h1; exact h1.elim
  | some ob => cases ob with
   | fdc kvs =>
    simp only [z] at h1
    obtain ⟨o, ws, g1, g2, g3⟩ := rp1.ob k a _ hk z
    exact ⟨a, o, ws, rfl, g1, h1 as1 H1 _ Ext.refl rp1 (Yeo g1 g2)⟩
   | _ => simp only [z] at h1; exact h1.elim
 | _ => show 173
def YnK : G2 := fun p q st => match p with
 | .ref k => (match st[k]? with
  | some (.fdc kvs) => (match YlQ q with
   | some key => (Ylt kvs key).map fun p => (p, st)
   | none => none)
  | _ => none)
 | _ => none
end
section
variable {X : Cx} {a b : Expr} {ma mb : ME} {pos : Pos}
theorem Yje (hu : X.A.units + 1 < cLine) : IxR X (rM X YnK) := IxR.imp (YdA hu) fun x y H Q ⟨as, st, p, q, rp, d1, d2, h⟩ => by
 cases d1 with
 | @ref k a e =>
  have h' : Yk4 X as H (match st[k]? with
   | some (.fdc kvs) => (match YlQ q with
    | some key => (Ylt kvs key).map fun p => (p, st)
    | none => none)
   | _ => none) Q := h
  cases z : st[k]? with
  | none => show 229
  | some ob => cases ob with
   | fdc kvs =>
    simp only [z] at h'
    obtain ⟨o, ws, h1, h2, h3⟩ := rp.ob k a _ e z
    cases w : YlQ q with
    | none => simp only [w] at h'; exact h'.elim
    | some key =>
     simp only [w] at h'
     have ev := V3 d2 w
     subst ev
     cases zz : Ylt kvs key with
     | none => rw [zz] at h'; exact h'.elim
     | some p =>
      rw [zz] at h'
      have od := Z2 (k := key) h2 h3
      rw [zz] at od
      cases hv : Yl6 ws key with
      | none => rw [hv] at od; cases od
      | some v =>
       rw [hv] at od
       cases od with
       | some dd => exact ⟨a, v, rfl, .inl ⟨ws, key, .inr ⟨o, h1⟩, rfl, hv.symm⟩, h' as H _ Ext.refl rp dd⟩
   | _ => show 229
 | _ => show 152
theorem YjA (hu : X.A.units + 1 < cLine) (ha : JE X a ma) (hb : JE X b mb) (hs : YmN b) : JE X (.Subscript a b pos) (YkK YnK ma mb) := PE.imp (Yh7 (Yje hu) ha hb hs) fun _ _ _ h => J4 h
end
def Ymw (me : ME) : MA := fun ρ st => (me ρ st).bind fun p st1 => match p with
 | .ref k => (match listAt st1 k with
  | some xs => (match Ylv xs with
   | some ys => if ys.length < 64 then .ok ((YlM ys).map P.str) st1 else .bad
   | none => .bad)
  | none => .bad)
 | _ => .bad
section
variable {X : Cx} {e : Expr} {me : ME} {p1 c1 : Pos}
theorem Yf0 (hc : X.calm = true) (hg : Gl X "sorted") (hm : X.mg "sorted" = none) (hv : bootBuiltins "sorted" = some (.builtin "sorted")) (he : JE X e me)
 (hs : starEach [e] X.env = (false, eval e X.env) :: starEach [] X.env := by rfl) :
 JL X (.Call (.Name "sorted" p1) [e] [] c1) (Ymw me) := by
 show 256
 refine ZBI (Wt I hg hm hv ?_ (by decide) (by decide))
 refine PyProof.Rows.callWith_builtin1 ?_ hs rfl
 rw [hs]
 show wpAny _ _ (spliced ((false, eval e X.env) :: backTo c1 (starEach [] X.env))) _ _ s
 refine Calls.spliced_cons ?_
 unfold Ymw at h
 refine thn (he pins s σ H (fun v H1 => ∃ a vs ys ks as1 st1, v = .ref a /\ SqL X.K H1 a vs /\ (∀ us, Vals vs us -> StrsAre us ys) /\ ys.length < 64 /\ ks = YlM ys /\ Rep X.K as1 st1 H1 /\
  ∀ l, H1 l = none -> Q (.ref l) (upd H1 l (.lst (ks.map V.str)))) I ⟨as, ρ, st, en, rp, ?_⟩) fun u s1 ⟨x, H1, I1, r1, q1⟩ => ?_
 ·refine Yk3.bindE (Q := Q) h fun p st1 as1 H1 v x rp1 d h1 => ?_
  cases d with
  | @ref k a e =>
   show 193
   cases q : listAt st1 k with
   | none => rw [q] at h1; exact h1.elim
   | some xs =>
    rw [q] at h1
    show 193
    cases q2 : Ylv xs with
    | none => rw [q2] at h1; exact h1.elim
    | some ys =>
     rw [q2] at h1
     show 193
     by_cases z : ys.length < 64
     ·rw [ZAI z] at h1
      obtain ⟨vs, g1, g2⟩ := Y7 rp1 e q
      refine ⟨a, vs, ys, _, as1, st1, rfl, g1, fun us r => ZL g2 r q2, z, rfl, rp1, fun l hl => ?_⟩
      exact h1 as1 _ l _ (Ext.laid hl) (rp1.laid hl) Yl (rp1.fresh hl) (WW _)
     ·rw [ZAJ z] at h1; exact h1.elim
  | _ => show 173
 ·obtain ⟨a, vs, ys, ks, as1, st1, rfl, hsq, hst, hl1, hks, rp1, hq⟩ := q1
  cases r1
  obtain ⟨its, rv, pl, _⟩ := I1.list hsq
  have hl : s1.heap.IsList a its.toArray := pl.isList
  have hS := hst its rv
  refine Calls.spliced_nil ?_
  refine sorted_strs hl hS (by rw [StrsAre.length hS]; exact hl1) fun out ss h1 hp hs3 => ?_
  obtain ⟨n, hD⟩ := sortedAll_at s1.heap its out
  have ess : ss = ks := by rw [hks]; exact Wi hp (ZX ss hs3)
  have hzl : ss.length <= sizeLine := by rw [hp.length_eq, sizeLine_eq]; omega
  have hDs : s1.heap.objs.size <= s1.heap.objs.size + 1 := ZB3 _
  have hn : H1 (s1.heap.objs.size + 1) = none := I1.hok.fresh hDs
  have I3a : Inv X pins σ H1 { s1 with heap := sortedAll s1.heap its out } := I1.kept (t' := s1.toks) fun b o e => sortedAll_old e
  have fo := I1.fpOk hDs hn
  have hD' : (sortedAll s1.heap its out).get? (s1.heap.objs.size + 1) = some { cls := .type "list", data := .seq out.toList.toArray n } := by rw [ZCd]; exact hD
  have I3 := Mi.Inv.track I3a hD' hn (VS h1) (by rw [ZAO]; exact hzl) (ZAH I1.sz hDs) fo.2.1 fo.2.2.2.2.1 fo.2.2.2.2.2
  exact ⟨.ref _, _, I3, rfl, by rw [ess]; exact hq _ hn⟩
end
end Mi
set_option maxHeartbeats 4000000
namespace G
open PySem PySem.Spec L2 Mi
open PyProof.Rows hiding St
def top (i : Nat) : Stmt := PySem.Challenge.pw_gapwords_k70_fillings_that_fit.main.body.getD i (.Pass ⟨0, 0, 0, 0⟩)
def V0 : MS :=
 (Ylp (YmS leP leP (eC (.str "a")) (YkH 0) (eC (.str "z"))))
def ZD : MF := fnM 1 V0
def Wn : MS :=
 (Ylp (Yl8 (eC (.str "")) (Ylj (YlP (YkH 0)) 2 [] (YlK 2 (Yk8 (YkM 0) (Yk8 (YkM 1) YlR))) Ylz (YkK YkY (YkH 0) (YkH 1)))))
def Y5 : MF := fnM 1 Wn
def Yab : MS :=
 (Ylp (Yl8 (eC (.str "")) (YlH (YkH 0))))
def WC : MF := fnM 1 Yab
def Vh : MS :=
 (Ylp (YkX 1 WC (YkI (Yl7 (Ylj (YlP (YkX 1 Y5 (YkI (YkH 0) YkN))) 1 [] (YkM 0) (Ym9 (YkX 1 ZD (YkI (YkH 0) YkN))) (YkH 0))) YkN)))
def Zo : MF := fnM 1 Vh
def VD : MS :=
 (YkT (sIf (Ylb (YkK Ylo (YkH 4) (YkK ixP (YkH 0) (eC (.int 0)))))
 (Ymz "NoFit" (YkI (eFs (Ymu (eC (.str "the machine does not have the sign ")) (Ymu (YnT (YkH 4)) Ym3))) YkN))
 YlG)
 (Yk2 3 (YkK ixP (YkK ixP (YkK ixP (YkH 0) (eC (.int 1))) (YkH 3)) (eM isStr Ymt (YkK ixP (YkH 0) (eC (.int 0))) (YkI (YkH 4) YkN)))))
def Ybv : MS :=
 (YkT (Yk2 3 (YkH 1))
 (YkT (Yl2 (YlP (YkH 2)) (YkM 4)
 VD)
 (Ylp (YkH 3))))
def W3 : MF := YmQ 5 Ybv
def WE : MS :=
 (Ylp (Yns (Ylj (YlP (YkH 1)) 1 [0] (YkM 0) Ylz (YkK Ynh (YkH 0) (YkK ixP (YkH 1) (eC (.int 0)))))))
def YN : MF := fnM 2 WE
def YG : MS :=
 (sIf (Ym6 (Ym9 (YkX 2 YN (YkI (YkH 1) (YkI (YkX 1 Zo (YkI (YkH 0) YkN)) YkN)))))
 (Ymz "NoFit" (YkI (eC (.str "the system has a sign that the machine does not have")) YkN))
 YlG)
def Yp : MF := YmQ 2 YG
def WB : MS :=
 (Ylp (Yoc (YkX 2 YN (YkI (YkH 0) (YkI (YkH 2) YkN))) (YkK Ynh (YlN 3 W3 (YkI (YkH 0) (YkI (eC (.int 0)) (YkI (YkH 2) YkN)))) (YkH 1))))
def Y2 : MF := YmQ 3 WB
def YbJ : MS :=
 (YkT (Ymf (YlN 2 Yp (YkI (YkH 0) (YkI (YkH 1) YkN))))
 (Ylp (Yns (Ymv (Ynn (YkI (YkH 2) (YkI (YkH 3) YkN))) 2 [1] (YlK 2 (Yk8 (YkM 0) (Yk8 (YkM 1) YlR))) Ylz (YlN 3 Y2 (YkI (YkH 2) (YkI (YkH 0) (YkI (YkH 1) YkN))))))))
def Zl : MF := YmQ 4 YbJ
def ZG : MS :=
 (YkT (sIf (Ylb (YkK ltP (YkH 1) (eB Yln (YkI (YkH 0) YkN))))
 (Ylp (YkK ixP (YkH 0) (YkH 1)))
 YlG)
 (Ylp (eC (.int 0))))
def Yo : MF := fnM 2 ZG
def Wa : MS :=
 (YkT (Yk2 2 (YkK Yla (YkK Yl0 (YkK YkY (YkK YkY (YkK Yla (YkH 0) (eC (.int 2147483647))) (YkK Yl0 (YkK Yl0 (eC (.int 7919)) (YkH 1)) (YkH 1))) (YkH 1)) (eC (.int 48271))) (eC (.int 2147483647))))
 (Ylp (YkK Yla (YkK Yl0 (YkH 2) (YkH 2)) (eC (.int 1000003)))))
def Yn : MF := fnM 3 Wa
def Zx : MS :=
 (Ymf (eM Ymr YlL (YkH 5) (YkI (Ynj (Ylj (Ylr (YkI (eB Yln (YkI (YkH 3) YkN)) YkN)) 1 [0, 4, 6] (YkM 0) Ylz (YkK Yla (YkX 2 Yn (YkI (YkH 1) (YkI (YkK YkY (YkK YkY (eC (.int 10)) (YkK Yl0 (eC (.int 5)) (YkH 3))) (YkH 0)) YkN))) (YkH 2)))) YkN)))
def ZI : MS :=
 (YkT (Yk2 2 (eC (.str "abcdefghijklmnopqrstuvwxyz")))
 (YkT (Yk2 3 (Yl7 (YlH (Yl7 (Ylj (Ylr (YkI (YkK YkY (eC (.int 1)) (YkK Yla (YkH 0) (eC (.int 4)))) YkN)) 1 [0, 2] (YkM 0) Ylz (YkK ixP (YkH 2) (YkK Yla (YkX 2 Yn (YkI (YkH 1) (YkI (YkH 0) YkN))) (eC (.int 26)))))))))
 (YkT (Yk2 4 (YkK YkY (eC (.int 1)) (YkK Yla (YkK Ylg (YkH 0) (eC (.int 4))) (YkH 1))))
 (YkT (Yk2 5 (Yl7 (lMk YkN)))
 (YkT (Yl2 (Ylr (YkI (YkH 4) YkN)) (YkM 6)
 Zx)
 (Ylp (Yl1 (YkI (Ynm (eC (.str "")) (YkH 3)) (YkI (eB YlT (YkI (YkH 5) YkN)) YkN)))))))))
def YM : MF := fnM 7 ZI
def l1__law_leads : MS :=
 (Yk2 1 (YkK ixP (YkK ixP (YkK ixP (YkH 0) (eC (.int 1))) (YkH 1)) (eM isStr Ymt (YkK ixP (YkH 0) (eC (.int 0))) (YkI (YkH 3) YkN))))
def Wp : MS :=
 (YkT (Yl2 (YlP (YkH 2)) (YkM 3)
 l1__law_leads)
 (Ylp (YkH 1)))
def YS : MF := fnM 4 Wp
def Wf : MS :=
 (Yk2 3 (YkK YkY (YkH 3) (YkK ixP (YkH 1) (YkK Yla (YkX 2 Yn (YkI (YkH 0) (YkI (YkK YkY (eC (.int 30)) (YkH 4)) YkN))) (eB Yln (YkI (YkH 1) YkN))))))
def WO : MS :=
 (YkT (Yk2 3 (eC (.str "")))
 (YkT (Yl2 (Ylr (YkI (YkK Yla (YkH 0) (YkK YkY (YkH 2) (eC (.int 1)))) YkN)) (YkM 4)
 Wf)
 (Ylp (YkH 3))))
def YQ : MF := fnM 5 WO
def Zz : MS :=
 (YkT (Yk2 2 (eC (.str "ABCDEFGHIJKLMNOPQRSTUVWXYZ")))
 (Ylp (Yl7 (Ylj (Ylr (YkI (YkH 1) YkN)) 1 [0, 2] (YkM 0) Ylz (YkK ixP (YkH 2) (YkK Yla (YkK YkY (YkH 1) (YkK Yl0 (eC (.int 7)) (YkH 0))) (eC (.int 26))))))))
def YF : MF := fnM 3 Zz
def ZR : MS :=
 (Ylp (Yl8 (eC (.str "")) (Ylj (YlP (YkH 0)) 1 [1] (YkM 0) Ylz (YnN (YkH 1) (YkH 0) (YkH 0)))))
def Yw : MF := fnM 2 ZR
def Wb : MS :=
 (YkT (YlU 6 (Ylj (YlP (YkH 2)) 1 [4, 1] (YkM 0) (Ylb (YkK ltP (eM isStr Yme (YkK YkY (YkH 2) (YkH 1)) (YkI (YkH 0) YkN)) (eC (.int 2)))) (YkH 0)))
 (sIf (Yma (Ylb (YkK neP (YkH 6) (Yl7 (lMk YkN)))) (Ylb (YkK gtP (YkK Yla (YkH 5) (eC (.int 4))) (eC (.int 0)))))
 (Yk2 4 (YkK YkY (YkH 4) (YkK ixP (YkH 6) (YkK Yla (YkK Ylg (YkH 5) (eC (.int 4))) (eB Yln (YkI (YkH 6) YkN))))))
 (Yk2 4 (YkK YkY (YkH 4) (YkK ixP (YkH 3) (YkK Yla (YkK Ylg (YkH 5) (eC (.int 4))) (eB Yln (YkI (YkH 3) YkN))))))))
def WQ : MS :=
 (YkT (Yk2 4 (eC (.str "")))
 (YkT (Yl2 (YlP (YkH 0)) (YkM 5)
 Wb)
 (Ylp (YkH 4))))
def YO : MF := fnM 7 WQ
def Zs : MS :=
 (YkT (Ynx 3 (YlU 6 (Ylj (Ym0 (YkH 3)) 1 [4, 2, 3] (YkM 0) (Yma (Ylb (YkK neP (YkK YnK (YkH 3) (YkH 0)) (eC (.str "")))) (Ylb (YkK ltP (eM isStr Yme (YkK YkY (YkH 2) (YkH 1)) (YkI (YkH 0) YkN)) (eC (.int 2))))) (YkH 0))))
 (YkT (YlU 6 (Ylj (YlP (YkH 6)) 1 [5, 0, 3] (YkM 0) (Ylb (YkK eqP (eSl (YkH 2) (Yli (YkH 1)) (Yli (YkK YkY (YkH 1) (eB Yln (YkI (YkK ixP (YkH 3) (YkH 0)) YkN))))) (YkK ixP (YkH 3) (YkH 0)))) (YkH 0)))
 (YkT (Yk2 7 (YkX 2 Yn (YkI (YkH 1) (YkI (YkK YkY (eC (.int 60)) (YkH 5)) YkN))))
 (sIf (Yma (Ylb (YkK neP (YkH 6) (Yl7 (lMk YkN)))) (Ylb (YkK gtP (YkK Yla (YkH 7) (eC (.int 4))) (eC (.int 0)))))
 (YkT (Yk2 4 (YkK YkY (YkH 4) (YkK ixP (YkH 6) (YkK Yla (YkK Ylg (YkH 7) (eC (.int 4))) (eB Yln (YkI (YkH 6) YkN))))))
 (Yk2 5 (YkK YkY (YkH 5) (eB Yln (YkI (YkK ixP (YkH 3) (YkK ixP (YkH 6) (YkK Yla (YkK Ylg (YkH 7) (eC (.int 4))) (eB Yln (YkI (YkH 6) YkN))))) YkN)))))
 (YkT (Yk2 4 (YkK YkY (YkH 4) (YkK ixP (YkH 0) (YkH 5))))
 (Yk2 5 (YkK YkY (YkH 5) (eC (.int 1)))))))))
def Z9 : MS :=
 (YkT (Yk2 4 (eC (.str "")))
 (YkT (Yk2 5 (eC (.int 0)))
 (YkT (Ynb (Ylb (YkK ltP (YkH 5) (eB Yln (YkI (YkH 0) YkN))))
 Zs)
 (Ylp (YkH 4)))))
def YB : MF := fnM 8 Z9
def WS : MS :=
 (YkT (Yk2 3 (YkK Yla (YkK Ylg (YkH 1) (eC (.int 3))) (YkK YkY (eB Yln (YkI (YkH 0) YkN)) (eC (.int 1)))))
 (YkT (Yk2 4 (YkK ixP (YkH 2) (YkK Yla (YkK Ylg (YkH 1) (eC (.int 48))) (eB Yln (YkI (YkH 2) YkN)))))
 (YkT (sIf (Yma (Ylb (YkK eqP (YkK Yla (YkH 1) (eC (.int 3))) (eC (.int 0)))) (Yma (Ylb (YkK ltP (YkH 3) (eB Yln (YkI (YkH 0) YkN)))) (Ylb (YkK Ynh (YkK ixP (YkH 0) (YkH 3)) (YkH 2)))))
 (Ylp (YkK YkY (YkK YkY (eSl (YkH 0) YlE (Yli (YkH 3))) (YkH 4)) (eSl (YkH 0) (Yli (YkK YkY (YkH 3) (eC (.int 1)))) YlE)))
 YlG)
 (Ylp (YkK YkY (YkK YkY (eSl (YkH 0) YlE (Yli (YkH 3))) (YkH 4)) (eSl (YkH 0) (Yli (YkH 3)) YlE))))))
def Y3 : MF := fnM 5 WS
def ZS : MS :=
 (YkT (Yk2 4 (YkX 4 YO (YkI (eSl (YkH 0) YlE (Yli (eC (.int 3)))) (YkI (eC (.str "")) (YkI (YkH 1) (YkI (YkH 3) YkN))))))
 (YkT (Yk2 5 (YkX 4 YB (YkI (YkX 2 Yw (YkI (YkH 4) (YkI (YkH 2) YkN))) (YkI (YkK ixP (YkH 0) (eC (.int 3))) (YkI (YkH 4) (YkI (YkH 2) YkN))))))
 (YkT (Yk2 6 (Yl7 (lMk (YkI (Yl1 (YkI (YkH 4) (YkI (YkH 5) YkN))) YkN))))
 (YkT (sIf (Ylb (YkK eqP (YkK Yla (YkK ixP (YkH 0) (eC (.int 4))) (eC (.int 3))) (eC (.int 1))))
 (YkT (Yk2 7 (YkX 4 YO (YkI (eSl (YkH 0) (Yli (eC (.int 5))) (Yli (eC (.int 7)))) (YkI (YkK YkY (YkH 4) (YkH 5)) (YkI (YkH 1) (YkI (YkH 3) YkN))))))
 (YkT (Yk2 8 (YkK YkY (YkK YkY (YkH 4) (YkH 5)) (YkH 7)))
 (Ymf (eM Ymr YlL (YkH 6) (YkI (Yl1 (YkI (YkH 7) (YkI (YkX 4 YB (YkI (YkX 2 Yw (YkI (YkH 7) (YkI (YkH 2) YkN))) (YkI (YkK ixP (YkH 0) (eC (.int 7))) (YkI (YkH 8) (YkI (YkH 2) YkN))))) YkN))) YkN)))))
 YlG)
 (YkT (sIf (Ylb (YkK eqP (YkK Yla (YkK Ylg (YkK ixP (YkH 0) (eC (.int 4))) (eC (.int 3))) (eC (.int 2))) (eC (.int 1))))
 (YkT (YnO (YkK ixP (YkH 6) (YmT (eC (.int 1)))) (YlK 2 (Yk8 (YkM 9) (Yk8 (YkM 10) YlR))))
 (YnJ (YkH 6) (YmT (eC (.int 1))) (Yl1 (YkI (YkH 9) (YkI (YkX 3 Y3 (YkI (YkH 10) (YkI (YkK Ylg (YkK ixP (YkH 0) (eC (.int 4))) (eC (.int 6))) (YkI (YkH 3) YkN)))) YkN)))))
 YlG)
 (YkT (sIf (Ylb (YkK eqP (YkK Yla (YkK Ylg (YkK ixP (YkH 0) (eC (.int 4))) (eC (.int 3))) (eC (.int 7))) (eC (.int 2))))
 (YlU 6 (Ylj (YlP (YkH 6)) 2 [] (YlK 2 (Yk8 (YkM 0) (Yk8 (YkM 1) YlR))) Ylz (Yl1 (YkI (YkH 1) (YkI (YkH 0) YkN)))))
 YlG)
 (Ylp (eB YlT (YkI (YkH 6) YkN)))))))))
def YZ : MF := fnM 11 ZS
def ZQ : MS :=
 (sIf (Yma (Ym9 (eM isStr YmD (YkH 4) YkN)) (Ylb (YkK Ylo (YkH 4) (YkH 1))))
 (Ymf (eM Ymr YlL (YkH 1) (YkI (YkH 4) YkN)))
 YlG)
def ZU : MS :=
 (Yl2 (YlP (YkK YkY (YkH 2) (YkH 3))) (YkM 4)
 ZQ)
def Wr : MS :=
 (YkT (Yk2 1 (Yl7 (lMk YkN)))
 (YkT (Yl2 (YlP (YkH 0)) (YlK 2 (Yk8 (YkM 2) (Yk8 (YkM 3) YlR)))
 ZU)
 (Ylp (Yl8 (eC (.str "")) (Ymw (YkH 1))))))
def YA : MF := fnM 5 Wr
def ZP : MS :=
 (YkT (YlU 5 (Ylj (Ylr (YkI (eB Yln (YkI (YkK ixP (YkH 0) (eC (.int 1))) YkN)) YkN)) 1 [1, 4] (YkM 0) (Ylb (YkK gtP (YkK Yla (YkX 2 Yn (YkI (YkH 1) (YkI (YkK YkY (YkK YkY (eC (.int 80)) (YkK Yl0 (eC (.int 4)) (YkH 2))) (YkH 0)) YkN))) (eC (.int 3))) (eC (.int 0)))) (YkH 0)))
 (Ymf (eM Ymr YlL (YkH 3) (YkI (eB YlT (YkI (YkH 5) YkN)) YkN))))
def Ws : MS :=
 (YkT (Yk2 3 (Yl7 (lMk YkN)))
 (YkT (Yl2 (Ylr (YkI (eB Yln (YkI (YkH 2) YkN)) YkN)) (YkM 4)
 ZP)
 (Ylp (eB YlT (YkI (YkH 3) YkN)))))
def Y6 : MF := fnM 6 Ws
def Zt : MS :=
 (sIf (Ylb (YkK Ylo (YkH 5) (YkK ixP (YkH 0) (eC (.int 0)))))
 (Ylp (eC (.bl false)))
 YlG)
def WH : MS :=
 (YkT (Yl2 (YlP (YkH 4)) (YkM 5)
 Zt)
 (sIf (Ylb (YkK Ylo (YkX 3 YS (YkI (YkH 0) (YkI (eC (.int 0)) (YkI (YkH 4) YkN)))) (YkH 3)))
 (Ylp (eC (.bl false)))
 YlG))
def Vi : MS :=
 (YkT (Yl2 (Ynn (YkI (YkH 1) (YkI (YkH 2) YkN))) (YlK 2 (Yk8 (YkM 3) (Yk8 (YkM 4) YlR)))
 WH)
 (Ylp (eC (.bl true))))
def YR : MF := fnM 6 Vi
def ZF : MS :=
 (YkT (YnG (Ymf (YlN 4 Zl (YkI (YkH 0) (YkI (YkH 1) (YkI (YkH 2) (YkI (YkH 3) YkN)))))) "NoFit"
 (Ylp (eC (.bl true))))
 (Ylp (eC (.bl false))))
def YD : MF := fnM 4 ZF
def JY : MS :=
 (YnJ (YkH 6) (YkK ixP (YkH 4) (YkH 7)) (YkX 3 YQ (YkI (YkX 2 Yo (YkI (YkH 0) (YkI (YkK YkY (eC (.int 10)) (YkH 7)) YkN))) (YkI (YkK ixP (YkH 5) (eC (.int 0))) (YkI (eC (.int 3)) YkN)))))
def Ybf : MS :=
 (YkT (Yk2 15 (YkX 3 YQ (YkI (YkK Ylg (YkH 14) (eC (.int 4))) (YkI (YkK ixP (YkH 5) (eC (.int 0))) (YkI (eC (.int 9)) YkN)))))
 (YkT (Yk2 16 (YkK ixP (YkH 13) (YkK Yla (YkK Ylg (YkH 14) (eC (.int 40))) (eB Yln (YkI (YkH 13) YkN)))))
 (YkT (Yk2 17 (YkK Yla (YkK Ylg (YkH 14) (eC (.int 7))) (YkK YkY (eB Yln (YkI (YkH 15) YkN)) (eC (.int 1)))))
 (YkT (sIf (Ylb (YkK eqP (YkK Yla (YkH 14) (eC (.int 4))) (eC (.int 1))))
 (Yk2 15 (YkK YkY (YkK YkY (eSl (YkH 15) YlE (Yli (YkH 17))) (YkH 16)) (eSl (YkH 15) (Yli (YkH 17)) YlE)))
 YlG)
 (YkT (Yk2 18 (YkH 12))
 (YkT (sIf (Ylb (YkK neP (YkH 10) (eC (.str ""))))
 (YkT (Yk2 17 (YkK Yla (YkK Ylg (YkH 14) (eC (.int 400))) (eB Yln (YkI (YkH 10) YkN))))
 (Yk2 18 (YkK YkY (YkK YkY (eSl (YkH 12) YlE (Yli (YkH 17))) (Yl1 (YkI (YkH 15) YkN))) (eSl (YkH 12) (Yli (YkK YkY (YkH 17) (eC (.int 1)))) YlE))))
 YlG)
 (YkT (Yk2 19 (YlN 4 Zl (YkI (YkH 8) (YkI (YkH 5) (YkI (YkH 11) (YkI (YkH 18) YkN))))))
 (sIf (Yoe (Ym6 (Ym9 (Yom "bool" (YkH 19)))) (Ylb (YkK neP (YkH 19) (YkX 3 YR (YkI (YkH 5) (YkI (YkH 11) (YkI (YkH 18) YkN)))))))
 (Ylp (eC (.bl false)))
 YlG))))))))
def Yfg : MS :=
 (YkT (YlU 1 (Ylj (Ylr (YkI (eC (.int 2)) (YkI (eC (.int 10)) YkN))) 1 [0] (YkM 0) Ylz (YkX 2 Yo (YkI (YkH 1) (YkI (YkH 0) YkN)))))
 (YkT (Yk2 2 (YkX 2 Yo (YkI (YkH 0) (YkI (eC (.int 0)) YkN))))
 (YkT (Yk2 3 (YkK ixP (Yl7 (lMk (YkI (YkK YkY (eC (.int 1)) (YkK Yla (YkH 2) (eC (.int 3)))) (YkI (YkK YkY (eC (.int 4)) (YkK Yla (YkK Ylg (YkH 2) (eC (.int 624))) (eC (.int 3)))) YkN)))) (eB YnY (YkI (YkK eqP (YkK Yla (YkK Ylg (YkH 2) (eC (.int 78))) (eC (.int 8))) (eC (.int 5))) YkN))))
 (YkT (Yk2 4 (YkX 2 YF (YkI (YkK Ylg (YkH 2) (eC (.int 3))) (YkI (YkH 3) YkN))))
 (YkT (Yk2 5 (YkX 2 YM (YkI (YkX 2 Yo (YkI (YkH 0) (YkI (eC (.int 1)) YkN))) (YkI (eC (.int 3)) YkN))))
 (YkT (Yk2 6 Ynf)
 (YkT (Yl2 (Ylr (YkI (eB Yln (YkI (YkH 4) YkN)) YkN)) (YkM 7)
 JY)
 (YkT (Yk2 8 (YkX 4 YZ (YkI (YkH 1) (YkI (YkH 4) (YkI (YkH 6) (YkI (YkK ixP (YkH 5) (eC (.int 0))) YkN))))))
 (YkT (Yk2 9 (Yl8 (eC (.str "")) (Ylj (YlP (YkH 4)) 1 [8] (YkM 0) (Ylb (YkK Ylo (YkH 0) (YkX 1 YA (YkI (YkH 1) YkN)))) (YkH 0))))
 (YkT (sIf (Ylb (YkK gtP (YkH 3) (eC (.int 3))))
 (Yk2 8 (YkK YkY (YkH 8) (Yl1 (YkI (Yl1 (YkI (YkH 9) (YkI (YmZ (YkH 9)) YkN))) YkN))))
 YlG)
 (YkT (Yk2 10 (YkX 1 YA (YkI (YkH 8) YkN)))
 (YkT (Yk2 11 (YkX 3 Y6 (YkI (YkH 5) (YkI (YkX 2 Yo (YkI (YkH 0) (YkI (eC (.int 13)) YkN))) (YkI (YkH 10) YkN)))))
 (YkT (Yk2 12 (Ynj (Ylj (YlP (YkH 10)) 1 [6] (YkM 0) Ylz (YkK ixP (YkH 1) (YkH 0)))))
 (YkT (YlU 13 (Ylj (YlP (eC (.str "abcdefghijklmnopqrstuvwxyz"))) 1 [5] (YkM 0) (Ylb (YkK Ylo (YkH 0) (YkK ixP (YkH 1) (eC (.int 0))))) (YkH 0)))
 (YkT (Yl2 (YlP (YkK YkY (Yl7 (lMk (YkI (eC (.int 3)) YkN))) (eSl (YkH 0) (Yli (eC (.int 14))) (Yli (eC (.int 54)))))) (YkM 14)
 Ybf)
 (YkT (Yk2 20 (YkK YkY (YkH 8) (Yl1 (YkI (Yl1 (YkI (YkK YkY (YkK ixP (YkH 13) (eC (.int 0))) (YkK ixP (YkH 13) (YmT (eC (.int 1))))) (YkI (YkK YkY (YkK ixP (YkH 13) (eC (.int 0))) (YkK ixP (YkH 13) (YmT (eC (.int 1))))) YkN))) YkN))))
 (YkT (sIf (Ylb (YkK eqP (YkK Yla (YkK Ylg (YkH 2) (eC (.int 2))) (eC (.int 2))) (eC (.int 1))))
 (Yk2 20 (YkK YkY (eSl (YkH 20) (Yli (YmT (eC (.int 1)))) YlE) (YkH 8)))
 YlG)
 (YkT (sIf (Ym6 (Ym9 (YkX 4 YD (YkI (YkH 20) (YkI (YkH 5) (YkI (YkH 11) (YkI (YkH 12) YkN)))))))
 (Ylp (eC (.bl false)))
 YlG)
 (Ylp (YkK eqP (YlN 4 Zl (YkI (YkH 8) (YkI (YkH 5) (YkI (YkH 11) (YkI (YkH 12) YkN))))) (YkX 3 YR (YkI (YkH 5) (YkI (YkH 11) (YkI (YkH 12) YkN))))))))))))))))))))))))
def YbY : MF := fnM 21 Yfg
section
variable {P' : Program} {w : World} {K : Frag} {mg : SOV} {base : Heap}
structure Own (K : Frag) (mg : SOV) : Prop where
 z_all : mg "all" = none
 z_bool : mg "bool" = none
 z_int : mg "int" = none
 z_isinstance : mg "isinstance" = none
 z_len : mg "len" = none
 z_range : mg "range" = none
 z_set : mg "set" = none
 z_sorted : mg "sorted" = none
 z_tuple : mg "tuple" = none
 z_zip : mg "zip" = none
 x_NoFit : ExcAt K "NoFit"
theorem JX : YkU ["letter"] ["letter"] (YkL (top 4)) := by show 161
abbrev HB (n : Str) (t : Stmt) (ps : List Str) := ∀ (kV doc pm : Value) (an : Option Addr) (cdv ct : Value) (us : List Value), us.length = ps.length -> bindArgs (fnOf n n (YkS t) (YkQ t) (YkL t) .none kV doc pm an cdv ct) ⟨us, []⟩ = pure (ps.zip us)
theorem YcR : HB "is_sign" (top 4) ["letter"]
 | _, _, _, _, _, _, [_], _ => rfl
theorem YcL (T : Top K mg) (O : Own K mg) (D : YkO K "is_sign" (top 4))  : Fn P' w K mg base "is_sign" 1 ["letter"] ZD := by
 refine @Zd P' w K mg base "is_sign" (top 4) ["letter"] ["letter"] 0 V0 T D JX YcR ?_
 show 0
 have sc := JX
 show 4
 refine YgE ?_ ?_ ?_ ?_ ?_
 exact Yh9
 exact Yh9
 exact YW
 show 159
 exact YW
theorem Vd : YkU ["system"] ["system"] (YkL (top 5)) := by show 161
theorem YaD : HB "letters_of" (top 5) ["system"]
 | _, _, _, _, _, _, [_], _ => rfl
theorem YaB (T : Top K mg) (O : Own K mg) (D : YkO K "letters_of" (top 5))  : Fn P' w K mg base "letters_of" 1 ["system"] Y5 := by
 refine @Zd P' w K mg base "letters_of" (top 5) ["system"] ["system"] 0 Wn T D Vd YaD ?_
 show 0
 have sc := Vd
 show 4
 refine WK ?_ ?_
 exact YW
 refine ZB (TN := ["left", "right"]) (FN := []) (fr := []) ?_ ?_ ?_ ?_ ?_
 show 158
 exact (YH ["left", "right"] [] [] (by rfl))
 show 178
 show 159
 exact (YcX (Z3 (Yy (by decide)) (Z3 (Yy (by decide)) Ybn)))
 show 130
 show (["left", "right"] : List Str).Nodup; decide +kernel
 show 136
 show (["left", "right"] : List Str).Nodup; decide +kernel
 show 137
 show 1
 show 159
 show 160
theorem YaQ : YkU ["letters"] ["letters"] (YkL (top 6)) := by show 161
theorem Yd6 : HB "rising" (top 6) ["letters"]
 | _, _, _, _, _, _, [_], _ => rfl
theorem YeB (T : Top K mg) (O : Own K mg) (D : YkO K "rising" (top 6))  : Fn P' w K mg base "rising" 1 ["letters"] WC := by
 have z_set := O.z_set
 have z_sorted := O.z_sorted
 refine @Zd P' w K mg base "rising" (top 6) ["letters"] ["letters"] 0 Yab T D YaQ Yd6 ?_
 show 0
 have sc := YaQ
 show 4
 refine WK ?_ ?_
 exact YW
 refine Jm ?_ ?_ ?_ ?_ ?_ ?_ ?_ ?_
 show 22
 exact z_sorted
 exact Ja
 show 158
 exact z_set
 exact YgD
 show 159
theorem Jg : YkU ["system"] ["system"] (YkL (top 7)) := by show 161
theorem YbW : HB "signs_of" (top 7) ["system"]
 | _, _, _, _, _, _, [_], _ => rfl
theorem Yce (T : Top K mg) (O : Own K mg) (D : YkO K "signs_of" (top 7)) (F_is_sign : Fn P' w K mg base "is_sign" 1 ["letter"] ZD) (F_letters_of : Fn P' w K mg base "letters_of" 1 ["system"] Y5) (F_rising : Fn P' w K mg base "rising" 1 ["letters"] WC) : Fn P' w K mg base "signs_of" 2 ["system"] Zo := by
 refine @Zd P' w K mg base "signs_of" (top 7) ["system"] ["system"] 1 Vh T D Jg YbW ?_
 show 0
 have sc := Jg
 show 4
 refine Yx (ps := ["letters"]) (k := 1) ?_ ?_ ?_ ?_
 exact F_rising
 show 2
 show 223
 refine ZB (TN := ["letter"]) (FN := []) (fr := []) ?_ ?_ ?_ ?_ ?_
 show 158
 exact (YH ["letter"] [] [] (by rfl))
 show 178
 refine Yx (ps := ["system"]) (k := 1) ?_ ?_ ?_ ?_
 exact F_letters_of
 show 120
 show 6
 show (["letter"] : List Str).Nodup; decide +kernel
 show 94
 refine Yac ?_ ?_
 refine Yx (ps := ["letter"]) (k := 1) ?_ ?_ ?_ ?_
 exact F_is_sign
 show 120
 show 221
 show 14
theorem Yb3 : YkU ["machine", "room", "word", "here", "sign"] ["machine", "room", "word"] (YkL (top 9)) := by show 161
theorem Ygp : HB "leads" (top 9) ["machine", "room", "word"]
 | _, _, _, _, _, _, [_, _, _], _ => rfl
theorem Yge (T : Top K mg) (O : Own K mg) (D : YkO K "leads" (top 9))  : Fn1 P' w K mg base "leads" 1 ["machine", "room", "word"] W3 := by
 have x_NoFit := O.x_NoFit
 refine @YbF P' w K mg base "leads" (top 9) ["machine", "room", "word", "here", "sign"] ["machine", "room", "word"] 0 Ybv T D Yb3 Ygp ?_
 show 0
 have sc := Yb3
 show 3
 show 160
 show 172
 show 281
 exact PassesOwn.leaving
 show 158
 show 178
 show 171
 show 9
 show 38
 exact (ZE hu)
 show 166
 show 10
 with_unfolding_all rfl
 show 177
 refine Yb6 ?_ ?_ ?_ ?_
 exact x_NoFit
 show 158
 show 91
 refine YjY ?_
 exact (YdC YW (YdC (Yjp (jv 4)) YiD))
 show 107
 show 93
 show 7
 show 7
 show 10
 show 163
 show 185
 refine je_M (T := "str") (id := "str.index") ?_ ?_ ?_ ?_ ?_ ?_ ?_
 exact Yae
 show 230
 exact PySem.F.slot_str_index
 exact PySem.F.type_str_index
 exact Ya9
 show 10
 show 103
 show 83
 show 163
theorem Vx : YkU ["machine", "word"] ["machine", "word"] (YkL (top 11)) := by show 161
theorem YbD : HB "has_signs" (top 11) ["machine", "word"]
 | _, _, _, _, _, _, [_, _], _ => rfl
theorem Ybz (T : Top K mg) (O : Own K mg) (D : YkO K "has_signs" (top 11))  : Fn P' w K mg base "has_signs" 1 ["machine", "word"] YN := by
 have z_all := O.z_all
 refine @Zd P' w K mg base "has_signs" (top 11) ["machine", "word"] ["machine", "word"] 0 WE T D Vx YbD ?_
 show 0
 have sc := Vx
 show 4
 refine YdS ?_ ?_ ?_ ?_ ?_
 show 22
 exact z_all
 exact Yf2
 refine ZB (TN := ["sign"]) (FN := ["machine"]) (fr := [0]) ?_ ?_ ?_ ?_ ?_
 show 158
 exact (YH ["sign"] ["machine"] [0] (by rfl))
 show 178
 show 160
 show 6
 show (["sign", "machine"] : List Str).Nodup; decide +kernel
 show 27
 refine YbK ?_ ?_ ?_ ?_
 exact (Yc1 hu)
 show 159
 show 85
 show 8
 with_unfolding_all rfl
theorem Zk : YkU ["system", "machine"] ["system", "machine"] (YkL (top 12)) := by show 161
theorem Wy : HB "refuse_other_signs" (top 12) ["system", "machine"]
 | _, _, _, _, _, _, [_, _], _ => rfl
theorem Wx (T : Top K mg) (O : Own K mg) (D : YkO K "refuse_other_signs" (top 12)) (F_has_signs : Fn P' w K mg base "has_signs" 1 ["machine", "word"] YN) (F_signs_of : Fn P' w K mg base "signs_of" 2 ["system"] Zo) : Fn1 P' w K mg base "refuse_other_signs" 3 ["system", "machine"] Yp := by
 have x_NoFit := O.x_NoFit
 refine @YbF P' w K mg base "refuse_other_signs" (top 12) ["system", "machine"] ["system", "machine"] 2 YG T D Zk Wy ?_
 show 0
 have sc := Zk
 show 177
 show 242
 refine Ydo ?_
 refine Yac ?_ ?_
 refine Yx (ps := ["machine", "word"]) (k := 1) ?_ ?_ ?_ ?_
 exact F_has_signs
 show 25
 refine Yx (ps := ["system"]) (k := 2) ?_ ?_ ?_ ?_
 exact F_signs_of
 show 120
 exact Yd
 show 221
 show 177
 refine Yb6 ?_ ?_ ?_ ?_
 exact x_NoFit
 show 158
 show 91
 exact YW
 show 107
theorem Vn : YkU ["machine", "good", "word"] ["machine", "good", "word"] (YkL (top 13)) := by show 161
theorem Ybh : HB "word_fits" (top 13) ["machine", "good", "word"]
 | _, _, _, _, _, _, [_, _, _], _ => rfl
theorem Ybq (T : Top K mg) (O : Own K mg) (D : YkO K "word_fits" (top 13)) (F_has_signs : Fn P' w K mg base "has_signs" 1 ["machine", "word"] YN) (F_leads : Fn1 P' w K mg base "leads" 1 ["machine", "room", "word"] W3) : Fn1 P' w K mg base "word_fits" 2 ["machine", "good", "word"] Y2 := by
 refine @YbF P' w K mg base "word_fits" (top 13) ["machine", "good", "word"] ["machine", "good", "word"] 1 WB T D Vn Ybh ?_
 show 0
 have sc := Vn
 show 4
 refine Yic ?_ ?_
 refine Yx (ps := ["machine", "word"]) (k := 1) ?_ ?_ ?_ ?_
 exact F_has_signs
 show 31
 show 20
 exact Yd
 refine YiS ?_
 refine YbK ?_ ?_ ?_ ?_
 exact (Yc1 hu)
 refine V2 (ps := ["machine", "room", "word"]) (k := 1) ?_ ?_ ?_ ?_
 exact F_leads
 show 99
 show 20
 exact Yd
 show 160
 with_unfolding_all rfl
theorem Ydv : YkU ["system", "machine", "goods", "words"] ["system", "machine", "goods", "words"] (YkL (top 14)) := by show 161
theorem YgS : HB "fits" (top 14) ["system", "machine", "goods", "words"]
 | _, _, _, _, _, _, [_, _, _, _], _ => rfl
theorem Yhs (T : Top K mg) (O : Own K mg) (D : YkO K "fits" (top 14)) (F_refuse_other_signs : Fn1 P' w K mg base "refuse_other_signs" 3 ["system", "machine"] Yp) (F_word_fits : Fn1 P' w K mg base "word_fits" 2 ["machine", "good", "word"] Y2) : Fn1 P' w K mg base "fits" 4 ["system", "machine", "goods", "words"] Zl := by
 have z_all := O.z_all
 have z_zip := O.z_zip
 refine @YbF P' w K mg base "fits" (top 14) ["system", "machine", "goods", "words"] ["system", "machine", "goods", "words"] 3 YbJ T D Ydv YgS ?_
 show 0
 have sc := Ydv
 show 172
 show 277
 refine V2 (ps := ["system", "machine"]) (k := 3) ?_ ?_ ?_ ?_
 exact F_refuse_other_signs
 show 31
 show 156
 show 109
 show 4
 refine YdS ?_ ?_ ?_ ?_ ?_
 show 22
 exact z_all
 exact Yf2
 refine YgN (TN := ["good", "word"]) (FN := ["machine"]) (fr := [1]) ?_ ?_ ?_ ?_ ?_ ?_ ?_
 show 22
 show 158
 exact (YH ["good", "word"] ["machine"] [1] (by rfl))
 refine YdJ ?_ ?_ ?_ ?_
 show 158
 exact z_zip
 exact YfK
 show 20
 show 117
 exact (YcX (Z3 (Yy (by decide)) (Z3 (Yy (by decide)) Ybn)))
 show 130
 show (["good", "word", "machine"] : List Str).Nodup; decide +kernel
 show 136
 show (["good", "word", "machine"] : List Str).Nodup; decide +kernel
 show 137
 intro pins E
 refine V2 (ps := ["machine", "good", "word"]) (k := 2) ?_ ?_ ?_ ?_
 exact F_word_fits
 show 2
 show 171
 show 156
 show 159
 show 156
 show 109
theorem Wv : YkU ["_law_script", "_law_k"] ["_law_script", "_law_k"] (YkL (top 16)) := by show 161
theorem Jy : HB "_law_cell_at" (top 16) ["_law_script", "_law_k"]
 | _, _, _, _, _, _, [_, _], _ => rfl
theorem Jz (T : Top K mg) (O : Own K mg) (D : YkO K "_law_cell_at" (top 16))  : Fn P' w K mg base "_law_cell_at" 1 ["_law_script", "_law_k"] Yo := by
 show 220
 refine @Zd P' w K mg base "_law_cell_at" (top 16) ["_law_script", "_law_k"] ["_law_script", "_law_k"] 0 ZG T D Wv Jy ?_
 show 0
 have sc := Wv
 show 38
 exact Yb7
 show 160
 show 134
 show 4
 show 52
 show 160
 show 185
 show 46
 exact Yb
theorem Vc : YkU ["_law_cell", "_law_k", "_law_number"] ["_law_cell", "_law_k"] (YkL (top 17)) := by show 161
theorem Yav : HB "_law_mixed" (top 17) ["_law_cell", "_law_k"]
 | _, _, _, _, _, _, [_, _], _ => rfl
theorem YaE (T : Top K mg) (O : Own K mg) (D : YkO K "_law_mixed" (top 17))  : Fn P' w K mg base "_law_mixed" 1 ["_law_cell", "_law_k"] Yn := by
 refine @Zd P' w K mg base "_law_mixed" (top 17) ["_law_cell", "_law_k", "_law_number"] ["_law_cell", "_law_k"] 0 Wa T D Vc Yav ?_
 show 0
 have sc := Vc
 show 3
 show 5
 show 56
 show 127
 show 5
 show 110
 show 56
 show 81
 show 160
 show 160
 show 160
 exact Yb
 exact Yb
 show 4
 show 5
 show 56
 show 171
 show 23
theorem Ww : YkU ["_law_cell", "_law_most", "_law_letters", "_law_signs", "_law_many", "_law_rooms", "_law_room"] ["_law_cell", "_law_most"] (YkL (top 18)) := by show 161
theorem JB : HB "_law_machine" (top 18) ["_law_cell", "_law_most"]
 | _, _, _, _, _, _, [_, _], _ => rfl
theorem JC (T : Top K mg) (O : Own K mg) (D : YkO K "_law_machine" (top 18)) (F__law_mixed : Fn P' w K mg base "_law_mixed" 1 ["_law_cell", "_law_k"] Yn) : Fn P' w K mg base "_law_machine" 2 ["_law_cell", "_law_most"] YM := by
 show 65
 have z_set := O.z_set
 have z_sorted := O.z_sorted
 show 240
 refine @Zd P' w K mg base "_law_machine" (top 18) ["_law_cell", "_law_most", "_law_letters", "_law_signs", "_law_many", "_law_rooms", "_law_room"] ["_law_cell", "_law_most"] 1 ZI T D Ww JB ?_
 show 0
 have sc := Ww
 show 47
 show 3
 show 223
 refine Jm ?_ ?_ ?_ ?_ ?_ ?_ ?_ ?_
 show 22
 exact z_sorted
 exact Ja
 show 158
 exact z_set
 exact YgD
 show 223
 refine ZB (TN := ["_law_k"]) (FN := ["_law_cell", "_law_letters"]) (fr := [0, 2]) ?_ ?_ ?_ ?_ ?_
 show 158
 exact (YH ["_law_k"] ["_law_cell", "_law_letters"] [0, 2] (by rfl))
 show 39
 show 32
 show 5
 show 110
 show 71
 show 6
 show (["_law_k", "_law_cell", "_law_letters"] : List Str).Nodup; decide +kernel
 show 27
 show 123
 show 77
 exact F__law_mixed
 show 25
 show 14
 show 8
 show 3
 show 32
 show 13
 show 110
 show 160
 show 115
 show 29
 show 39
 show 166
 show 71
 show 9
 show 79
 exact Ybo
 show 73
 exact W4
 show 55
 refine YaL ?_ ?_ ?_ ?_
 show 33
 refine ZB (TN := ["_law_k"]) (FN := ["_law_cell", "_law_many", "_law_room"]) (fr := [0, 4, 6]) ?_ ?_ ?_ ?_ ?_
 show 158
 exact (YH ["_law_k"] ["_law_cell", "_law_many", "_law_room"] [0, 4, 6] (by rfl))
 show 82
 show 163
 show 86
 show 6
 show (["_law_k", "_law_cell", "_law_many", "_law_room"] : List Str).Nodup; decide +kernel
 show 27
 show 77
 exact F__law_mixed
 show 25
 show 1
 show 32
 show 81
 show 163
 show 14
 show 171
 exact Yd
 show 4
 show 12
 refine Yg8 ?_ ?_
 exact YW
 show 163
 show 156
 show 257
 exact (W1 rfl)
 show 33
 show 133
theorem W7 : YkU ["_law_machine_here", "_law_room", "_law_word_here", "_law_sign"] ["_law_machine_here", "_law_room", "_law_word_here"] (YkL (top 19)) := by show 161
theorem Yaw : HB "_law_leads" (top 19) ["_law_machine_here", "_law_room", "_law_word_here"]
 | _, _, _, _, _, _, [_, _, _], _ => rfl
theorem Yay (T : Top K mg) (O : Own K mg) (D : YkO K "_law_leads" (top 19))  : Fn P' w K mg base "_law_leads" 1 ["_law_machine_here", "_law_room", "_law_word_here"] YS := by
 refine @Zd P' w K mg base "_law_leads" (top 19) ["_law_machine_here", "_law_room", "_law_word_here", "_law_sign"] ["_law_machine_here", "_law_room", "_law_word_here"] 0 Wp T D W7 Yaw ?_
 show 0
 have sc := W7
 show 50
 show 171
 show 9
 show 93
 show 7
 show 7
 show 10
 show 160
 show 185
 refine je_M (T := "str") (id := "str.index") ?_ ?_ ?_ ?_ ?_ ?_ ?_
 exact Yae
 show 230
 exact PySem.F.slot_str_index
 exact PySem.F.type_str_index
 exact Ya9
 show 10
 show 57
 show 83
 show 160
theorem Vs : YkU ["_law_cell", "_law_signs", "_law_most", "_law_word_here", "_law_k"] ["_law_cell", "_law_signs", "_law_most"] (YkL (top 20)) := by show 161
theorem Ybr : HB "_law_word" (top 20) ["_law_cell", "_law_signs", "_law_most"]
 | _, _, _, _, _, _, [_, _, _], _ => rfl
theorem YbP (T : Top K mg) (O : Own K mg) (D : YkO K "_law_word" (top 20)) (F__law_mixed : Fn P' w K mg base "_law_mixed" 1 ["_law_cell", "_law_k"] Yn) : Fn P' w K mg base "_law_word" 2 ["_law_cell", "_law_signs", "_law_most"] YQ := by
 show 65
 refine @Zd P' w K mg base "_law_word" (top 20) ["_law_cell", "_law_signs", "_law_most", "_law_word_here", "_law_k"] ["_law_cell", "_law_signs", "_law_most"] 1 WO T D Vs Ybr ?_
 show 0
 have sc := Vs
 show 47
 show 29
 show 39
 show 5
 show 159
 show 1
 show 23
 show 71
 show 9
 show 18
 show 163
 show 85
 show 77
 exact F__law_mixed
 show 31
 show 64
 show 166
 exact Yd
 show 17
 show 160
 show 83
 show 163
theorem Z5 : YkU ["_law_cell", "_law_many", "_law_letters"] ["_law_cell", "_law_many"] (YkL (top 21)) := by show 161
theorem Jb : HB "_law_unknowns" (top 21) ["_law_cell", "_law_many"]
 | _, _, _, _, _, _, [_, _], _ => rfl
theorem VU (T : Top K mg) (O : Own K mg) (D : YkO K "_law_unknowns" (top 21))  : Fn P' w K mg base "_law_unknowns" 1 ["_law_cell", "_law_many"] YF := by
 show 286
 refine @Zd P' w K mg base "_law_unknowns" (top 21) ["_law_cell", "_law_many", "_law_letters"] ["_law_cell", "_law_many"] 0 Zz T D Z5 Jb ?_
 show 0
 have sc := Z5
 show 47
 show 4
 show 223
 refine ZB (TN := ["_law_k"]) (FN := ["_law_cell", "_law_letters"]) (fr := [0, 2]) ?_ ?_ ?_ ?_ ?_
 show 158
 exact (YH ["_law_k"] ["_law_cell", "_law_letters"] [0, 2] (by rfl))
 show 39
 show 160
 show 71
 show 6
 show (["_law_k", "_law_cell", "_law_letters"] : List Str).Nodup; decide +kernel
 show 27
 show 123
 show 5
 show 1
 show 160
 show 81
 show 159
 show 8
theorem WG : YkU ["_law_side", "_law_words"] ["_law_side", "_law_words"] (YkL (top 22)) := by show 161
theorem Yal : HB "_law_filled" (top 22) ["_law_side", "_law_words"]
 | _, _, _, _, _, _, [_, _], _ => rfl
theorem Yam (T : Top K mg) (O : Own K mg) (D : YkO K "_law_filled" (top 22))  : Fn P' w K mg base "_law_filled" 1 ["_law_side", "_law_words"] Yw := by
 refine @Zd P' w K mg base "_law_filled" (top 22) ["_law_side", "_law_words"] ["_law_side", "_law_words"] 0 ZR T D WG Yal ?_
 show 0
 have sc := WG
 show 4
 refine WK ?_ ?_
 exact YW
 refine ZB (TN := ["_law_letter"]) (FN := ["_law_words"]) (fr := [1]) ?_ ?_ ?_ ?_ ?_
 show 158
 exact (YH ["_law_letter"] ["_law_words"] [1] (by rfl))
 show 178
 show 159
 show 6
 show (["_law_letter", "_law_words"] : List Str).Nodup; decide +kernel
 show 27
 refine Yia ?_ ?_ ?_ ?_ ?_
 exact hu
 show 160
 show 159
 show 159
 exact ⟨rfl, rfl, rfl, rfl⟩
theorem VJ : YkU ["_law_cells", "_law_used", "_law_unknowns_here", "_law_signs", "_law_side", "_law_cell", "_law_free"] ["_law_cells", "_law_used", "_law_unknowns_here", "_law_signs"] (YkL (top 23)) := by show 161
theorem Ybm : HB "_law_left" (top 23) ["_law_cells", "_law_used", "_law_unknowns_here", "_law_signs"]
 | _, _, _, _, _, _, [_, _, _, _], _ => rfl
theorem YbR (T : Top K mg) (O : Own K mg) (D : YkO K "_law_left" (top 23))  : Fn P' w K mg base "_law_left" 1 ["_law_cells", "_law_used", "_law_unknowns_here", "_law_signs"] YO := by
 show 220
 refine @Zd P' w K mg base "_law_left" (top 23) ["_law_cells", "_law_used", "_law_unknowns_here", "_law_signs", "_law_side", "_law_cell", "_law_free"] ["_law_cells", "_law_used", "_law_unknowns_here", "_law_signs"] 0 WQ T D VJ Ybm ?_
 show 0
 have sc := VJ
 show 47
 show 50
 show 159
 show 9
 show 172
 refine Y9 (TN := ["_law_name"]) (FN := ["_law_side", "_law_used"]) (fr := [4, 1]) ?_ ?_ ?_ ?_ ?_ ?_ ?_ ?_
 show 26
 exact (YH ["_law_name"] ["_law_side", "_law_used"] [4, 1] (by rfl))
 show 178
 show 171
 show 6
 show (["_law_name", "_law_side", "_law_used"] : List Str).Nodup; decide +kernel
 show 48
 exact Yb7
 refine je_M (T := "str") (id := "str.count") ?_ ?_ ?_ ?_ ?_ ?_ ?_
 exact Yae
 show 230
 exact PySem.F.slot_str_count
 exact PySem.F.type_str_count
 exact Ybb
 show 126
 show 129
 show 53
 show 159
 show 63
 show 44
 exact (Ycn hu8)
 show 182
 show 97
 show 188
 refine Vq ?_
 show 183
 exact Ydy
 show 5
 show 179
 show 122
 show 166
 show 135
 show 179
 show 121
 show 18
 show 166
 show 84
 show 13
 show 179
 show 40
 show 163
 show 83
 show 166
theorem W9 : YkU ["_law_value", "_law_cell", "_law_used", "_law_words", "_law_side", "_law_at", "_law_free", "_law_number"] ["_law_value", "_law_cell", "_law_used", "_law_words"] (YkL (top 24)) := by show 161
theorem YaG : HB "_law_right" (top 24) ["_law_value", "_law_cell", "_law_used", "_law_words"]
 | _, _, _, _, _, _, [_, _, _, _], _ => rfl
theorem YaH (T : Top K mg) (O : Own K mg) (D : YkO K "_law_right" (top 24)) (F__law_mixed : Fn P' w K mg base "_law_mixed" 1 ["_law_cell", "_law_k"] Yn) : Fn P' w K mg base "_law_right" 2 ["_law_value", "_law_cell", "_law_used", "_law_words"] YB := by
 show 220
 refine @Zd P' w K mg base "_law_right" (top 24) ["_law_value", "_law_cell", "_law_used", "_law_words", "_law_side", "_law_at", "_law_free", "_law_number"] ["_law_value", "_law_cell", "_law_used", "_law_words"] 1 Z9 T D W9 YaG ?_
 show 0
 have sc := W9
 show 47
 show 3
 exact Yb
 show 172
 refine Ygf ?_ ?_ ?_
 show 273
 show 183
 exact Yb7
 show 179
 show 134
 show 172
 refine Yiy ?_
 refine Y9 (TN := ["_law_name"]) (FN := ["_law_side", "_law_used", "_law_words"]) (fr := [4, 2, 3]) ?_ ?_ ?_ ?_ ?_ ?_ ?_ ?_
 show 26
 exact (YH ["_law_name"] ["_law_side", "_law_used", "_law_words"] [4, 2, 3] (by rfl))
 refine Yha ?_
 show 163
 show 6
 show (["_law_name", "_law_side", "_law_used", "_law_words"] : List Str).Nodup; decide +kernel
 show 94
 show 285
 show 44
 exact (Ycn hu8)
 refine YjA ?_ ?_ ?_ ?_
 exact hu
 show 163
 show 74
 exact YW
 show 188
 refine Vq ?_
 show 183
 exact Yb7
 refine je_M (T := "str") (id := "str.count") ?_ ?_ ?_ ?_ ?_ ?_ ?_
 exact Yae
 show 230
 exact PySem.F.slot_str_count
 exact PySem.F.type_str_count
 exact Ybb
 show 126
 show 129
 show 53
 show 159
 show 172
 refine Y9 (TN := ["_law_name"]) (FN := ["_law_at", "_law_value", "_law_words"]) (fr := [5, 0, 3]) ?_ ?_ ?_ ?_ ?_ ?_ ?_ ?_
 show 26
 exact (YH ["_law_name"] ["_law_at", "_law_value", "_law_words"] [5, 0, 3] (by rfl))
 show 178
 show 182
 show 6
 show (["_law_name", "_law_at", "_law_value", "_law_words"] : List Str).Nodup; decide +kernel
 show 48
 show 222
 show 197
 show 171
 show 202
 show 160
 show 106
 show 160
 show 17
 show 84
 show 74
 exact Yd
 show 84
 show 74
 show 188
 show 159
 show 3
 show 288
 exact F__law_mixed
 show 25
 show 32
 show 179
 exact Yd
 show 63
 show 44
 exact (Ycn hu8)
 show 182
 show 97
 show 188
 refine Vq ?_
 show 183
 exact Ydy
 show 5
 exact (jv 7)
 show 16
 show 3
 show 87
 show 135
 exact (jv 7)
 show 121
 show 18
 show 179
 show 17
 show 84
 show 135
 exact (jv 7)
 show 121
 show 185
 show 11
 show 87
 show 52
 show 179
 show 185
 show 18
 show 179
 exact Yb
 show 4
 show 166
theorem VO : YkU ["_law_side", "_law_cell", "_law_signs", "_law_at", "_law_sign"] ["_law_side", "_law_cell", "_law_signs"] (YkL (top 25)) := by show 161
theorem YbA : HB "_law_bent" (top 25) ["_law_side", "_law_cell", "_law_signs"]
 | _, _, _, _, _, _, [_, _, _], _ => rfl
theorem Ybs (T : Top K mg) (O : Own K mg) (D : YkO K "_law_bent" (top 25))  : Fn P' w K mg base "_law_bent" 1 ["_law_side", "_law_cell", "_law_signs"] Y3 := by
 show 220
 refine @Zd P' w K mg base "_law_bent" (top 25) ["_law_side", "_law_cell", "_law_signs", "_law_at", "_law_sign"] ["_law_side", "_law_cell", "_law_signs"] 0 WS T D VO YbA ?_
 show 0
 have sc := VO
 show 116
 show 160
 exact Yb
 show 1
 show 149
 exact Yb
 show 3
 show 123
 show 13
 show 160
 show 40
 show 171
 show 37
 show 172
 show 146
 show 44
 show 222
 show 5
 show 160
 show 16
 show 44
 exact Yb7
 show 163
 show 134
 refine Vq ?_
 show 183
 exact (Yc1 hu)
 show 52
 show 163
 show 185
 show 171
 with_unfolding_all rfl
 show 4
 show 127
 show 21
 show 69
 show 163
 show 166
 show 21
 show 106
 show 163
 show 108
 show 46
 show 127
 show 21
 show 69
 show 163
 show 166
 show 21
 show 202
 show 163
 exact Zr
theorem WN : YkU ["_law_cells", "_law_unknowns_here", "_law_words", "_law_signs", "_law_first", "_law_second", "_law_system_here", "_law_other", "_law_used", "_law_left_here", "_law_right_here"] ["_law_cells", "_law_unknowns_here", "_law_words", "_law_signs"] (YkL (top 26)) := by show 161
theorem Yai : HB "_law_system" (top 26) ["_law_cells", "_law_unknowns_here", "_law_words", "_law_signs"]
 | _, _, _, _, _, _, [_, _, _, _], _ => rfl
theorem Yas (T : Top K mg) (O : Own K mg) (D : YkO K "_law_system" (top 26)) (F__law_bent : Fn P' w K mg base "_law_bent" 1 ["_law_side", "_law_cell", "_law_signs"] Y3) (F__law_filled : Fn P' w K mg base "_law_filled" 1 ["_law_side", "_law_words"] Yw) (F__law_left : Fn P' w K mg base "_law_left" 1 ["_law_cells", "_law_used", "_law_unknowns_here", "_law_signs"] YO) (F__law_right : Fn P' w K mg base "_law_right" 2 ["_law_value", "_law_cell", "_law_used", "_law_words"] YB) : Fn P' w K mg base "_law_system" 3 ["_law_cells", "_law_unknowns_here", "_law_words", "_law_signs"] YZ := by
 show 240
 refine @Zd P' w K mg base "_law_system" (top 26) ["_law_cells", "_law_unknowns_here", "_law_words", "_law_signs", "_law_first", "_law_second", "_law_system_here", "_law_other", "_law_used", "_law_left_here", "_law_right_here"] ["_law_cells", "_law_unknowns_here", "_law_words", "_law_signs"] 2 ZS T D WN Yai ?_
 show 0
 have sc := WN
 show 3
 refine Yx (ps := ["_law_cells", "_law_used", "_law_unknowns_here", "_law_signs"]) (k := 1) ?_ ?_ ?_ ?_
 exact F__law_left
 show 2
 show 21
 exact Zr
 show 43
 show 156
 exact YW
 show 105
 show 163
 show 11
 refine Yx (ps := ["_law_value", "_law_cell", "_law_used", "_law_words"]) (k := 2) ?_ ?_ ?_ ?_
 exact F__law_right
 show 2
 refine Yx (ps := ["_law_side", "_law_words"]) (k := 1) ?_ ?_ ?_ ?_
 exact F__law_filled
 show 2
 show 166
 show 20
 show 70
 show 10
 show 103
 show 20
 show 11
 show 54
 show 156
 show 12
 show 166
 show 133
 show 98
 show 5
 show 10
 show 16
 show 3
 refine Yx (ps := ["_law_cells", "_law_used", "_law_unknowns_here", "_law_signs"]) (k := 1) ?_ ?_ ?_ ?_
 exact F__law_left
 show 2
 show 21
 show 43
 show 43
 show 156
 show 87
 show 55
 show 35
 show 163
 show 11
 show 1
 show 87
 show 179
 exact (jv 7)
 show 79
 exact Ybo
 show 73
 exact W4
 show 182
 show 156
 show 12
 exact (jv 7)
 show 156
 refine Yx (ps := ["_law_value", "_law_cell", "_law_used", "_law_words"]) (k := 2) ?_ ?_ ?_ ?_
 exact F__law_right
 show 2
 refine Yx (ps := ["_law_side", "_law_words"]) (k := 1) ?_ ?_ ?_ ?_
 exact F__law_filled
 show 2
 exact (jv 7)
 show 20
 show 70
 show 10
 show 156
 show 232
 show 20
 show 28
 show 107
 show 113
 show 128
 show 16
 show 172
 refine Yi9 ?_ ?_
 show 148
 refine Yan ?_
 show 8
 show 131
 show 177
 refine Yfd ?_ ?_ ?_ ?_
 exact hu
 show 182
 refine Yan ?_
 exact Yb
 show 12
 exact (jv 9)
 show 156
 refine Yx (ps := ["_law_side", "_law_cell", "_law_signs"]) (k := 1) ?_ ?_ ?_ ?_
 exact F__law_bent
 show 2
 exact (jv 10)
 show 156
 show 51
 show 128
 show 57
 show 28
 exact YK
 show 113
 show 128
 show 16
 show 177
 refine Y9 (TN := ["_law_left_here", "_law_right_here"]) (FN := []) (fr := []) ?_ ?_ ?_ ?_ ?_ ?_ ?_ ?_
 show 26
 exact (YH ["_law_left_here", "_law_right_here"] [] [] (by rfl))
 show 178
 show 182
 exact (YcX (Z3 (Yy (by decide)) (Z3 (Yy (by decide)) Ybn)))
 show 130
 show (["_law_left_here", "_law_right_here"] : List Str).Nodup; decide +kernel
 show 136
 show (["_law_left_here", "_law_right_here"] : List Str).Nodup; decide +kernel
 show 137
 show 12
 show 129
 show 46
 show 257
 exact (W1 rfl)
 show 33
 show 156
 show 182
 exact Yd
theorem Ve : YkU ["_law_system_here", "_law_names_here", "_law_left_here", "_law_right_here", "_law_letter"] ["_law_system_here"] (YkL (top 27)) := by show 161
theorem Yaz : HB "_law_names" (top 27) ["_law_system_here"]
 | _, _, _, _, _, _, [_], _ => rfl
theorem YaC (T : Top K mg) (O : Own K mg) (D : YkO K "_law_names" (top 27))  : Fn P' w K mg base "_law_names" 1 ["_law_system_here"] YA := by
 have z_sorted := O.z_sorted
 refine @Zd P' w K mg base "_law_names" (top 27) ["_law_system_here", "_law_names_here", "_law_left_here", "_law_right_here", "_law_letter"] ["_law_system_here"] 0 Wr T D Ve Yaz ?_
 show 0
 have sc := Ve
 show 115
 show 50
 show 159
 show 131
 show 177
 show 141
 show 178
 show 126
 show 163
 show 9
 show 63
 show 282
 refine Yac ?_ ?_
 refine YjZ (T := "str") (id := "str.isupper") ?_ ?_ ?_ ?_ ?_ ?_
 exact Yae
 show 230
 exact PySem.F.slot_str_isupper
 exact PySem.F.type_str_isupper
 exact YcM
 show 166
 show 221
 refine Vq ?_
 show 183
 exact (ZE hu)
 show 166
 show 160
 with_unfolding_all rfl
 show 79
 exact Ybo
 show 73
 exact W4
 show 35
 show 166
 exact Yd
 show 46
 refine WK ?_ ?_
 exact YW
 refine Yf0 ?_ ?_ ?_ ?_ ?_
 show 22
 exact z_sorted
 exact Ja
 show 160
theorem Vf : YkU ["_law_machine_here", "_law_cell", "_law_names_here", "_law_found", "_law_k", "_law_rooms"] ["_law_machine_here", "_law_cell", "_law_names_here"] (YkL (top 28)) := by show 161
theorem YaA : HB "_law_goods" (top 28) ["_law_machine_here", "_law_cell", "_law_names_here"]
 | _, _, _, _, _, _, [_, _, _], _ => rfl
theorem Yau (T : Top K mg) (O : Own K mg) (D : YkO K "_law_goods" (top 28)) (F__law_mixed : Fn P' w K mg base "_law_mixed" 1 ["_law_cell", "_law_k"] Yn) : Fn P' w K mg base "_law_goods" 2 ["_law_machine_here", "_law_cell", "_law_names_here"] Y6 := by
 show 65
 show 240
 refine @Zd P' w K mg base "_law_goods" (top 28) ["_law_machine_here", "_law_cell", "_law_names_here", "_law_found", "_law_k", "_law_rooms"] ["_law_machine_here", "_law_cell", "_law_names_here"] 1 Ws T D Vf YaA ?_
 show 0
 have sc := Vf
 show 115
 show 29
 show 82
 show 171
 show 86
 show 9
 show 172
 refine Y9 (TN := ["_law_room"]) (FN := ["_law_cell", "_law_k"]) (fr := [1, 4]) ?_ ?_ ?_ ?_ ?_ ?_ ?_ ?_
 show 26
 exact (YH ["_law_room"] ["_law_cell", "_law_k"] [1, 4] (by rfl))
 show 82
 show 10
 show 86
 show 6
 show (["_law_room", "_law_cell", "_law_k"] : List Str).Nodup; decide +kernel
 show 48
 exact Ydy
 show 77
 exact F__law_mixed
 show 25
 show 1
 show 32
 show 81
 show 171
 show 14
 show 16
 show 159
 show 79
 exact Ybo
 show 73
 exact W4
 show 163
 show 156
 show 257
 exact (W1 rfl)
 show 33
 show 133
 show 4
 show 257
 exact (W1 rfl)
 show 33
 show 117
theorem Jh : YkU ["_law_machine_here", "_law_goods_here", "_law_words", "_law_good", "_law_word_here", "_law_sign"] ["_law_machine_here", "_law_goods_here", "_law_words"] (YkL (top 29)) := by show 161
theorem Yck : HB "_law_due" (top 29) ["_law_machine_here", "_law_goods_here", "_law_words"]
 | _, _, _, _, _, _, [_, _, _], _ => rfl
theorem YbZ (T : Top K mg) (O : Own K mg) (D : YkO K "_law_due" (top 29)) (F__law_leads : Fn P' w K mg base "_law_leads" 1 ["_law_machine_here", "_law_room", "_law_word_here"] YS) : Fn P' w K mg base "_law_due" 2 ["_law_machine_here", "_law_goods_here", "_law_words"] YR := by
 have z_zip := O.z_zip
 refine @Zd P' w K mg base "_law_due" (top 29) ["_law_machine_here", "_law_goods_here", "_law_words", "_law_good", "_law_word_here", "_law_sign"] ["_law_machine_here", "_law_goods_here", "_law_words"] 1 Vi T D Jh Yck ?_
 show 0
 have sc := Jh
 show 29
 refine YdJ ?_ ?_ ?_ ?_
 show 158
 exact z_zip
 exact YfK
 show 105
 show 171
 exact Yd
 show 131
 show 50
 show 166
 show 9
 show 177
 show 92
 exact (ZE hu)
 show 179
 show 10
 with_unfolding_all rfl
 show 24
 exact YK
 show 177
 show 92
 exact (ZE hu)
 refine Yx (ps := ["_law_machine_here", "_law_room", "_law_word_here"]) (k := 1) ?_ ?_ ?_ ?_
 exact F__law_leads
 show 99
 show 103
 exact Yd
 show 163
 with_unfolding_all rfl
 show 24
 exact YK
 show 24
theorem Wu : YkU ["_law_system_here", "_law_machine_here", "_law_goods_here", "_law_words"] ["_law_system_here", "_law_machine_here", "_law_goods_here", "_law_words"] (YkL (top 30)) := by show 161
theorem Jr : HB "_law_refused" (top 30) ["_law_system_here", "_law_machine_here", "_law_goods_here", "_law_words"]
 | _, _, _, _, _, _, [_, _, _, _], _ => rfl
theorem Jx (T : Top K mg) (O : Own K mg) (D : YkO K "_law_refused" (top 30)) (F_fits : Fn1 P' w K mg base "fits" 4 ["system", "machine", "goods", "words"] Zl) : Fn P' w K mg base "_law_refused" 5 ["_law_system_here", "_law_machine_here", "_law_goods_here", "_law_words"] YD := by
 have x_NoFit := O.x_NoFit
 refine @Zd P' w K mg base "_law_refused" (top 30) ["_law_system_here", "_law_machine_here", "_law_goods_here", "_law_words"] ["_law_system_here", "_law_machine_here", "_law_goods_here", "_law_words"] 4 ZF T D Wu Jr ?_
 show 0
 have sc := Wu
 show 172
 refine YjC ?_ ?_ ?_ ?_ ?_ ?_
 exact x_NoFit
 show 22
 show 158
 intro pins E
 show 147
 refine V2 (ps := ["system", "machine", "goods", "words"]) (k := 4) ?_ ?_ ?_ ?_
 exact F_fits
 show 31
 show 105
 show 171
 show 117
 intro pins E
 show 24
 show 24
theorem YgF : YkU ["_law_script", "_law_cells", "_law_first", "_law_many", "_law_unknowns_here", "_law_machine_here", "_law_words", "_law_k", "_law_system_here", "_law_rest", "_law_names_here", "_law_goods_here", "_law_row", "_law_strange", "_law_cell", "_law_word_here", "_law_letter", "_law_at", "_law_some", "_law_found", "_law_more"] ["_law_script"] (YkL (top 31)) := by show 161
theorem YkE : HB "law" (top 31) ["_law_script"]
 | _, _, _, _, _, _, [_], _ => rfl
theorem YiN (T : Top K mg) (O : Own K mg) (F__law_cell_at : Fn P' w K mg base "_law_cell_at" 1 ["_law_script", "_law_k"] Yo) (F__law_due : Fn P' w K mg base "_law_due" 2 ["_law_machine_here", "_law_goods_here", "_law_words"] YR) (F__law_goods : Fn P' w K mg base "_law_goods" 2 ["_law_machine_here", "_law_cell", "_law_names_here"] Y6) (F__law_machine : Fn P' w K mg base "_law_machine" 2 ["_law_cell", "_law_most"] YM) (F__law_names : Fn P' w K mg base "_law_names" 1 ["_law_system_here"] YA) (F__law_refused : Fn P' w K mg base "_law_refused" 5 ["_law_system_here", "_law_machine_here", "_law_goods_here", "_law_words"] YD) (F__law_system : Fn P' w K mg base "_law_system" 3 ["_law_cells", "_law_unknowns_here", "_law_words", "_law_signs"] YZ) (F__law_unknowns : Fn P' w K mg base "_law_unknowns" 1 ["_law_cell", "_law_many"] YF) (F__law_word : Fn P' w K mg base "_law_word" 2 ["_law_cell", "_law_signs", "_law_most"] YQ) (F_fits : Fn1 P' w K mg base "fits" 4 ["system", "machine", "goods", "words"] Zl) (f : Addr) (fd : FuncData) (F : Fun K "law" "law" (top 31) f fd) : FM P' w K mg base 6 f fd ["_law_script"] YbY := by
 have z_bool := O.z_bool
 have z_int := O.z_int
 have z_isinstance := O.z_isinstance
 show 65
 show 240
 refine @Mi.Fun.mirror P' w K mg base "law" "law" (top 31) f fd ["_law_script", "_law_cells", "_law_first", "_law_many", "_law_unknowns_here", "_law_machine_here", "_law_words", "_law_k", "_law_system_here", "_law_rest", "_law_names_here", "_law_goods_here", "_law_row", "_law_strange", "_law_cell", "_law_word_here", "_law_letter", "_law_at", "_law_some", "_law_found", "_law_more"] ["_law_script"] 5 Yfg F YgF ?_
 intro cdv A outer s H E hr
 show 139
 have sc := YgF
 show 172
 refine Y9 (TN := ["_law_k"]) (FN := ["_law_script"]) (fr := [0]) ?_ ?_ ?_ ?_ ?_ ?_ ?_ ?_
 show 26
 exact (YH ["_law_k"] ["_law_script"] [0] (by rfl))
 refine YeR ?_ ?_ ?_ ?_
 show 142
 show 36
 show 36
 exact Yd
 exact (Y0 (Y0 Zg))
 show 6
 show (["_law_k", "_law_script"] : List Str).Nodup; decide +kernel
 show 27
 show 96
 show 25
 show 14
 show 3
 show 114
 show 11
 show 7
 show 54
 show 64
 show 5
 show 23
 show 64
 show 13
 show 23
 exact Yb
 exact Yd
 refine YcD (T := "int") ?_ ?_ ?_ ?_ ?_
 exact Yjz
 show 158
 exact z_int
 exact Yil
 show 156
 refine YbK ?_ ?_ ?_ ?_
 show 222
 show 13
 show 23
 show 16
 show 37
 show 3
 refine Yx (ps := ["_law_cell", "_law_many"]) (k := 1) ?_ ?_ ?_ ?_
 exact F__law_unknowns
 show 2
 show 51
 show 23
 show 57
 show 11
 refine Yx (ps := ["_law_cell", "_law_most"]) (k := 2) ?_ ?_ ?_ ?_
 exact F__law_machine
 show 2
 show 114
 exact Yd
 show 125
 exact YgG
 show 29
 show 82
 show 166
 show 86
 show 9
 show 177
 refine Yfd ?_ ?_ ?_ ?_
 exact hu
 show 182
 show 7
 show 166
 exact (jv 7)
 show 185
 refine Yx (ps := ["_law_cell", "_law_signs", "_law_most"]) (k := 2) ?_ ?_ ?_ ?_
 exact F__law_word
 show 2
 show 96
 show 31
 show 64
 exact (jv 7)
 show 70
 show 124
 show 125
 refine Yx (ps := ["_law_cells", "_law_unknowns_here", "_law_words", "_law_signs"]) (k := 3) ?_ ?_ ?_ ?_
 exact F__law_system
 show 25
 show 166
 show 156
 show 182
 show 156
 show 124
 show 11
 refine WK ?_ ?_
 exact YW
 refine ZB (TN := ["_law_name"]) (FN := ["_law_system_here"]) (fr := [8]) ?_ ?_ ?_ ?_ ?_
 show 158
 exact (YH ["_law_name"] ["_law_system_here"] [8] (by rfl))
 show 178
 show 166
 show 6
 show (["_law_name", "_law_system_here"] : List Str).Nodup; decide +kernel
 show 48
 exact (ZE hu)
 show 159
 refine Yx (ps := ["_law_system_here"]) (k := 1) ?_ ?_ ?_ ?_
 exact F__law_names
 show 2
 show 109
 with_unfolding_all rfl
 show 159
 show 38
 exact Ydy
 show 163
 show 53
 show 18
 show 232
 show 12
 show 12
 exact (jv 9)
 show 156
 refine YhX ?_
 exact (jv 9)
 show 28
 show 72
 refine Yx (ps := ["_law_system_here"]) (k := 1) ?_ ?_ ?_ ?_
 exact F__law_names
 show 118
 show 11
 refine Yx (ps := ["_law_machine_here", "_law_cell", "_law_names_here"]) (k := 2) ?_ ?_ ?_ ?_
 exact F__law_goods
 show 119
 show 114
 show 70
 exact (jv 10)
 show 11
 refine YaL ?_ ?_ ?_ ?_
 show 33
 refine ZB (TN := ["_law_name"]) (FN := ["_law_words"]) (fr := [6]) ?_ ?_ ?_ ?_ ?_
 show 158
 exact (YH ["_law_name"] ["_law_words"] [6] (by rfl))
 show 178
 exact (jv 10)
 show 6
 show (["_law_name", "_law_words"] : List Str).Nodup; decide +kernel
 show 27
 show 85
 show 74
 show 172
 refine Y9 (TN := ["_law_sign"]) (FN := ["_law_machine_here"]) (fr := [5]) ?_ ?_ ?_ ?_ ?_ ?_ ?_ ?_
 show 26
 exact (YH ["_law_sign"] ["_law_machine_here"] [5] (by rfl))
 show 178
 exact YW
 show 6
 show (["_law_sign", "_law_machine_here"] : List Str).Nodup; decide +kernel
 show 48
 exact (ZE hu)
 show 159
 show 85
 show 8
 with_unfolding_all rfl
 show 159
 show 50
 show 1
 show 54
 show 36
 exact Yd
 show 21
 show 43
 show 43
 show 9
 show 3
 refine Yx (ps := ["_law_cell", "_law_signs", "_law_most"]) (k := 2) ?_ ?_ ?_ ?_
 exact F__law_word
 show 2
 show 51
 exact (jv 14)
 exact Yb
 show 156
 show 124
 show 125
 show 49
 show 13
 exact (jv 14)
 show 40
 show 278
 show 37
 show 116
 exact (jv 14)
 exact Yb
 show 1
 show 17
 exact (jv 15)
 exact Yd
 exact Yb
 show 98
 show 5
 exact (jv 14)
 show 122
 show 1
 show 197
 exact (jv 15)
 show 69
 exact (jv 17)
 exact (jv 16)
 show 197
 exact (jv 15)
 show 202
 exact (jv 17)
 exact Zr
 show 72
 show 266
 show 38
 exact (Ycn hu8)
 exact (jv 10)
 exact YW
 show 188
 show 116
 exact (jv 14)
 show 40
 exact (jv 10)
 exact Yd
 show 18
 show 1
 show 197
 show 266
 show 69
 exact (jv 17)
 show 12
 exact (jv 15)
 exact Yd
 show 197
 show 266
 show 106
 exact (jv 17)
 show 108
 show 72
 refine V2 (ps := ["system", "machine", "goods", "words"]) (k := 4) ?_ ?_ ?_ ?_
 exact F_fits
 show 118
 show 104
 exact (jv 11)
 show 156
 exact (jv 18)
 exact Yd
 show 63
 refine YjO ?_ ?_
 refine Ydo ?_
 refine Yac ?_ ?_
 refine Yim ?_ ?_ ?_ ?_ ?_ ?_ ?_ ?_
 exact YgJ
 show 158
 exact z_isinstance
 exact YaF
 show 158
 exact z_bool
 exact Yhx
 exact (jv 19)
 show 221
 refine YjE ?_
 show 183
 exact (Ycn hu8)
 exact (jv 19)
 refine Yx (ps := ["_law_machine_here", "_law_goods_here", "_law_words"]) (k := 2) ?_ ?_ ?_ ?_
 exact F__law_due
 show 119
 exact (jv 11)
 show 156
 exact (jv 18)
 exact Yd
 show 188
 show 24
 show 72
 show 1
 show 232
 show 12
 show 12
 show 1
 show 49
 show 8
 show 49
 refine Yan ?_
 show 8
 show 156
 show 1
 show 49
 show 8
 show 49
 refine Yan ?_
 show 8
 show 28
 show 113
 show 23
 show 122
 show 197
 exact (jv 20)
 show 202
 refine Yan ?_
 show 108
 show 232
 exact YK
 show 172
 show 242
 refine Ydo ?_
 refine Yac ?_ ?_
 refine Yx (ps := ["_law_system_here", "_law_machine_here", "_law_goods_here", "_law_words"]) (k := 5) ?_ ?_ ?_ ?_
 exact F__law_refused
 show 2
 exact (jv 20)
 show 104
 exact (jv 11)
 show 132
 show 221
 show 24
 show 46
 refine YbK ?_ ?_ ?_ ?_
 show 222
 refine V2 (ps := ["system", "machine", "goods", "words"]) (k := 4) ?_ ?_ ?_ ?_
 exact F_fits
 show 118
 show 104
 exact (jv 11)
 show 132
 refine Yx (ps := ["_law_machine_here", "_law_goods_here", "_law_words"]) (k := 2) ?_ ?_ ?_ ?_
 exact F__law_due
 show 119
 exact (jv 11)
 show 132
 show 188
end
structure Seen (K : Frag) : Prop where
 d_is_sign : YkO K "is_sign" (top 4)
 d_letters_of : YkO K "letters_of" (top 5)
 d_rising : YkO K "rising" (top 6)
 d_signs_of : YkO K "signs_of" (top 7)
 d_leads : YkO K "leads" (top 9)
 d_has_signs : YkO K "has_signs" (top 11)
 d_refuse_other_signs : YkO K "refuse_other_signs" (top 12)
 d_word_fits : YkO K "word_fits" (top 13)
 d_fits : YkO K "fits" (top 14)
 d__law_cell_at : YkO K "_law_cell_at" (top 16)
 d__law_mixed : YkO K "_law_mixed" (top 17)
 d__law_machine : YkO K "_law_machine" (top 18)
 d__law_leads : YkO K "_law_leads" (top 19)
 d__law_word : YkO K "_law_word" (top 20)
 d__law_unknowns : YkO K "_law_unknowns" (top 21)
 d__law_filled : YkO K "_law_filled" (top 22)
 d__law_left : YkO K "_law_left" (top 23)
 d__law_right : YkO K "_law_right" (top 24)
 d__law_bent : YkO K "_law_bent" (top 25)
 d__law_system : YkO K "_law_system" (top 26)
 d__law_names : YkO K "_law_names" (top 27)
 d__law_goods : YkO K "_law_goods" (top 28)
 d__law_due : YkO K "_law_due" (top 29)
 d__law_refused : YkO K "_law_refused" (top 30)
 d_law : YkO K "law" (top 31)
 z_all : nsIn K mainGlobals "all" = some none
 z_bool : nsIn K mainGlobals "bool" = some none
 z_int : nsIn K mainGlobals "int" = some none
 z_isinstance : nsIn K mainGlobals "isinstance" = some none
 z_len : nsIn K mainGlobals "len" = some none
 z_range : nsIn K mainGlobals "range" = some none
 z_set : nsIn K mainGlobals "set" = some none
 z_sorted : nsIn K mainGlobals "sorted" = some none
 z_tuple : nsIn K mainGlobals "tuple" = some none
 z_zip : nsIn K mainGlobals "zip" = some none
 x_NoFit : ExcAt K "NoFit"
theorem Ygi {K : Frag} {mg : SOV} (T : Top K mg) (S : Seen K) : Own K mg where
 z_all := T.none S.z_all
 z_bool := T.none S.z_bool
 z_int := T.none S.z_int
 z_isinstance := T.none S.z_isinstance
 z_len := T.none S.z_len
 z_range := T.none S.z_range
 z_set := T.none S.z_set
 z_sorted := T.none S.z_sorted
 z_tuple := T.none S.z_tuple
 z_zip := T.none S.z_zip
 x_NoFit := S.x_NoFit
theorem Yii {P' : Program} {w : World} {K : Frag} {mg : SOV} (T : Top K mg) (S : Seen K) (f : Addr) (fd : FuncData) (F : Fun K "law" "law" (top 31) f fd) (base : Heap) : FM P' w K mg base 6 f fd ["_law_script"] YbY := by
 have O := Ygi T S
 have F_is_sign : Fn P' w K mg base "is_sign" 1 ["letter"] ZD := YcL T O S.d_is_sign
 have F_letters_of : Fn P' w K mg base "letters_of" 1 ["system"] Y5 := YaB T O S.d_letters_of
 have F_rising : Fn P' w K mg base "rising" 1 ["letters"] WC := YeB T O S.d_rising
 have F_leads : Fn1 P' w K mg base "leads" 1 ["machine", "room", "word"] W3 := Yge T O S.d_leads
 have F_has_signs : Fn P' w K mg base "has_signs" 1 ["machine", "word"] YN := Ybz T O S.d_has_signs
 have F__law_cell_at : Fn P' w K mg base "_law_cell_at" 1 ["_law_script", "_law_k"] Yo := Jz T O S.d__law_cell_at
 have F__law_mixed : Fn P' w K mg base "_law_mixed" 1 ["_law_cell", "_law_k"] Yn := YaE T O S.d__law_mixed
 have F__law_leads : Fn P' w K mg base "_law_leads" 1 ["_law_machine_here", "_law_room", "_law_word_here"] YS := Yay T O S.d__law_leads
 have F__law_unknowns : Fn P' w K mg base "_law_unknowns" 1 ["_law_cell", "_law_many"] YF := VU T O S.d__law_unknowns
 have F__law_filled : Fn P' w K mg base "_law_filled" 1 ["_law_side", "_law_words"] Yw := Yam T O S.d__law_filled
 have F__law_left : Fn P' w K mg base "_law_left" 1 ["_law_cells", "_law_used", "_law_unknowns_here", "_law_signs"] YO := YbR T O S.d__law_left
 have F__law_bent : Fn P' w K mg base "_law_bent" 1 ["_law_side", "_law_cell", "_law_signs"] Y3 := Ybs T O S.d__law_bent
 have F__law_names : Fn P' w K mg base "_law_names" 1 ["_law_system_here"] YA := YaC T O S.d__law_names
 have F_signs_of : Fn P' w K mg base "signs_of" 2 ["system"] Zo := Yce T O S.d_signs_of F_is_sign F_letters_of F_rising
 have F_word_fits : Fn1 P' w K mg base "word_fits" 2 ["machine", "good", "word"] Y2 := Ybq T O S.d_word_fits F_has_signs F_leads
 have F__law_machine : Fn P' w K mg base "_law_machine" 2 ["_law_cell", "_law_most"] YM := JC T O S.d__law_machine F__law_mixed
 have F__law_word : Fn P' w K mg base "_law_word" 2 ["_law_cell", "_law_signs", "_law_most"] YQ := YbP T O S.d__law_word F__law_mixed
 have F__law_right : Fn P' w K mg base "_law_right" 2 ["_law_value", "_law_cell", "_law_used", "_law_words"] YB := YaH T O S.d__law_right F__law_mixed
 have F__law_goods : Fn P' w K mg base "_law_goods" 2 ["_law_machine_here", "_law_cell", "_law_names_here"] Y6 := Yau T O S.d__law_goods F__law_mixed
 have F__law_due : Fn P' w K mg base "_law_due" 2 ["_law_machine_here", "_law_goods_here", "_law_words"] YR := YbZ T O S.d__law_due F__law_leads
 have F_refuse_other_signs : Fn1 P' w K mg base "refuse_other_signs" 3 ["system", "machine"] Yp := Wx T O S.d_refuse_other_signs F_has_signs F_signs_of
 have F__law_system : Fn P' w K mg base "_law_system" 3 ["_law_cells", "_law_unknowns_here", "_law_words", "_law_signs"] YZ := Yas T O S.d__law_system F__law_bent F__law_filled F__law_left F__law_right
 have F_fits : Fn1 P' w K mg base "fits" 4 ["system", "machine", "goods", "words"] Zl := Yhs T O S.d_fits F_refuse_other_signs F_word_fits
 have F__law_refused : Fn P' w K mg base "_law_refused" 5 ["_law_system_here", "_law_machine_here", "_law_goods_here", "_law_words"] YD := Jx T O S.d__law_refused F_fits
 exact YiN T O F__law_cell_at F__law_due F__law_goods F__law_machine F__law_names F__law_refused F__law_system F__law_unknowns F__law_word F_fits f fd F
theorem walk {q : Program} {loose : List Str} {XP : (Str -> Option Value) -> Heap -> Prop} {YP : World -> Heap -> Prop} {d : DefRec} {K : Params -> Frag} (hdf : d.params.defaults = []) (hy : d.name = "law") (hY : ∀ (w : World) (h : Heap), YP w h -> (K w.params).In h) (S : ∀ w : World, Seen (K w.params)) (L : Law 63 YbY) :
 PySem.W.WalkO q loose XP YP PySem.Challenge.rw_gapwords_k70_fillings_that_fit.row.toRowW d [] (fun f vs => PySem.call f vs) :=
 Yf4 (l := PySem.Challenge.rw_gapwords_k70_fillings_that_fit) (k := 6) (x := "_law_script") (y := "law") (st := top 31) rfl (by decide) hdf hy ⟨rfl, by decide, by decide⟩ hY (fun _ _ _ _ _ _ s u => .of_eq rfl) (fun w => (S w).d_law) (fun w mg T f fd F base => Yii T (S w) f fd F base) L
end G
namespace Mi
open PySem PySem.Spec L2
open PyProof.Rows hiding St
def joinR (x : Str) (ps : List P) (st : YkJ) : R P := match Ylv ps with
 | some ys => if Yly x ys <= cap then .ok (.str (Txt.join x ys)) st else .bad
 | none => .bad
def YnM (r : RS) : R P := match r with
 | .nx _ st' => .ok .non st'
 | .rt p st' => .ok p st'
 | _ => .bad
def YnF (r : R P) : R P := match r with
 | .ok p st2 => .ok p st2
 | _ => .bad
section
variable {ρ : Rho} {st : YkJ}
@[simp] theorem YhN : YnM (.nx ρ st) = .ok .non st := rfl
@[simp] theorem YhD {p : P} : YnM (.rt p st) = .ok p st := rfl
@[simp] theorem Yca {p : P} : YnF (.ok p st) = .ok p st := rfl
@[simp] theorem x_eC {p : P} : eC p ρ st = .ok p st := rfl
@[simp] theorem Yc8 {i : Nat} : YkH i ρ st = match ρ[i]? with | some (some p) => .ok p st | _ => .bad := rfl
@[simp] theorem Ybj {g : G2} {a b : ME} : YkK g a b ρ st = (a ρ st).bind fun p st1 => (b ρ st1).bind fun q st2 => ofO (g p q st2) := rfl
@[simp] theorem YbH {m : ME} : Ylb m ρ st = (m ρ st).bind fun p st1 => match p with | .bl c => .ok c st1 | _ => .bad := rfl
@[simp] theorem Ygy {g g' : G2} {a b c : ME} : YmS g g' a b c ρ st = (a ρ st).bind fun p st1 => (b ρ st1).bind fun q st2 => (ofO (g p q st2)).bind fun z st3 => match z with
 | .bl k => if k = true then (c ρ st3).bind fun r st4 => ofO (g' q r st4) else .ok (.bl false) st3
 | _ => .bad := rfl
@[simp] theorem Yhy {a b : MT} : Yma a b ρ st = (a ρ st).bind fun c st1 => if c = true then b ρ st1 else .ok false st1 := rfl
@[simp] theorem Yik {a b : MT} : Yoe a b ρ st = (a ρ st).bind fun c st1 => if c = true then .ok true st1 else b ρ st1 := rfl
@[simp] theorem Yhh {a : MT} : Ym6 a ρ st = (a ρ st).bind fun c st1 => .ok (!c) st1 := rfl
@[simp] theorem YiY {a b : ME} : Yoc a b ρ st = (a ρ st).bind fun p st1 => match p with | .bl c => if c = true then b ρ st1 else .ok (.bl false) st1 | _ => .bad := rfl
@[simp] theorem YkG {a b : ME} : eOr a b ρ st = (a ρ st).bind fun p st1 => match p with | .bl c => if c = true then .ok (.bl true) st1 else b ρ st1 | _ => .bad := rfl
@[simp] theorem YkD {a : ME} : YoU a ρ st = (a ρ st).bind fun p st1 => match p with | .bl c => .ok (.bl (!c)) st1 | _ => .bad := rfl
@[simp] theorem YkF {c : MT} {a b : ME} : eIf c a b ρ st = (c ρ st).bind fun k st1 => if k = true then a ρ st1 else b ρ st1 := rfl
@[simp] theorem Yjl {m : ME} : Ym9 m ρ st = (m ρ st).bind fun p st1 => match YmU p st1 with | some c => .ok c st1 | none => .bad := rfl
@[simp] theorem Yeb {b : Bool} : YmU (.bl b) st = some b := rfl
@[simp] theorem Yjb {i : Int} : YmU (.int i) st = some (i != 0) := rfl
@[simp] theorem Yid : YmU .non st = some false := rfl
@[simp] theorem YcQ : YkN ρ st = .ok [] st := rfl
@[simp] theorem Ybl {a : ME} {r : MA} : YkI a r ρ st = (a ρ st).bind fun p st1 => (r ρ st1).bind fun ps st2 => .ok (p :: ps) st2 := rfl
@[simp] theorem Yc2 {r : MA} : Yl1 r ρ st = (r ρ st).bind fun ps st1 => if ps.length <= cap then .ok (.tup ps) st1 else .bad := rfl
@[simp] theorem Yh4 {r : MA} : lMk r ρ st = (r ρ st).bind fun ps st1 => if ps.length <= cap then .ok ps st1 else .bad := rfl
@[simp] theorem Ygr {r : MA} : Yl7 r ρ st = (r ρ st).bind fun ps st1 => .ok (.ref st1.length) (st1 ++ [.lst ps]) := rfl
@[simp] theorem YgW {r : MA} : Ynj r ρ st = (r ρ st).bind fun ps st1 => .ok (.tup ps) st1 := rfl
@[simp] theorem Yft : Ynf ρ st = .ok (.ref st.length) (st ++ [.dct []]) := rfl
@[simp] theorem x_eB {g : GC} {r : MA} : eB g r ρ st = (r ρ st).bind fun ps st1 => ofO (g ps st1) := rfl
@[simp] theorem YiG {a : ME} : YmT a ρ st = (a ρ st).bind fun p st1 => match p with | .int i => .ok (.int (-i)) st1 | _ => .bad := rfl
@[simp] theorem YdG {n : Nat} {mf : MF} {r : MA} : YkX n mf r ρ st = (r ρ st).bind fun ps st1 => if ps.length = n then YnF (mf ps st1) else .bad := by unfold YkX YnF; rfl
@[simp] theorem YiL {T : String} {a : ME} : Yom T a ρ st = (a ρ st).bind fun p st1 => match tyP p st1 with | some t => .ok (.bl (Ynv t T)) st1 | none => .bad := rfl
@[simp] theorem x_eM {ty : P -> YkJ -> Bool} {g : GM} {a : ME} {r : MA} : eM ty g a r ρ st = (a ρ st).bind fun p st1 => if ty p st1 = true then (r ρ st1).bind fun ps st2 => ofO (g p ps st2) else .bad := rfl
@[simp] theorem Ykv {a : ME} {l h : MO} : eSl a l h ρ st = (a ρ st).bind fun p st1 => (l ρ st1).bind fun l st2 => (h ρ st2).bind fun u st3 => ofO (slP p l u st3) := rfl
@[simp] theorem YhO : YlE ρ st = .ok none st := rfl
@[simp] theorem Yho {a : ME} : Yli a ρ st = (a ρ st).bind fun p st1 => match p with | .int i => .ok (some i) st1 | _ => .bad := rfl
@[simp] theorem Ykw {a : ME} : Yov a ρ st = (a ρ st).bind fun p st1 => match p with | .tup xs => .ok (.tup xs.reverse) st1 | _ => .bad := rfl
@[simp] theorem YfD : YlG ρ st = .nx ρ st := rfl
@[simp] theorem Ze {a b : MS} : YkT a b ρ st = (a ρ st).seq b := rfl
@[simp] theorem Yiz {a : ME} : Ylp a ρ st = RS.ofE ρ (a ρ st) fun p st1 => .rt p st1 := rfl
@[simp] theorem Ykx : YoL ρ st = .rt .non st := rfl
@[simp] theorem Yg7 {a : ME} : Ymf a ρ st = RS.ofE ρ (a ρ st) fun _ st1 => .nx ρ st1 := rfl
@[simp] theorem Ybk {i : Nat} {a : ME} : Yk2 i a ρ st = RS.ofE ρ (a ρ st) fun p st1 => .nx (ρ.set i (some p)) st1 := rfl
@[simp] theorem Yg1 {i : Nat} {a : MA} : YlU i a ρ st = RS.ofE ρ (a ρ st) fun ps st1 => .nx (ρ.set i (some (.ref st1.length))) (st1 ++ [.lst ps]) := rfl
@[simp] theorem Ydz {c : MT} {a b : MS} : sIf c a b ρ st = RS.ofE ρ (c ρ st) fun k st1 => if k = true then a ρ st1 else b ρ st1 := rfl
@[simp] theorem Yj0 : Yon ρ st = .bk ρ st := rfl
@[simp] theorem YkA : YoH ρ st = .ct ρ st := rfl
@[simp] theorem YjD {i : MI} {g : MG} {m : MS} : Yl2 i g m ρ st = RS.ofE ρ (i ρ st) fun src st1 => YlF src g m src.n 0 ρ st1 := rfl
@[simp] theorem Yjv {a : ME} {g : MG} : YnO a g ρ st = RS.ofE ρ (a ρ st) fun p st1 => match g p ρ st1 with | some ρ' => .nx ρ' st1 | none => .bad := rfl
@[simp] theorem Yig {o i e : ME} : YnJ o i e ρ st = RS.ofE ρ (e ρ st) fun v st1 => RS.ofE ρ (o ρ st1) fun o st2 => RS.ofE ρ (i ρ st2) fun i st3 => match Ym1 o i v st3 with | some st4 => .nx ρ st4 | none => .bad := rfl
@[simp] theorem Yf9 {i : Nat} {p : P} : YkM i p ρ st = some (ρ.set i (some p)) := rfl
@[simp] theorem Yg4 : YlR [] ρ st = some ρ := rfl
@[simp] theorem YfV {g : MG} {r : MGs} {p : P} {ps : List P} : Yk8 g r (p :: ps) ρ st = (g p ρ st).bind fun ρ1 => r ps ρ1 st := rfl
@[simp] theorem YhC {n : Nat} {r : MGs} {p : P} : YlK n r p ρ st = match Ylf p st with | some xs => if xs.length = n then r xs ρ st else none | none => none := rfl
@[simp] theorem Ycj {xs : List P} : Ylf (.tup xs) st = some xs := rfl
@[simp] theorem Yi1 {a : ME} : YlP a ρ st = (a ρ st).bind fun p st1 => match srcOf p st1 with | some s => .ok s st1 | none => .bad := rfl
@[simp] theorem Ycz {xs : List P} : srcOf (.tup xs) st = some (Yng xs) := rfl
@[simp] theorem Yh5 {z : Str} : srcOf (.str z) st = some (Ymp z) := rfl
def Ymn (ps : List P) (st : YkJ) : R Src := match ps with
 | [.int j] => if small62 j = true then .ok (YlO 0 j.toNat) st else .bad
 | [.int i, .int j] => if small62 i = true /\ small62 j = true then .ok (YlO i (j - i).toNat) st else .bad
 | _ => .bad
theorem YeV {r : MA} : Ylr r ρ st = (r ρ st).bind fun ps st1 => Ymn ps st1 := rfl
@[simp] theorem Yfu {r : MA} : Ylr r ρ st = (r ρ st).bind fun ps st1 => Ymn ps st1 := by rw [YeV]
theorem J0 {i : Int} (h0 : -1000000000 <= i) (h1 : i <= 1000000000) : small62 i = true := by
 unfold small62
 rw [ZAS (by omega), ZAS (by omega)]
 rfl
theorem Yfz {j : Int} (h0 : -1000000000 <= j) (h1 : j <= 1000000000) : Ymn [.int j] st = .ok (YlO 0 j.toNat) st := by
 unfold Ymn
 show 154
 rw [ZAI (J0 h0 h1)]
theorem Yfc {i j : Int} (h0 : -1000000000 <= i) (h1 : i <= 1000000000) (h2 : -1000000000 <= j) (h3 : j <= 1000000000) : Ymn [.int i, .int j] st = .ok (YlO i (j - i).toNat) st := by
 unfold Ymn
 show 154
 rw [ZAI ⟨J0 h0 h1, J0 h2 h3⟩]
@[simp] theorem Yhz {i : MI} {n : Nat} {fr : List Nat} {g : MG} {nt : MT} {me : ME} : Ylj i n fr g nt me ρ st = (i ρ st).bind fun src st1 => Yld src g nt me (rho0 n fr ρ) src.n 0 st1 [] := rfl
@[simp] theorem Ykz : Ylz ρ st = .ok true st := rfl
@[simp] theorem Ygj {o : ME} {r : MA} : Yl8 o r ρ st = (o ρ st).bind fun p st1 => match p with
 | .str x => (r ρ st1).bind fun ps st2 => joinR x ps st2
 | _ => .bad := rfl
@[simp] theorem YgB {n : Nat} {m : MS} {ps : List P} : fnM n m ps st = YnM (m (ps.map some ++ List.replicate (n - ps.length) none) st) := by unfold fnM YnM; rfl
@[simp] theorem Yju {n : Nat} {fr : List Nat} : rho0 n fr ρ = List.replicate n none ++ fr.map fun k => (ρ[k]?).join := rfl
@[simp] theorem Yer {i j : Int} : YkY (.int i) (.int j) st = some (.int (i + j), st) := rfl
@[simp] theorem YjL {i j : Int} : Yo6 (.int i) (.int j) st = some (.int (i - j), st) := rfl
@[simp] theorem YgR {i j : Int} : ltP (.int i) (.int j) st = some (.bl (decide (i < j)), st) := rfl
@[simp] theorem YjS {i j : Int} : leP (.int i) (.int j) st = some (.bl (decide (i <= j)), st) := rfl
@[simp] theorem J9 {i j : Int} : gtP (.int i) (.int j) st = some (.bl (decide (j < i)), st) := rfl
@[simp] theorem YjW {i j : Int} : geP (.int i) (.int j) st = some (.bl (decide (j <= i)), st) := rfl
@[simp] theorem Yj4 {x y : Str} : ltP (.str x) (.str y) st = some (.bl (Ymq x y), st) := rfl
@[simp] theorem Yfl {x y : Str} : leP (.str x) (.str y) st = some (.bl (!Ymq y x), st) := rfl
theorem Yks {i j : Int} (h : 0 < j) : Yla (.int i) (.int j) st = some (.int (i % j), st) := by simp [Yla, h, okP]
theorem Yjt {i j : Int} (h : 0 < j) (h2 : j < 1073741824) : Ylg (.int i) (.int j) st = some (.int (i / j), st) := by simp [Ylg, h, h2, okP]
theorem YjQ {i j : Int} (h : -(2 ^ 64) < j) (h2 : j < 2 ^ 64) : Yn9 (.int i) (.int j) st = some (.int (i * j), st) := by
 have : small64 j = true := by unfold small64; rw [decide_eq_true h, decide_eq_true h2]; rfl
 simp [Yn9, this, okP]
theorem Yed {x y : Str} (h : x.length + y.length <= 1000000) : YkY (.str x) (.str y) st = some (.str (x ++ y), st) := by
 have : x.length + y.length <= cap := h
 simp [YkY, this, okP]
theorem Yes {x : Str} (h : x.length <= 1000000) : Yln [.str x] st = some (.int x.length, st) := by
 have : x.length <= cap := h
 simp [Yln, this, okP]
@[simp] theorem YaN {xs : List P} : Yln [.tup xs] st = some (.int xs.length, st) := rfl
theorem ZC {k : Nat} {xs : List P} (h : st[k]? = some (.lst xs)) : Yln [.ref k] st = some (.int xs.length, st) := by simp [Yln, h, okP]
theorem Ygg {k : Nat} {xs : List P} (h : st[k]? = some (.ro xs)) : Yln [.ref k] st = some (.int xs.length, st) := by simp [Yln, h, okP]
end
theorem Ybi {src : Src} {g : MG} {m : MS} (N : Nat) (I : Nat -> Rho -> YkJ -> Prop) (O : RS -> Prop)
 (step : ∀ i ρ st, i < N -> I i ρ st -> ∃ p ρ1, src.nx i st = some (some p) /\ g p ρ st = some ρ1 /\ match m ρ1 st with
  | .nx ρ' st' => I (i + 1) ρ' st'
  | .ct ρ' st' => I (i + 1) ρ' st'
  | .bk ρ' st' => O (.nx ρ' st')
  | r => O r)
 (stop : ∀ ρ st, I N ρ st -> src.nx N st = some none /\ O (.nx ρ st)) :
 ∀ (n i : Nat) ρ st, n + i = N -> I i ρ st -> O (YlF src g m n i ρ st) := by
 intro n
 induction n with
 | zero =>
  intro i ρ st e h
  have e' : i = N := by omega
  subst e'
  obtain ⟨h1, h2⟩ := stop ρ st h
  simp only [YlF, h1]
  exact h2
 | succ n ih =>
  intro i ρ st e h
  obtain ⟨p, ρ1, h1, h2, h3⟩ := step i ρ st (by omega) h
  simp only [YlF, h1, h2]
  revert h3
  cases q : m ρ1 st with
  | nx ρ' st' => intro h3; exact ih (i + 1) ρ' st' (by omega) h3
  | ct ρ' st' => intro h3; exact ih (i + 1) ρ' st' (by omega) h3
  | bk ρ' st' => intro h3; exact h3
  | rt p st' => intro h3; exact h3
  | exc k ρ' st' => intro h3; exact h3
  | bad => intro h3; exact h3
theorem Ye3 {src : Src} {g : MG} {m : MS} {N : Nat} (I : Nat -> Rho -> YkJ -> Prop) {ρ : Rho} {st : YkJ} (h0 : I 0 ρ st)
 (step : ∀ i ρ st, i < N -> I i ρ st -> ∃ p ρ1, src.nx i st = some (some p) /\ g p ρ st = some ρ1 /\ ∃ ρ' st', m ρ1 st = .nx ρ' st' /\ I (i + 1) ρ' st')
 (stop : ∀ ρ st, I N ρ st -> src.nx N st = some none) : ∃ ρ' st', YlF src g m N 0 ρ st = .nx ρ' st' /\ I N ρ' st' := by
 have := Ybi (src := src) (g := g) (m := m) N I (fun r => ∃ ρ' st', r = .nx ρ' st' /\ I N ρ' st') (fun i ρ st hi h => by
  obtain ⟨p, ρ1, h1, h2, ρ', st', h3, h4⟩ := step i ρ st hi h
  refine ⟨p, ρ1, h1, h2, ?_⟩
  rw [h3]
  exact h4) (fun ρ st h => ⟨stop ρ st h, ρ, st, rfl, h⟩) N 0 ρ st (by omega) h0
 exact this
theorem Z6 {src : Src} {g : MG} {nt : MT} {me : ME} {ρ0 : Rho} {N : Nat} (I : Nat -> YkJ -> List P -> Prop) {st : YkJ} (h0 : I 0 st [])
 (step : ∀ i st acc, i < N -> I i st acc -> ∃ p ρ1, src.nx i st = some (some p) /\ g p ρ0 st = some ρ1 /\
  ((∃ st1, nt ρ1 st = .ok false st1 /\ I (i + 1) st1 acc) \/ ∃ st1 q st2, nt ρ1 st = .ok true st1 /\ me ρ1 st1 = .ok q st2 /\ acc.length < cap /\ I (i + 1) st2 (acc ++ [q])))
 (stop : ∀ st acc, I N st acc -> src.nx N st = some none) : ∃ acc st', Yld src g nt me ρ0 N 0 st [] = .ok acc st' /\ I N st' acc := by
 have key : ∀ (n i : Nat) st acc, n + i = N -> I i st acc -> ∃ acc' st', Yld src g nt me ρ0 n i st acc = .ok acc' st' /\ I N st' acc' := by
  intro n
  induction n with
  | zero =>
   intro i st acc e h
   have e' : i = N := by omega
   subst e'
   exact ⟨acc, st, by simp only [Yld, stop st acc h], h⟩
  | succ n ih =>
   intro i st acc e h
   obtain ⟨p, ρ1, h1, h2, h3⟩ := step i st acc (by omega) h
   rcases h3 with ⟨st1, h3, h4⟩ | ⟨st1, q, st2, h3, h4, h5, h6⟩
   ·obtain ⟨acc', st', e1, e2⟩ := ih (i + 1) st1 acc (by omega) h4
    exact ⟨acc', st', by simp only [Yld, h1, h2, h3, e1], e2⟩
   ·obtain ⟨acc', st', e1, e2⟩ := ih (i + 1) st2 (acc ++ [q]) (by omega) h6
    exact ⟨acc', st', by simp only [Yld, h1, h2, h3, h4, if_pos h5, e1], e2⟩
 exact key N 0 st [] (by omega) h0
@[simp] theorem YdH {xs : List P} {i : Nat} {st : YkJ} : (Yng xs).nx i st = some xs[i]? := rfl
@[simp] theorem YjG {xs : List P} : (Yng xs).n = xs.length := rfl
@[simp] theorem YiZ {z : Str} : (Ymp z).n = z.cps.size := rfl
theorem YhU {z : Str} {i : Nat} {st : YkJ} (h : i <= z.cps.size) : (Ymp z).nx i st = some ((z.cps[i]?).map Ym4) := by
 unfold Ymp
 show 154
 by_cases hi : i < z.cps.size
 ·rw [ZAI hi]
 ·have : i = z.cps.size := by omega
  subst this
  simp
@[simp] theorem Yi3 {lo : Int} {n : Nat} : (YlO lo n).n = n := rfl
@[simp] theorem ZO {lo : Int} {n i : Nat} {st : YkJ} : (YlO lo n).nx i st = some (if i < n then some (.int (lo + i)) else none) := rfl
@[simp] theorem Yij {k n : Nat} : (Ymg k n).n = n := rfl
theorem YgX {k n i : Nat} {st : YkJ} {ys : List P} (h : listAt st k = some ys) : (Ymg k n).nx i st = some ys[i]? := by
 unfold Ymg
 unfold listAt at h
 show 154
 split at h <;> first | (cases h; rename_i e; simp only [e]) | cases h
def sT (l : List Nat) : Str := ⟨l.toArray⟩
def tx (l : List Nat) : P := .str (sT l)
@[simp] theorem Y1 {l : List Nat} : (sT l).length = l.length := by simp [sT, Str.length]
@[simp] theorem Vj {l : List Nat} : (sT l).cps.toList = l := rfl
@[simp] theorem YgT {l : List Nat} : (sT l).cps.size = l.length := by simp [sT]
@[simp] theorem YiP {l : List Nat} {i : Nat} : (sT l).cps[i]? = l[i]? := by simp [sT]
theorem YbC {a b : List Nat} : sT a ++ sT b = sT (a ++ b) := by
 show (⟨a.toArray ++ b.toArray⟩ : Str) = _
 simp [sT]
theorem sT_inj {a b : List Nat} : sT a = sT b ↔ a = b := by
 constructor
 ·intro h
  have := ZBj (fun s : Str => s.cps.toList) h
  exact this
 ·rintro rfl; rfl
@[simp] theorem Ye8 {a b : List Nat} {st : YkJ} (h : a.length + b.length <= 1000000) : YkY (tx a) (tx b) st = some (tx (a ++ b), st) := by
 unfold tx
 rw [Yed (by simpa using h), YbC]
theorem YgC {a : List Nat} {st : YkJ} (h : a.length <= 1000000) : Yln [tx a] st = some (.int a.length, st) := by
 unfold tx
 rw [Yes (by simpa using h)]
 simp
theorem Yjo {n : Nat} {i : Int} (h0 : 0 <= i) (h1 : i < n) : ixN n i = some i.toNat := by unfold ixN; rw [if_pos h0, if_pos h1]
theorem YbN {α : Type} {xs : List α} {i : Int} (h0 : 0 <= i) (h1 : i < xs.length) : atI xs i = xs[i.toNat]? := by unfold atI; rw [Yjo h0 h1]; rfl
theorem Wg {l : List Nat} {i : Int} {st : YkJ} (h0 : 0 <= i) (h1 : i < l.length) (hc : l.length <= 1000000) : ∃ c, l[i.toNat]? = some c /\ ixP (tx l) (.int i) st = some (tx [c], st) := by
 have hi : i.toNat < l.length := by omega
 refine ⟨l[i.toNat], by simp [hi], ?_⟩
 have e : (sT l).length <= cap := by rw [Y1]; exact hc
 show (if (sT l).length <= cap then (atI (sT l).cps.toList i).map fun c => (P.str ⟨#[c]⟩, st) else none) = _
 rw [ZAI e, Vj, YbN h0 h1, ZAR hi]
 rfl
theorem Vr {xs : List P} {i : Int} {st : YkJ} {p : P} (h0 : 0 <= i) (h : xs[i.toNat]? = some p) : ixP (.tup xs) (.int i) st = some (p, st) := by
 have hi : i.toNat < xs.length := (ZAG.mp h).1
 show (atI xs i).map (fun p => (p, st)) = _
 rw [YbN h0 (by omega), h]
 rfl
theorem ZZ {k : Nat} {xs : List P} {i : Int} {st : YkJ} {p : P} (hk : st[k]? = some (.lst xs)) (h0 : 0 <= i) (h : xs[i.toNat]? = some p) : ixP (.ref k) (.int i) st = some (p, st) := by
 have hi : i.toNat < xs.length := (ZAG.mp h).1
 unfold ixP
 simp only [hk]
 show (atI xs i).map (fun p => (p, st)) = _
 rw [YbN h0 (by omega), h]
 rfl
theorem YhR {k : Nat} {xs : List P} {i : Int} {st : YkJ} {p : P} (hk : st[k]? = some (.ro xs)) (h0 : 0 <= i) (h : xs[i.toNat]? = some p) : ixP (.ref k) (.int i) st = some (p, st) := by
 have hi : i.toNat < xs.length := (ZAG.mp h).1
 unfold ixP
 simp only [hk]
 show (atI xs i).map (fun p => (p, st)) = _
 rw [YbN h0 (by omega), h]
 rfl
@[simp] theorem Ye9 {i j : Int} {st : YkJ} : eqP (.int i) (.int j) st = some (.bl (i == j), st) := rfl
@[simp] theorem Ycr {x y : Str} {st : YkJ} : eqP (.str x) (.str y) st = some (.bl (x == y), st) := rfl
@[simp] theorem Yj6 {st : YkJ} : eqP .non .non st = some (.bl true, st) := rfl
@[simp] theorem Yko {i j : Int} {st : YkJ} : neP (.int i) (.int j) st = some (.bl (!(i == j)), st) := rfl
@[simp] theorem Yci {x y : Str} {st : YkJ} : neP (.str x) (.str y) st = some (.bl (!(x == y)), st) := rfl
theorem Ydg {a b : List Nat} : (sT a == sT b) = decide (a = b) := by
 rw [Bool.eq_iff_iff]
 simp [sT_inj]
def Ylm (c : Nat) : Bool := decide (97 <= c) && decide (c <= 122)
def isUp (c : Nat) : Bool := decide (65 <= c) && decide (c <= 90)
def Ynp (c : Nat) : Bool := Ylm c || isUp c
theorem W2 {c : Nat} : Ylm c = true ↔ 97 <= c /\ c <= 122 := by unfold Ylm; simp
theorem VA {c : Nat} : isUp c = true ↔ 65 <= c /\ c <= 90 := by unfold isUp; simp
theorem Yep : ∀ c, c < 128 -> Unicode.isUpper c = isUp c := by decide +kernel
theorem Yey : ∀ c, c < 128 -> Unicode.isLower c = Ylm c := by decide +kernel
theorem Yez : ∀ c, c < 128 -> Unicode.isTitle c = false := by decide +kernel
theorem Ycw {c : Nat} (h : c < 128) : Txt.isupper (sT [c]) = isUp c := by
 unfold Txt.isupper
 have : (sT [c]).cps = #[c] := rfl
 show 191
 simp only [List.any_toArray, List.any_cons, List.any_nil, Bool.or_false, Yep c h, Yey c h, Yez c h]
 cases q : isUp c with
 | false => rfl
 | true =>
  have : Ylm c = false := by
   rw [VA] at q
   rw [ZBs, Ne, W2]
   omega
  rw [this]; rfl
theorem Ye2 {c : Nat} {st : YkJ} (h : c < 128) : YmD (tx [c]) [] st = some (.bl (isUp c), st) := by
 show okP (.bl (Txt.isupper (sT [c]))) st = _
 rw [Ycw h]
 rfl
@[simp] theorem Yhj {l : List Nat} {st : YkJ} : isStr (tx l) st = true := rfl
theorem Vg {c : Nat} (h : Ylm c = true) : isUp c = false := by
 rw [W2] at h
 rw [ZBs, Ne, VA]
 omega
theorem Ya0 {a b : Nat} : Ymq (sT [a]) (sT [b]) = decide (a < b) := by
 unfold Ymq
 show decide ([a] < [b]) = decide (a < b)
 rw [Bool.eq_iff_iff, decide_eq_true_iff, decide_eq_true_iff, List.cons_lt_cons_iff]
 constructor
 ·rintro (h | ⟨_, h⟩)
  ·exact h
  ·exact absurd h (List.not_lt_nil _)
 ·exact .inl
theorem Jl (ls : List (List Nat)) : Txt.join (sT []) (ls.map sT) = sT ls.flatten := by
 unfold Txt.join
 rw [StrLaws.glued_eq_join]
 induction ls with
 | nil => rfl
 | cons a r ih =>
  cases r with
  | nil => simp [Str.join]
  | cons b r =>
   show sT a ++ sT [] ++ Str.join (sT []) ((b :: r).map sT) = _
   rw [ih, YbC, YbC]
   simp
theorem V8 : ∀ (ls : List (List Nat)), Ylv (ls.map tx) = some (ls.map sT)
 | [] => rfl
 | a :: r => by
  show (Ylv (r.map tx)).map (sT a :: ·) = _
  rw [V8 r]
  rfl
theorem Je (ls : List (List Nat)) : Yly (sT []) (ls.map sT) = ls.flatten.length := by
 unfold Yly
 simp only [Y1, List.length_nil, Nat.mul_zero, Nat.add_zero, List.map_map, List.length_flatten]
 rfl
def YkP (st st' : YkJ) : Prop := ∃ e, st' = st ++ e
theorem YkP.refl {st : YkJ} : YkP st st := ⟨[], by simp⟩
theorem YkP.trans {a b c : YkJ} (h : YkP a b) (h2 : YkP b c) : YkP a c := by
 obtain ⟨e, rfl⟩ := h
 obtain ⟨f, rfl⟩ := h2
 exact ⟨e ++ f, by simp⟩
theorem YkP.one {st : YkJ} {o : O} : YkP st (st ++ [o]) := ⟨_, rfl⟩
theorem YkP.get {a b : YkJ} (h : YkP a b) {k : Nat} {o : O} (e : a[k]? = some o) : b[k]? = some o := by
 obtain ⟨f, rfl⟩ := h
 rw [ZAt (ZAG.mp e).1]
 exact e
theorem YkP.len {a b : YkJ} (h : YkP a b) : a.length <= b.length := by
 obtain ⟨f, rfl⟩ := h
 simp
theorem YkP.set {a b : YkJ} (h : YkP a b) {k : Nat} {o : O} (hk : a.length <= k) : YkP a (b.set k o) := by
 obtain ⟨f, rfl⟩ := h
 exact ⟨f.set (k - a.length) o, by rw [ZBi _ _ hk]⟩
theorem YkP.listAt {a b : YkJ} (h : YkP a b) {k : Nat} {xs : List P} (e : listAt a k = some xs) : listAt b k = some xs := by
 unfold Mi.listAt at *
 cases q : a[k]? with
 | none => show 209
 | some o => rw [q] at e; rw [h.get q]; exact e
theorem Yq {st : YkJ} {o : O} : (st ++ [o])[st.length]? = some o := by simp
def tkey (l : List Nat) : Key := .inr (sT l)
theorem YdL {l : List Nat} : YlQ (tx l) = some (tkey l) := rfl
theorem Yaa {α β : Type} {f : α -> β} {R : α -> Prop} : ∀ {l : List β}, (∀ q ∈ l, ∃ c, q = f c /\ R c) -> ∃ ls : List α, l = ls.map f /\ ∀ c ∈ ls, R c
 | [], _ => ⟨[], rfl, by intro c hc; cases hc⟩
 | q :: r, h => by
  obtain ⟨c, e, hc⟩ := h q (ZAU ..)
  obtain ⟨ls, e2, h2⟩ := Yaa (l := r) fun x hx => h x (ZAd _ hx)
  refine ⟨c :: ls, by rw [e, e2]; rfl, fun d hd => ?_⟩
  rcases ZAV.mp hd with rfl | hd
  ·exact hc
  ·exact h2 d hd
theorem VL (ls : List Nat) : (ls.map fun c => [c]).flatten = ls := by induction ls <;> simp_all
theorem Vl (ls : List Nat) : Ylv (ls.map fun c => tx [c]) = some ((ls.map fun c => [c]).map sT) := by
 have := V8 (ls.map fun c => [c])
 rw [ZBA] at this
 exact this
theorem ZW : ("" : Str) = sT [] := by decide +kernel
theorem Jn {ls : List (List Nat)} {st : YkJ} (h : ls.flatten.length <= 1000000) : joinR (sT []) (ls.map tx) st = .ok (tx ls.flatten) st := by
 unfold joinR
 rw [V8]
 show 154
 rw [Je, ZAI (show _ <= cap from h), Jl]
 rfl
theorem We {ls : List Nat} {st : YkJ} (h : ls.length <= 1000000) : joinR (sT []) (ls.map fun c => tx [c]) st = .ok (tx ls) st := by
 unfold joinR
 rw [Vl]
 show 154
 rw [Je, VL, ZAI (show _ <= cap from h), Jl, VL]
 rfl
theorem YiB {n : Nat} : (n <= cap) = (n <= 1000000) := rfl
theorem VM {a b : List Nat} : tkey a = tkey b ↔ a = b := by
 unfold tkey
 constructor
 ·intro h; exact sT_inj.mp (Sum.inr.inj h)
 ·rintro rfl; rfl
theorem Ykh {st : YkJ} {ρ : Rho} {d k x : ME} {n : Nat} {kvs : List (Key × P)} {l : List Nat} {z : P} (h1 : d ρ st = .ok (.ref n) st) (h2 : k ρ st = .ok (tx l) st) (h3 : x ρ st = .ok z st) (h : st[n]? = some (.dct kvs)) : YnN d k x ρ st = .ok ((Ylt kvs (tkey l)).getD z) st := by
 unfold YnN
 simp only [h1, h2, h3, R.bind_ok, h, YdL]
theorem Yel {st : YkJ} {n : Nat} {kvs : List (Key × P)} {l : List Nat} {v : P} (h : st[n]? = some (.dct kvs)) (hl : kvs.length < 1000000) : Ym1 (.ref n) (tx l) v st = some (st.set n (.dct (Ynd kvs (tkey l) v))) := by
 unfold Ym1
 have : kvs.length < cap := hl
 simp only [h, YdL, if_pos this]
theorem VH {st : YkJ} {n : Nat} {xs : List P} {v : P} (h : st[n]? = some (.lst xs)) (hl : xs.length < 1000000) : YlL (.ref n) [v] st = some (.non, st.set n (.lst (xs ++ [v]))) := by
 unfold YlL Ylq
 have : xs.length < cap := hl
 simp only [h, if_pos this]
theorem JH {st : YkJ} {n : Nat} {xs : List P} (h : st[n]? = some (.lst xs)) : Ymr (.ref n) st = true := by
 unfold Ymr
 simp only [h]
theorem Zm {st : YkJ} {n : Nat} {xs : List P} (h : listAt st n = some xs) : srcOf (.ref n) st = some (Ymg n xs.length) := by
 unfold listAt at h
 unfold srcOf
 show 154
 split at h <;> first | (cases h; rename_i e; simp only [e]) | cases h
theorem Yk {st : YkJ} {k : Nat} {xs : List P} (h : st[k]? = some (.lst xs)) : listAt st k = some xs := by unfold listAt; rw [h]
theorem Ye1 {st : YkJ} {k : Nat} {xs : List P} (h : listAt st k = some xs) : Ylf (.ref k) st = some xs := by
 unfold listAt at h
 unfold Ylf
 show 154
 split at h <;> first | (cases h; rename_i e; simp only [e]) | cases h
theorem YdK {α : Type} {f : α -> P} {xs : List α} {a b : Nat} (hab : a <= b) : YlJ (xs.map f) (some (a : Int)) (some (b : Int)) = ((xs.drop a).take (b - a)).map f := by
 unfold YlJ
 rw [HT.sIx_nat, HT.sIx_nat, ZAO, <- List.map_drop, <- ZB8]
 congr 1
 by_cases h : a <= xs.length
 ·rw [ZBL h]
  by_cases h2 : b <= xs.length
  ·rw [ZBL h2]
  ·rw [ZA4 (by omega), ZAc (by rw [ZAi]; omega), ZAc (by rw [ZAi]; omega)]
 ·rw [ZA4 (by omega : xs.length <= a), ZA4 (by omega : xs.length <= b), ZA0 (ZAE _), ZA0 (by omega : xs.length <= a)]
  simp
theorem Yku {k : Nat} {ns : List Int} {a b : Nat} {st : YkJ} (h : st[k]? = some (.ro (ns.map P.int))) (hab : a <= b) (hl : ns.length <= 1000000) : slP (.ref k) (some (a : Int)) (some (b : Int)) st = some (.ref st.length, st ++ [.lst (((ns.drop a).take (b - a)).map P.int)]) := by
 unfold slP
 simp only [h]
 rw [YdK hab]
 unfold YlW
 rw [ZAI]
 show _ <= 1000000
 rw [ZAO, ZAu, ZAi]
 omega
section
variable {ρ : Rho} {st : YkJ}
theorem Yiu {i j : Int} (h : -(2 ^ 64) < j) (h2 : j < 2 ^ 64) : Yl0 (.int i) (.int j) st = some (.int (i * j), st) := YjQ h h2
theorem Ycf {α : Type} {f : α -> Bool} : ∀ (l : List α), YmW (l.map fun x => P.bl (f x)) = some (l.map f)
 | [] => rfl
 | a :: r => by
  show (YmW (r.map fun x => P.bl (f x))).map (f a :: ·) = _
  rw [Ycf r]
  rfl
def allR (ps : List P) (st : YkJ) : R P := match YmW ps with
 | some bs => .ok (.bl (bs.all id)) st
 | none => .bad
theorem YhL {m : MA} : Yns m ρ st = (m ρ st).bind fun ps st1 => allR ps st1 := rfl
theorem YfF {α : Type} {f : α -> Bool} {l : List α} : allR (l.map fun x => P.bl (f x)) st = .ok (.bl (l.all f)) st := by
 unfold allR
 rw [Ycf]
 show 154
 rw [List.all_map]
 rfl
theorem WZ {a b : List P} (h : a.length + b.length <= 1000000) : YkY (.tup a) (.tup b) st = some (.tup (a ++ b), st) := by
 have : a.length + b.length <= cap := h
 simp [YkY, this, okP]
theorem Yfi {xs : List P} {lo hi : Option Int} : slP (.tup xs) lo hi st = some (.tup (YlJ xs lo hi), st) := rfl
end
open Builtin.Str (occurrences partsBetween strSub strKind subAt)
section
variable {ρ : Rho} {st : YkJ}
theorem YjX {mp : Str -> ME} : eFs mp ρ st = mp (sT []) ρ st := rfl
theorem Ygv {me : ME} {mp : Str -> ME} {acc : Str} : Ymu me mp acc ρ st = (me ρ st).bind fun p st1 => Yno acc p fun z => mp z ρ st1 := rfl
theorem YhA {a b : List Nat} {k : Str -> R P} (h : a.length + b.length <= 1000000) : Yno (sT a) (tx b) k = k (sT (a ++ b)) := by
 unfold Yno tx
 show 154
 rw [YbC, ZAI (show _ <= cap from by rw [Y1, ZAK]; exact h)]
theorem YhM {a : List Nat} (h : a.length <= 1000000) : Ym3 (sT a) ρ st = .ok (tx a) st := by
 unfold Ym3
 rw [ZAI (show _ <= cap from by rw [Y1]; exact h)]
 rfl
theorem YiW {me : ME} : YnT me ρ st = (me ρ st).bind YnW := rfl
theorem YfT {a : List Nat} (h : a.length <= 1000000) : YnW (tx a) st = .ok (tx a) st := by
 unfold YnW tx
 show 154
 rw [ZAI (show _ <= cap from by rw [Y1]; exact h)]
theorem Ycg {k : Nat} {xs : List P} (h : listAt st k = some xs) : Ymi [.ref k] st = some (.tup xs, st) := by
 unfold Ymi
 show 154
 rw [Ye1 h]
 rfl
end
section
variable {ρ : Rho} {st : YkJ}
end
section
variable {st : YkJ}
theorem Yj9 {b : Bool} : tyP (.bl b) st = some "bool" := rfl
theorem Yi4 : Ynv "bool" "bool" = true := rfl
theorem Yg5 {a b : List Nat} : eqP (tx a) (tx b) st = some (.bl (decide (a = b)), st) := by
 unfold tx; rw [Ycr, Ydg]
theorem YhW {a b : List Nat} : neP (tx a) (tx b) st = some (.bl (!decide (a = b)), st) := by
 unfold tx; rw [Yci, Ydg]
def YmB : Nat -> P -> Bool
 | _, .non => true
 | _, .int _ => true
 | _, .str _ => true
 | n + 1, .tup xs => xs.all (YmB n)
 | _, _ => false
def dat : Nat -> P -> PyData
 | _, .non => .none
 | _, .bl b => .bool b
 | _, .int i => .int i
 | _, .str x => .str x
 | n + 1, .tup xs => .tuple (xs.map (dat n))
 | _, _ => .none
theorem Yar {n : Nat} (ih : ∀ p, YmB n p = true -> snap n st p = some (dat n p)) : ∀ xs : List P, xs.all (YmB n) = true -> xs.mapM (snap n st) = some (xs.map (dat n))
 | [], _ => rfl
 | x :: xs, h => by
  rw [ZBl, ZAq] at h
  rw [List.mapM_cons, ih x h.1, Yar ih xs h.2]
  rfl
theorem YcE : ∀ {n : Nat} {p : P}, YmB n p = true -> snap n st p = some (dat n p)
 | 0, .non, _ => rfl
 | 0, .int _, _ => rfl
 | 0, .str _, _ => rfl
 | _ + 1, .non, _ => rfl
 | _ + 1, .int _, _ => rfl
 | _ + 1, .str _, _ => rfl
 | n + 1, .tup xs, h => by
  have h' : xs.all (YmB n) = true := h
  show (xs.mapM (snap n st)).map PyData.tuple = some (.tuple (xs.map (dat n)))
  rw [Yar (fun p hp => YcE (n := n) hp) xs h']
  rfl
end
theorem Vm (l : List Nat) (c limit : Nat) : ∀ (n lo : Nat) (acc : Array Nat) (free : Nat), free <= lo ->
 (forIn (List.range' lo n) (acc, free) (StrLaws.occBody (sT l) (sT [c]) l.length limit)).run.fst.toList = acc.toList ++ ((List.range' lo n).filter fun i => decide (l[i]? = some c)).take (limit - acc.size)
 | 0, lo, acc, free, _ => by simp
 | n + 1, lo, acc, free, hf => by
  rw [List.range'_succ, List.forIn_cons]
  unfold StrLaws.occBody
  have key := StrLaws.subAt_one (sT l) c lo
  have e1 : (sT l).cps.toList = l := rfl
  have e2 : (⟨#[c]⟩ : Str) = sT [c] := rfl
  rw [e1, e2, Y1] at key
  by_cases hc : l[lo]? = some c
  ·have hk := key.mpr hc
   by_cases hl : acc.size < limit
   ·rw [ZAI ⟨⟨⟨hl, hf⟩, hk.1⟩, hk.2⟩]
    have ih := Vm l c limit n (lo + 1) (acc.push lo) (lo + (sT [c]).length) (by simp)
    refine ih.trans ?_
    rw [List.filter_cons_of_pos (by simpa using hc)]
    rw [show limit - acc.size = (limit - (acc.push lo).size) + 1 by simp; omega, List.take_succ_cons]
    simp
   ·rw [ZAJ (fun h => hl h.1.1.1)]
    have ih := Vm l c limit n (lo + 1) acc free (by omega)
    refine ih.trans ?_
    rw [show limit - acc.size = 0 by omega]
    simp
  ·rw [ZAJ (fun h => hc (key.mp ⟨h.1.2, h.2⟩))]
   have ih := Vm l c limit n (lo + 1) acc free (by omega)
   refine ih.trans ?_
   rw [List.filter_cons_of_neg (by simpa using hc)]
theorem YdO (l : List Nat) (c limit : Nat) : Builtin.Str.occurrences (sT l) (sT [c]) 0 (sT l).length limit = ((List.range (l.length + 1)).filter fun i => decide (l[i]? = some c)).take limit := by
 rw [StrLaws.occ_eq, Y1]
 refine (Vm l c limit (l.length + 1 - 0) 0 #[] 0 (ZAE _)).trans ?_
 rw [List.range_eq_range']
 simp
theorem VI (c : Nat) : ∀ (l : List Nat) (n : Nat), l.length <= n -> ((List.range n).filter fun i => decide (l[i]? = some c)).length = l.count c
 | [], n, _ => by simp
 | a :: l, 0, h => by simp at h
 | a :: l, n + 1, h => by
  have ih := VI c l n (by simpa using h)
  rw [ZCU, ZBt, List.filter_map]
  have e : ((fun i => decide ((a :: l)[i]? = some c)) ∘ Nat.succ) = fun i => decide (l[i]? = some c) := by
   funext i; simp
  rw [e, List.count_cons]
  by_cases hc : a = c
  ·subst hc; simp [ih]
  ·simp [hc, ih]
theorem YeK (l : List Nat) (c : Nat) : ((Builtin.Str.occurrences (sT l) (sT [c]) 0 (sT l).length ((sT l).length + 1)).length) = l.count c := by
 rw [YdO, Y1, ZAc, VI c l _ (by omega)]
 refine ZAH (ZBJ ..) ?_
 simp
theorem VN {c : Nat} : ∀ (l : List Nat) (n : Nat), l.length <= n -> c ∈ l -> ((List.range n).filter fun i => decide (l[i]? = some c)).take 1 = [l.idxOf c]
 | [], n, _, h => by simp at h
 | a :: l, 0, h, _ => by simp at h
 | a :: l, n + 1, h, hm => by
  rw [ZCU, ZBt, List.filter_map]
  have e : ((fun i => decide ((a :: l)[i]? = some c)) ∘ Nat.succ) = fun i => decide (l[i]? = some c) := by
   funext i; simp
  rw [e]
  by_cases hc : a = c
  ·subst hc; simp
  ·have hm' : c ∈ l := by
    rcases ZAV.mp hm with h1 | h1
    ·exact absurd h1.symm hc
    ·exact h1
   have ih := VN l n (by simpa using h) hm'
   simp only [List.getElem?_cons_zero, Option.some.injEq, hc, decide_false, Bool.false_eq_true, if_false]
   rw [<- ZB8, ih, List.idxOf_cons]
   have h3 : (a == c) = false := by simpa using hc
   simp [h3]
theorem YdV {l : List Nat} {c : Nat} (h : c ∈ l) : Builtin.Str.occurrences (sT l) (sT [c]) 0 (sT l).length 1 = [l.idxOf c] := by
 rw [YdO, VN l _ (by omega) h]
section
variable {st : YkJ}
theorem Yhp {l : List Nat} {c : Nat} : Yme (tx l) [tx [c]] st = some (.int (l.count c : Nat), st) := by
 have h : Txt.count (sT l) (sT [c]) = ((l.count c : Nat) : Int) := by
  unfold Txt.count
  rw [YeK]
 show okP (.int (Txt.count (sT l) (sT [c]))) st = _
 rw [h]
 rfl
theorem YdD {l : List Nat} {c : Nat} (h : c ∈ l) : Ymt (tx l) [tx [c]] st = some (.int (l.idxOf c : Nat), st) := by
 show (match Builtin.Str.occurrences (sT l) (sT [c]) 0 (sT l).length 1 with | i :: _ => okP (.int i) st | [] => none) = _
 rw [YdV h]
 rfl
end
section
variable {α : Type} {src : Src} {g : MG} {nt : MT} {me : ME} {m : MS} {ρ0 ρ : Rho} {st : YkJ} {N : Nat}
theorem Z1 (xs : List α) (enc : α -> P) (t : α -> Bool) (f : α -> P) (hn : N = xs.length) (hx : ∀ i, i <= xs.length -> src.nx i st = some (xs[i]?.map enc)) (hc : xs.length <= 1000000)
 (h : ∀ a ∈ xs, ∃ ρ1, g (enc a) ρ0 st = some ρ1 /\ nt ρ1 st = .ok (t a) st /\ (t a = true -> me ρ1 st = .ok (f a) st)) : Yld src g nt me ρ0 N 0 st [] = .ok ((xs.filter t).map f) st := by
 obtain ⟨acc, st', e, h1, h2, _⟩ := Z6 (src := src) (g := g) (nt := nt) (me := me) (ρ0 := ρ0) (N := xs.length) (fun i s acc => s = st /\ acc = ((xs.take i).filter t).map f /\ acc.length <= i) (st := st) ⟨rfl, by simp, by simp⟩ (fun i s acc hi ⟨e1, e2, e3⟩ => by
  subst e1
  obtain ⟨ρ1, g1, g2, g3⟩ := h xs[i] (ZAr hi)
  refine ⟨enc xs[i], ρ1, by rw [hx i (by omega), ZAR hi]; rfl, g1, ?_⟩
  have et : xs.take (i + 1) = xs.take i ++ [xs[i]] := by rw [ZBd, ZAR hi]; rfl
  cases q : t xs[i] with
  | false => exact .inl ⟨s, by rw [g2, q], rfl, by rw [et, List.filter_append, e2, List.filter_cons_of_neg (by rw [q]; exact ZAQ), List.filter_nil, ZBW], by omega⟩
  | true => exact .inr ⟨s, f xs[i], s, by rw [g2, q], g3 q, by show _ < 1000000; omega, rfl, by rw [et, List.filter_append, e2, List.filter_cons_of_pos q, List.filter_nil, ZAf, ZAe, ZBh], by rw [ZAK, ZAW]; omega⟩)
  (fun s acc ⟨e1, _⟩ => by subst e1; rw [hx _ (ZAE _), ZA2 (ZAE _)]; rfl)
 rw [hn, e, h1, h2, ZA9]
theorem Zv (xs : List α) (enc : α -> P) (f : α -> P) (hn : N = xs.length) (hx : ∀ i, i <= xs.length -> src.nx i st = some (xs[i]?.map enc)) (hc : xs.length <= 1000000)
 (h : ∀ a ∈ xs, ∃ ρ1, g (enc a) ρ0 st = some ρ1 /\ me ρ1 st = .ok (f a) st) : Yld src g Ylz me ρ0 N 0 st [] = .ok (xs.map f) st := by
 rw [Z1 (nt := Ylz) xs enc (fun _ => true) f hn hx hc fun a ha => let ⟨ρ1, h1, h2⟩ := h a ha; ⟨ρ1, h1, rfl, fun _ => h2⟩]
 rw [List.filter_eq_self.mpr fun _ _ => rfl]
theorem ZA (xs : List α) (enc : α -> P) (I : Nat -> Rho -> YkJ -> Prop) (hn : N = xs.length) (hx : ∀ i ρ s, i <= xs.length -> I i ρ s -> src.nx i s = some (xs[i]?.map enc)) (h0 : I 0 ρ st)
 (step : ∀ i (hi : i < xs.length) ρ s, I i ρ s -> ∃ ρ1, g (enc xs[i]) ρ s = some ρ1 /\ ∃ ρ' s', m ρ1 s = .nx ρ' s' /\ I (i + 1) ρ' s') : ∃ ρ' s', YlF src g m N 0 ρ st = .nx ρ' s' /\ I xs.length ρ' s' := by
 rw [hn]
 refine Ye3 I h0 (fun i ρ s hi h => ?_) (fun ρ s h => by rw [hx _ ρ s (ZAE _) h, ZA2 (ZAE _)]; rfl)
 obtain ⟨ρ1, g1, r⟩ := step i hi ρ s h
 exact ⟨enc xs[i], ρ1, by rw [hx i ρ s (by omega) h, ZAR hi]; rfl, g1, r⟩
end
section
variable {α : Type} {st : YkJ} {i : Nat}
theorem nxS {l : List Nat} (hi : i <= l.length) : (Ymp (sT l)).nx i st = some (l[i]?.map fun c => tx [c]) := by
 rw [YhU (by simpa using hi), YiP]
 rfl
theorem nxL {xs : List α} {enc : α -> P} : (Yng (xs.map enc)).nx i st = some (xs[i]?.map enc) := by
 rw [YdH, ZAj]
theorem nxR {lo : Int} {n : Nat} : (YlO lo n).nx i st = some ((List.range n)[i]?.map fun (k : Nat) => P.int (lo + k)) := by
 rw [ZO]
 by_cases h : i < n
 ·rw [ZAI h, List.getElem?_range h]; rfl
 ·rw [if_neg h, List.getElem?_eq_none (by simpa using h)]; rfl
theorem nxK {k n : Nat} {xs : List α} {enc : α -> P} (h : listAt st k = some (xs.map enc)) : (Ymg k n).nx i st = some (xs[i]?.map enc) := by
 rw [YgX h, ZAj]
theorem nxZ {p q : P} {n : Nat} {xs : List α} {f1 f2 : α -> P} (h1 : rowAt p st = some (xs.map f1)) (h2 : rowAt q st = some (xs.map f2)) (hi : i <= xs.length) : (Yl5 p q n).nx i st = some (xs[i]?.map fun a => .tup [f1 a, f2 a]) := by
 rw [Ye4 h1 h2 (by simpa using hi) (by simpa using hi)]
 unfold YlI
 rw [ZAj, ZAj]
 cases xs[i]? <;> rfl
theorem Yc6 {l : List Nat} : srcOf (tx l) st = some (Ymp (sT l)) := rfl
theorem Ykf {a : P} {r : List P} : ixP (.tup (a :: r)) (.int 0) st = some (a, st) := Vr (by omega) rfl
theorem Ykq {a b : P} {r : List P} : ixP (.tup (a :: b :: r)) (.int 1) st = some (b, st) := Vr (by omega) rfl
theorem ZN {xs : List P} : rowAt (.tup xs) st = some xs := rfl
end
theorem Yds {α : Type} {xs : List α} {t : α -> Bool} {i : Nat} (hi : i < xs.length) (h : ∀ b ∈ xs.take i, t b = false) (q : t xs[i] = true) : xs.find? t = some xs[i] := by
 have hd := ZCJ hi
 generalize xs[i] = a at *
 have e : xs.find? t = (xs.take i ++ xs.drop i).find? t := by rw [ZCX]
 rw [e, List.find?_append, ZBY.mpr (fun b hb => by rw [h b hb]; exact ZAQ), Option.none_or, hd, List.find?_cons_of_pos q]
section
variable {α : Type} {src : Src} {g : MG} {m : MS} {ρ : Rho} {st : YkJ} {N : Nat}
theorem Ya8 (xs : List α) (enc : α -> P) (t : α -> Bool) (v : α -> P) (I : Rho -> YkJ -> Prop) (J : YkJ -> Prop) (hn : N = xs.length) (hx : ∀ i ρ s, i <= xs.length -> I ρ s -> src.nx i s = some (xs[i]?.map enc)) (h0 : I ρ st)
 (step : ∀ j (hj : j < xs.length) ρ s, (∀ b ∈ xs.take j, t b = false) -> I ρ s -> ∃ ρ1, g (enc xs[j]) ρ s = some ρ1 /\ (t xs[j] = true -> ∃ s', m ρ1 s = .rt (v xs[j]) s' /\ J s') /\ (t xs[j] = false -> ∃ ρ' s', m ρ1 s = .nx ρ' s' /\ I ρ' s')) :
 (∃ a s', xs.find? t = some a /\ YlF src g m N 0 ρ st = .rt (v a) s' /\ J s') \/ (xs.find? t = none /\ ∃ ρ' s', YlF src g m N 0 ρ st = .nx ρ' s' /\ I ρ' s') := by
 rw [hn]
 refine Ybi (src := src) (g := g) (m := m) xs.length (fun i ρ s => I ρ s /\ ∀ b ∈ xs.take i, t b = false)
  (fun r => (∃ a s', xs.find? t = some a /\ r = .rt (v a) s' /\ J s') \/ (xs.find? t = none /\ ∃ ρ' s', r = .nx ρ' s' /\ I ρ' s')) (fun i ρ s hi ⟨h1, h2⟩ => ?_) (fun ρ s ⟨h1, h2⟩ => ?_) xs.length 0 ρ st (by omega) ⟨h0, by simp⟩
 ·obtain ⟨ρ1, g1, g2, g3⟩ := step i hi ρ s h2 h1
  refine ⟨enc xs[i], ρ1, by rw [hx i ρ s (by omega) h1, ZAR hi]; rfl, g1, ?_⟩
  cases q : t xs[i] with
  | true =>
   obtain ⟨s', e1, e2⟩ := g2 q
   rw [e1]
   exact .inl ⟨xs[i], s', Yds hi h2 q, rfl, e2⟩
  | false =>
   obtain ⟨ρ', s', e1, e2⟩ := g3 q
   rw [e1]
   refine ⟨e2, fun b hb => ?_⟩
   rw [ZBd, ZAR hi, ZAY] at hb
   rcases hb with hb | hb
   ·exact h2 b hb
   ·rw [show b = xs[i] by simpa using hb]; exact q
 ·rw [ZA9] at h2
  exact ⟨by rw [hx _ ρ s (ZAE _) h1, ZA2 (ZAE _)]; rfl, .inr ⟨ZBY.mpr fun b hb => by rw [h2 b hb]; exact ZAQ, ρ, s, rfl, h1⟩⟩
end
section
variable {α : Type} {st : YkJ}
theorem YfA {xs : List P} {b : Nat} : YlJ xs none (some (b : Int)) = xs.take b := by
 unfold YlJ
 rw [HT.sIx_nat, HT.sIx_none, ZCW, Nat.sub_zero]
 by_cases h : b <= xs.length
 ·rw [ZBL h]
 ·rw [ZA4 (by omega), ZAc (ZAE _), ZAc (by omega)]
theorem YfZ {xs : List P} {a : Nat} : YlJ xs (some (a : Int)) none = xs.drop a := by
 unfold YlJ
 rw [HT.sIx_nat, HT.sIx_none]
 by_cases h : a <= xs.length
 ·rw [ZBL h, ZAc (by rw [ZAi]; omega)]
 ·rw [ZA4 (by omega), ZA0 (ZAE _), ZA0 (by omega), ZB9]
theorem YcG {k : Nat} {xs : List P} {lo hi : Option Int} (h : st[k]? = some (.lst xs)) (hl : xs.length <= 1000000) : slP (.ref k) lo hi st = some (.ref st.length, st ++ [.lst (YlJ xs lo hi)]) := by
 unfold slP
 simp only [h]
 unfold YlW
 rw [ZAI]
 show _ <= 1000000
 unfold YlJ
 rw [ZAu, ZAi]
 omega
theorem YeI {k l : Nat} {xs ys : List P} (h1 : st[k]? = some (.lst xs)) (h2 : st[l]? = some (.lst ys)) (hl : xs.length + ys.length <= 1000000) : YkY (.ref k) (.ref l) st = some (.ref st.length, st ++ [.lst (xs ++ ys)]) := by
 have e1 : Ylq st k = some xs := by unfold Ylq; rw [h1]
 have e2 : Ylq st l = some ys := by unfold Ylq; rw [h2]
 show (match Ylq st k, Ylq st l with | some xs, some ys => YlW (xs ++ ys) st | _, _ => none) = _
 rw [e1, e2]
 show YlW (xs ++ ys) st = _
 unfold YlW
 rw [ZAI]
 show _ <= 1000000
 rw [ZAK]
 exact hl
end
theorem Yjr (a : Nat) (u : Option Int) (n : Nat) : Builtin.Str.strSliceIndices (some (a : Int)) u 1 n = Builtin.Str.strSliceIndices (some ((min a n : Nat) : Int)) u 1 n := by
 have e : max (0 : Int) (min (if (a : Int) < 0 then (a : Int) + n else a) n) = max 0 (min (if ((min a n : Nat) : Int) < 0 then ((min a n : Nat) : Int) + n else ((min a n : Nat) : Int)) n) := by
  rw [ZAJ (by omega), ZAJ (by omega)]; omega
 unfold Builtin.Str.strSliceIndices
 simp only [show (1 : Int) > 0 by decide, if_true]
 rw [e]
theorem Yjw (l : Option Int) (b : Nat) (n : Nat) : Builtin.Str.strSliceIndices l (some (b : Int)) 1 n = Builtin.Str.strSliceIndices l (some ((min b n : Nat) : Int)) 1 n := by
 have e : max (0 : Int) (min (if (b : Int) < 0 then (b : Int) + n else b) n) = max 0 (min (if ((min b n : Nat) : Int) < 0 then ((min b n : Nat) : Int) + n else ((min b n : Nat) : Int)) n) := by
  rw [ZAJ (by omega), ZAJ (by omega)]; omega
 unfold Builtin.Str.strSliceIndices
 simp only [show (1 : Int) > 0 by decide, if_true]
 rw [e]
theorem ZH (x : Str) (l u : Option Int) : Txt.slice x l u = StrLaws.sliceText x l u := by
 first | rfl | (unfold Txt.slice StrLaws.sliceText; rfl)
theorem Ycb (x : Str) (a : Nat) (u : Option Int) : Txt.slice x (some (a : Int)) u = Txt.slice x (some ((min a x.length : Nat) : Int)) u := by
 rw [ZH, ZH]
 unfold StrLaws.sliceText
 rw [Yjr]
theorem Ycp (x : Str) (l : Option Int) (b : Nat) : Txt.slice x l (some (b : Int)) = Txt.slice x l (some ((min b x.length : Nat) : Int)) := by
 rw [ZH, ZH]
 unfold StrLaws.sliceText
 rw [Yjw]
theorem YcP (l : List Nat) (a : Nat) : Txt.slice (sT l) (some (a : Int)) none = sT (l.drop a) := by
 rw [Ycb, ZH, StrLaws.sliceText_from (by rw [Vj, Y1]; omega), Vj, Y1]
 have e : (l.drop ((min a l.length : Nat) : Int).toNat).take ((l.length : Int) - ((min a l.length : Nat) : Int)).toNat = l.drop a := by
  rw [ZAn]
  by_cases h : a <= l.length
  ·rw [ZBL h, ZAc (by rw [ZAi]; omega)]
  ·rw [ZA4 (by omega), ZA0 (ZAE _), ZA0 (by omega), ZB9]
 show 42
theorem Yfr (l : List Nat) (b : Nat) : Txt.slice (sT l) none (some (b : Int)) = sT (l.take b) := by
 rw [Ycp, ZH, StrLaws.sliceText_to (by rw [Vj, Y1]; omega), Vj, Y1]
 have e : (l.drop 0).take (((min b l.length : Nat) : Int) - 0).toNat = l.take b := by
  rw [ZCW, Int.sub_zero, ZAn]
  by_cases h : b <= l.length
  ·rw [ZBL h]
  ·rw [ZA4 (by omega), ZAc (ZAE _), ZAc (by omega)]
 show 42
theorem YeO (l : List Nat) (a b : Nat) (hab : a <= b) : Txt.slice (sT l) (some (a : Int)) (some (b : Int)) = sT ((l.drop a).take (b - a)) := by
 rw [Ycb, Ycp, ZH, StrLaws.sliceText_plain (by rw [Vj, Y1]; omega), Vj, Y1]
 have e : (l.drop ((min a l.length : Nat) : Int).toNat).take (((min b l.length : Nat) : Int) - ((min a l.length : Nat) : Int)).toNat = (l.drop a).take (b - a) := by
  rw [ZAn]
  by_cases h : a <= l.length
  ·rw [ZBL h]
   by_cases h2 : b <= l.length
   ·rw [ZBL h2]; congr 1; omega
   ·rw [ZA4 (by omega), ZAc (by rw [ZAi]; omega), ZAc (by rw [ZAi]; omega)]
  ·rw [ZA4 (show l.length <= b by omega), ZA4 (show l.length <= a by omega), ZA0 (ZAE _), ZA0 (show l.length <= a by omega), ZB9, ZB9]
 show 42
section
variable {st : YkJ}
theorem YaM {l : List Nat} {a : Nat} (h : l.length <= 1000000) : slP (tx l) (some (a : Int)) none st = some (tx (l.drop a), st) := by
 show (if (sT l).length <= cap then okP (.str (Txt.slice (sT l) (some (a : Int)) none)) st else none) = _
 rw [ZAI (by rw [Y1]; exact h), YcP]
 rfl
theorem Yg9 {l : List Nat} {b : Nat} (h : l.length <= 1000000) : slP (tx l) none (some (b : Int)) st = some (tx (l.take b), st) := by
 show (if (sT l).length <= cap then okP (.str (Txt.slice (sT l) none (some (b : Int)))) st else none) = _
 rw [ZAI (by rw [Y1]; exact h), Yfr]
 rfl
theorem Ygz {l : List Nat} {a b : Nat} (hab : a <= b) (h : l.length <= 1000000) : slP (tx l) (some (a : Int)) (some (b : Int)) st = some (tx ((l.drop a).take (b - a)), st) := by
 show (if (sT l).length <= cap then okP (.str (Txt.slice (sT l) (some (a : Int)) (some (b : Int)))) st else none) = _
 rw [ZAI (by rw [Y1]; exact h), YeO _ _ _ hab]
 rfl
theorem Ybc {a b : Nat} {xs : List P} (h1 : listAt st a = some xs) (hp : xs.all (YmB 7) = true) (h2 : listAt st b = some []) : neP (.ref a) (.ref b) st = some (.bl (!xs.isEmpty), st) := by
 have e1 : snap 8 st (.ref a) = some (.list (xs.map (dat 7))) := by
  show (match listAt st a with | some xs => (xs.mapM (snap 7 st)).map PyData.list | none => none) = _
  rw [h1]
  show 154
  rw [Yar (fun p hp => YcE hp) xs hp]
  rfl
 have e2 : snap 8 st (.ref b) = some (.list []) := by
  show (match listAt st b with | some xs => (xs.mapM (snap 7 st)).map PyData.list | none => none) = _
  rw [h2]
  rfl
 unfold neP eqB deep
 rw [e1, e2]
 cases xs <;> rfl
theorem YaV (l : List Nat) : (l.map fun c => tx [c]).all (YmB 7) = true := by
 rw [List.all_map]
 exact ZAv.mpr fun _ _ => rfl
end
theorem Ydn {c : Nat} {l : List Nat} {st : YkJ} : inP (tx [c]) (tx l) st = some (.bl (decide (c ∈ l)), st) := by
 have := StrLaws.found_one (sT l) c
 show okP (.bl (!(Builtin.Str.occurrences (sT l) (sT [c]) 0 (sT l).length 1).isEmpty)) st = _
 have e : (!(Builtin.Str.occurrences (sT l) (sT [c]) 0 (sT l).length 1).isEmpty) = decide (c ∈ l) := this
 show 42
end Mi
namespace Mi
open PySem PySem.Spec L2
open PyProof.Rows hiding St
def Ym7 : RS -> R P
 | .nx _ st => .ok .non st
 | .rt p st => .ok p st
 | .exc x _ st => .exc x st
 | _ => .bad
def Ynt (c : Str) (mh : MS) : RS -> RS
 | .exc x ρ st => if x.1 = c then YmG (mh ρ st) else .bad
 | r => r
def YmM (c : Str) (i : Nat) (mh : MS) : RS -> RS
 | .exc x ρ st => if x.1 = c then Ynl i (mh (ρ.set i (some (.ref st.length))) (st ++ [.exc c x.2])) else .bad
 | r => r
section
variable {n i : Nat} {m mb mh : MS} {mf : MF} {mr ma : MA} {me : ME} {ps : List P} {ρ : Rho} {st : YkJ} {c : Str} {p : P} {fs : List (Str × P)} {x : Xc} {b : Bool}
theorem Yio : YmQ n m ps st = Ym7 (m (ps.map some ++ List.replicate (n - ps.length) none) st) := by unfold YmQ Ym7; rfl
theorem Yf7 : Ym7 (.nx ρ st) = .ok .non st := rfl
theorem YfH : Ym7 (.rt p st) = .ok p st := rfl
theorem Yem : Ym7 (.exc x ρ st) = .exc x st := rfl
theorem Yfv : YlN n mf mr ρ st = (mr ρ st).bind fun ps st1 => if ps.length = n then mf ps st1 else .bad := rfl
theorem YgL : Ymz c ma ρ st = RS.ofE ρ (ma ρ st) fun ps st1 => if ps.length <= 1000 then .exc (c, []) ρ st1 else .bad := rfl
theorem Yjj : YnG mb c mh ρ st = Ynt c mh (mb ρ st) := by unfold YnG Ynt; rfl
theorem YhF : Ynt c mh (.nx ρ st) = .nx ρ st := rfl
theorem YgU : Ynt c mh (.rt p st) = .rt p st := rfl
theorem Ye5 : Ynt c mh (.exc (c, fs) ρ st) = YmG (mh ρ st) := by unfold Ynt; simp
theorem Yec : YmM c i mh (.nx ρ st) = .nx ρ st := rfl
theorem YeA : YmM c i mh (.rt p st) = .rt p st := rfl
theorem Ydk : YmM c i mh (.exc (c, fs) ρ st) = Ynl i (mh (ρ.set i (some (.ref st.length))) (st ++ [.exc c fs])) := by unfold YmM; simp
theorem Yfh : YmG (.nx ρ st) = .nx ρ st := rfl
theorem Yff : YmG (.rt p st) = .rt p st := rfl
theorem Yfx : Ynl i (.nx ρ st) = .nx (ρ.set i none) st := rfl
theorem YfU : Ynl i (.rt p st) = .rt p st := rfl
end
theorem Ycq {a l : List Nat} {st : YkJ} : Ynh (tx a) (tx l) st = inP (tx a) (tx l) st := rfl
theorem Zu {a l : List Nat} {st : YkJ} : Ylo (tx a) (tx l) st = YmA (tx a) (tx l) st := rfl
theorem Yb2 {p q : P} {xs : List P} {st : YkJ} (h : Ylf q st = some xs) (hp : Yll p = true) (hx : xs.all Yll = true) : Ylo p q st = some (.bl (!(xs.any fun y => eqF y p)), st) := by
 unfold Ylo
 rw [h]
 show 154
 rw [ZAI ⟨hp, hx⟩]
 rfl
theorem YjV {p q : P} {xs : List P} {st : YkJ} (h : Ylf q st = some xs) (hp : Yll p = true) (hx : xs.all Yll = true) : Ynh p q st = some (.bl (xs.any fun y => eqF y p), st) := by
 unfold Ynh
 rw [h]
 show 154
 rw [ZAI ⟨hp, hx⟩]
 rfl
end Mi
namespace Mi
open PySem PySem.Spec L2
open PyProof.Rows hiding St
theorem YgA {ρ : Rho} {st : YkJ} {i : MI} {n : Nat} {fr : List Nat} {g : MG} {nt : MT} {me : ME} : Ymv i n fr g nt me ρ st = (i ρ st).bind fun src st1 => Yle src g nt me (rho0 n fr ρ) src.n 0 st1 [] := rfl
theorem VW {src : Src} {g : MG} {nt : MT} {me : ME} {ρ0 : Rho} {a : List P} {s : YkJ} : ∀ (n i : Nat) (st : YkJ) (acc : List P), Yld src g nt me ρ0 n i st acc = .ok a s -> Yle src g nt me ρ0 n i st acc = .ok a s
 | 0, i, st, acc, h => by
  unfold Yld at h
  unfold Yle
  exact h
 | n + 1, i, st, acc, h => by
  unfold Yld at h
  unfold Yle
  cases e : src.nx i st with
  | none => rw [e] at h; cases h
  | some o =>
   rw [e] at h
   cases o with
   | none => exact h
   | some p =>
    dsimp only at h ⊢
    cases zg : g p ρ0 st with
    | none => rw [zg] at h; cases h
    | some ρ1 =>
     rw [zg] at h
     dsimp only at h ⊢
     cases zt : nt ρ1 st with
     | bad => rw [zt] at h; cases h
     | exc k st' => rw [zt] at h; cases h
     | ok k st1 =>
      rw [zt] at h
      cases k with
      | false => exact VW n (i + 1) st1 acc h
      | true =>
       dsimp only at h ⊢
       cases ze : me ρ1 st1 with
       | bad => rw [ze] at h; cases h
       | exc k st' => rw [ze] at h; cases h
       | ok q st2 =>
        rw [ze] at h
        dsimp only at h ⊢
        by_cases hl : acc.length < cap
        ·rw [ZAI hl] at h ⊢
         exact VW n (i + 1) st2 _ h
        ·rw [ZAJ hl] at h; cases h
end Mi
namespace G
open PySem PySem.Spec L2 Mi
open PyProof.Rows hiding St
def Yny (hm : HM) : RS -> RS
 | .exc x ρ st => hm x ρ st
 | r => r
section
variable {ρ : Rho} {st : YkJ} {mb mh : MS} {hm r : HM} {c d : Str} {i n : Nat} {ms : List Str} {fs : List (Str × P)} {p : P}
theorem YeD {x : Xc} : Yny hm (.exc x ρ st) = hm x ρ st := rfl
theorem Ygh : Yny hm (.nx ρ st) = .nx ρ st := rfl
theorem Yfe : Yny hm (.rt p st) = .rt p st := rfl
end
end G
namespace G
open PySem PySem.Spec L2 Mi
open PyProof.Rows hiding St
open Builtin.Str (occurrences partsBetween strSub strKind subAt)
def cutE : List Nat -> List (List Nat)
 | [] => [[]]
 | c :: r => if c = 61 then [] :: cutE r else match cutE r with
  | p :: ps => (c :: p) :: ps
  | [] => [[c]]
def gs : List (List Nat) -> Option (List (List Nat))
 | [] => some []
 | p :: ps => match cutE p with
  | [e, e2] => if (e.all Ynp && e2.all Ynp) = true then (gs ps).map (fun L => e :: e2 :: L) else none
  | _ => none
def gl (cur : List Nat) : List (List Nat) -> Option (List (List Nat))
 | [] => none
 | p :: ps => match cutE p with
  | [e, e2] => if (e.all Ynp && e2.all Ynp) = true then (gs ps).map (fun L => (cur ++ e) :: e2 :: L) else none
  | _ => none
end G
namespace G
open PySem PySem.Spec L2 Mi
open PyProof.Rows hiding St
set_option hygiene false in
local macro_rules | `(tactic| walk_at "ev") => `(tactic| simp -implicitDefEqProofs (disch := first | omega | decide | (simp only [List.length_append, List.length_cons, List.length_nil, List.length_map]; omega)) only [YeD, Ygh, Yfe, YgA, Yio, Yf7, YfH, Yem, Yfv, YgL, Yjj, YhF, YgU, Ye5, Yec, YeA, Ydk, Yfh, Yff, Yfx, YfU, Ydn, YaM, Yg9, Yfi, Yf3, Int.cast_ofNat_Int, Int.reduceBEq, decide_true, decide_false, beq_self_eq_true, Yhk, Yhl, Yc6, Ykf, Ykq, Yhp, Yj9, Yi4, Yg5, YhW, YhN, YhD, Yca, Yfz, Yfc, Yks, Yjt, Yiu, YjX, Ygv, YhA, YhM, YiW, YfT, YhL, WZ, Ye8, YgC, x_eC, Yc8, Ybj, YbH, Ygy, Yhy, Yik, Yhh, YiY, Yjl, Yeb, YcQ, Ybl, Yc2, Yh4, Ygr, YgW, Yft, x_eB, YiG, YdG, YiL, x_eM, Ykv, YhO, Yho, YfD, Ze, Yiz, Yg7, Ybk, Yg1, Ydz, YjD, Yjv, Yig, Yf9, Yg4, YfV, YhC, Ycj, Yi1, Ycz, Yfu, Yhz, Ygj, YgB, Yju, Yer, YgR, J9, Yfl, YaN, YdH, YjG, YiZ, YgT, Yi3, ZO, Yij, Ye9, Ycr, Yci, Yhj, Mi.R.bind_ok, Mi.R.bind_exc, Mi.R.bind_bad, Mi.RS.ofE_ok, Mi.RS.ofE_exc, Mi.RS.ofE_bad, Mi.RS.seq_nx, Mi.RS.seq_rt, Mi.RS.seq_bk, Mi.RS.seq_ct, Mi.RS.seq_exc, Mi.RS.seq_bad, WL, YfL, List.map_cons, List.map_nil, List.length_cons, List.length_nil, List.cons_append, List.nil_append, List.append_nil, List.replicate_succ, List.replicate_zero, List.getElem?_cons_zero, List.getElem?_cons_succ, List.set_cons_zero, List.set_cons_succ, Nat.reduceSub, Nat.reduceAdd, Nat.reduceLeDiff, Nat.reduceEqDiff, reduceIte, Bool.false_eq_true, Option.join_some, Option.join_none, Option.bind_some, Nat.zero_add, Nat.add_zero, Nat.sub_self, Option.map_some, Option.map_none, List.isEmpty_nil, List.isEmpty_cons, Bool.not_true, Bool.not_false, Nat.zero_le, YiB, Bool.true_and, Bool.and_true])
theorem VE {k : Nat} {ns : List Int} {st : YkJ} (i : Nat) (h : st[k]? = some (.ro (ns.map P.int))) : Yo [.ref k, .int i] st = .ok (.int (ns.getD i 0)) st := by
 unfold Yo ZG
 simp only [YgB, List.map_cons, List.map_nil, Ze, Ydz, YbH, Ybj, Yc8]
 simp [Ygg h]
 by_cases hi : i < ns.length
 ·simp [hi]
  rw [YhR h (by omega) (p := .int ns[i]) (by simp [hi])]
  simp [hi]
 ·simp [hi]
theorem abc : ("abcdefghijklmnopqrstuvwxyz" : Str) = sT ((List.range 26).map (97 + ·)) := by decide +kernel
def low26 : List Nat := (List.range 26).map (97 + ·)
theorem Z8 : low26.length = 26 := by decide
theorem YeE : ∀ c ∈ low26, Ylm c = true := by decide
theorem YgP : P.str "abcdefghijklmnopqrstuvwxyz" = tx low26 := ZBj P.str abc
theorem Yib {i : Int} {st : YkJ} (h0 : 0 <= i) (h1 : i < 26) : ∃ c, Ylm c = true /\ ixP (tx low26) (.int i) st = some (tx [c], st) := by
 obtain ⟨c, h2, h3⟩ := Wg (l := low26) (st := st) h0 (by rw [Z8]; exact h1) (by rw [Z8]; decide)
 exact ⟨c, YeE c (ZBB h2), h3⟩
theorem s_e : P.str "" = tx [] := ZBj P.str ZW
def Ynz (r : List Nat) : Prop := r.Pairwise (· < ·)
theorem YhP {a b : Nat} : leS (sT [a]) (sT [b]) = decide (a <= b) := by
 unfold leS
 rw [Ya0]
 by_cases h : a <= b
 ·rw [ZAS h, ZAM (by omega)]; rfl
 ·rw [ZAM h, ZAS (by omega)]; rfl
theorem Ya2 (ls : List Nat) (hn : ls.Nodup) : ∃ r, YlM (ls.map fun c => sT [c]) = r.map (fun c => sT [c]) /\ Ynz r /\ r.Perm ls := by
 have hp := List.mergeSort_perm ls (fun a b => decide (a <= b))
 have hs := List.pairwise_mergeSort (le := fun a b : Nat => decide (a <= b)) (fun a b c h1 h2 => by simp at *; omega) (fun a b => by simp; omega) ls
 refine ⟨ls.mergeSort (fun a b => decide (a <= b)), (Wi (hp.map _) ?_).symm, ?_, hp⟩
 ·rw [ZCE]
  exact hs.imp fun h => by rw [YhP]; exact h
 ·have hn' : (ls.mergeSort (fun a b => decide (a <= b))).Nodup := hp.nodup_iff.mpr hn
  exact (hs.and hn').imp fun ⟨h1, h2⟩ => Nat.lt_of_le_of_ne (ZAs h1) h2
theorem mem_low26 {c : Nat} : c ∈ low26 ↔ Ylm c = true := by
 rw [W2]; unfold low26; simp only [List.mem_map, List.mem_range]
 exact ⟨fun ⟨a, h1, h2⟩ => by omega, fun h => ⟨c - 97, by omega, by omega⟩⟩
theorem Wz {c : Nat} {l : List Nat} {st : YkJ} : YmA (tx [c]) (tx l) st = some (.bl (!decide (c ∈ l)), st) := by
 have h := StrLaws.found_one (sT l) c
 show okP (.bl (!(!(Builtin.Str.occurrences (sT l) (sT [c]) 0 (sT l).length 1).isEmpty))) st = _
 have e : (!(Builtin.Str.occurrences (sT l) (sT [c]) 0 (sT l).length 1).isEmpty) = decide (c ∈ l) := h
 show 42
theorem nodup_len : ∀ {l m : List Nat}, l.Nodup -> (∀ x ∈ l, x ∈ m) -> l.length <= m.length
 | [], m, _, _ => ZBZ _
 | a :: l, m, hn, h => by
  have ha : a ∈ m := h a (ZAU ..)
  have hn' := ZCP.mp hn
  have ih := nodup_len (l := l) (m := m.erase a) hn'.2 fun x hx => by
   have e : x ≠ a := fun e => hn'.1 (by rw [<- e]; exact hx)
   exact (List.mem_erase_of_ne e).mpr (h x (ZAd _ hx))
  rw [List.length_erase_of_mem ha] at ih
  have : 0 < m.length := List.length_pos_of_mem ha
  rw [ZBk]
  omega
theorem mixed {a b : Int} {st : YkJ} (h1 : 0 <= b) (h2 : b <= 1000) : ∃ n : Int, Yn [.int a, .int b] st = .ok (.int n) st /\ 0 <= n := by
 unfold Yn Wa
 show 151
 have hn : 0 <= (a % 2147483647 + 7919 * b * b + b) * 48271 % 2147483647 /\ (a % 2147483647 + 7919 * b * b + b) * 48271 % 2147483647 < 2147483647 := by omega
 generalize (a % 2147483647 + 7919 * b * b + b) * 48271 % 2147483647 = n at hn ⊢
 exact ⟨_, rfl, ZA7 _ (by decide)⟩
theorem Ycu {ls : List Nat} (hl : ls.length <= 63) : ∃ r, YlM (once (ls.map fun c => sT [c])) = r.map (fun c => sT [c]) /\ Ynz r /\ (∀ c, c ∈ r ↔ c ∈ ls) /\ r.length <= ls.length := by
 have ho : ∀ x ∈ once (ls.map fun c => sT [c]), ∃ c, x = sT [c] /\ True := fun x hx => by
  obtain ⟨c, hc, rfl⟩ := ZA8.mp (mem_once.mp hx)
  exact ⟨c, rfl, trivial⟩
 obtain ⟨l0, e0, _⟩ := Yaa ho
 have hn : l0.Nodup := by
  have := YcN (ls.map fun c => sT [c])
  rw [e0] at this
  rw [ZCA, ZCE] at this
  exact this.imp fun h e => h (by rw [e])
 have hm : ∀ c, c ∈ l0 ↔ c ∈ ls := fun c => by
  have key : ∀ l : List Nat, c ∈ l ↔ sT [c] ∈ l.map fun c => sT [c] := fun l => by
   rw [ZA8]
   constructor
   ·intro h; exact ⟨c, h, rfl⟩
   ·rintro ⟨d, hd, e⟩
    have : [d] = [c] := sT_inj.mp e
    cases this
    exact hd
  rw [key l0, <- e0, mem_once, <- key ls]
 obtain ⟨r, r1, r2, r3⟩ := Ya2 l0 hn
 exact ⟨r, by rw [e0, r1], r2, fun c => by rw [r3.mem_iff, hm], by rw [r3.length_eq]; exact nodup_len hn fun x hx => (hm x).mp hx⟩
theorem YdQ {ls : List Nat} {k : Nat} {st0 st : YkJ} {ρ : Rho} {me : ME} (h : me ρ st0 = .ok (.ref k) st) (hk : listAt st k = some (ls.map fun c => tx [c])) (hl : ls.length <= 63) : YlH me ρ st0 = .ok ((YlM (once (ls.map fun c => sT [c]))).map P.str) st := by
 unfold YlH
 rw [h]
 show (match listAt st k with | some xs => (match Ylv xs with | some ys => if ys.length < 4000 /\ (once ys).length < 64 then R.ok ((YlM (once ys)).map P.str) st else R.bad | none => R.bad) | none => R.bad) = _
 rw [hk]
 show 154
 rw [Vl]
 show 154
 have e1 : (ls.map fun c => [c]).map sT = ls.map fun c => sT [c] := by rw [ZBA]; rfl
 rw [e1, ZAI]
 have := Ycx (ls.map fun c => sT [c])
 rw [ZAO] at this ⊢
 omega
theorem Yhd {q : P} {l : List Nat} {st : YkJ} (h : Ylf q st = some (l.map fun c => tx [c])) (hl : l.length <= 1000) : YmH (sT []) q st = .ok (tx l) st := by
 rw [YhS h]
 exact We (by omega)
theorem YhJ {me mx : ME} {ρ : Rho} {st st1 : YkJ} {q : P} {l : List Nat} (h1 : me ρ st = .ok (tx []) st) (h2 : mx ρ st = .ok q st1) (h : Ylf q st1 = some (l.map fun c => tx [c])) (hl : l.length <= 1000) : Ynm me mx ρ st = .ok (tx l) st1 := by
 unfold Ynm
 rw [h1]
 show (mx ρ st).bind (fun q st2 => YmH (sT []) q st2) = _
 rw [h2]
 exact Yhd h hl
theorem Ydu {k : Nat} {xs : List P} {st : YkJ} (h : st[k]? = some (.lst xs)) : Ylf (.ref k) st = some xs := Yk h
theorem Yak {k : Nat} {xs : List P} {st : YkJ} (h : listAt st k = some xs) : YlT [.ref k] st = some (.tup xs, st) := Ycg h
structure Mc (S : List Nat) (rs : List P) : Prop where
 s1 : 1 <= S.length
 s4 : S.length <= 4
 low : ∀ c ∈ S, Ylm c = true
 ris : Ynz S
 r1 : 1 <= rs.length
 r3 : rs.length <= 3
 rows : ∀ r ∈ rs, ∃ ns : List Int, r = .tup (ns.map P.int) /\ ns.length = S.length /\ ∀ n ∈ ns, 0 <= n /\ n < rs.length
theorem Ycv {cell : Int} {st : YkJ} : ∃ S rs st', YM [.int cell, .int 3] st = .ok (.tup [tx S, .tup rs]) st' /\ YkP st st' /\ Mc S rs := by
 unfold YM ZI
 simp only [YgP, s_e]
 show 151
 obtain ⟨n, hn, n1, n4⟩ : ∃ n : Nat, 1 + cell % 4 = (n : Int) /\ 1 <= n /\ n <= 4 := ⟨(1 + cell % 4).toNat, by omega, by omega, by omega⟩
 obtain ⟨acc, s1, e1, ls, e2, e3, e4, e5⟩ := Z6 (src := YlO 0 n) (g := YkM 0) (nt := Ylz) (me := YkK ixP (YkH 2) (YkK Yla (YkX 2 Yn (YkI (YkH 1) (YkI (YkH 0) YkN))) (eC (.int 26)))) (ρ0 := [none, some (.int cell), some (tx low26)]) (N := n)
  (fun i s acc => ∃ ls : List Nat, acc = ls.map (fun c => tx [c]) /\ ls.length = i /\ (∀ c ∈ ls, Ylm c = true) /\ s = st) (st := st) ⟨[], rfl, rfl, fun w h => (by cases h), rfl⟩ (fun i s acc hi ⟨ls, e1, e2, e3, e4⟩ => by
   subst e1; subst e4
   obtain ⟨m, z1, z2⟩ := mixed (a := cell) (b := 0 + (i : Int)) (st := s) (by omega) (by omega)
   obtain ⟨c, c1, c2⟩ := Yib (i := m % 26) (st := s) (by omega) (by omega)
   refine ⟨.int (0 + i), _, by simp only [ZO, if_pos hi], rfl, .inr ⟨s, tx [c], s, rfl, ?_, by show _ < 1000000; rw [List.length_map]; omega, ls ++ [c], by rw [List.map_append]; rfl, by rw [List.length_append, List.length_singleton, e2], fun d hd => ?_, rfl⟩⟩
   ·show 151
    rw [z1]
    show 151
    rw [c2]
    rfl
   ·rcases ZAY.mp hd with h | h
    ·exact e3 d h
    ·rw [List.mem_singleton.mp h]; exact c1) (fun s acc _ => by simp only [ZO, if_neg (Nat.lt_irrefl _)])
 subst e2; subst e5
 have he : Yl7 (Ylj (Ylr (YkI (YkK YkY (eC (.int 1)) (YkK Yla (YkH 0) (eC (.int 4)))) YkN)) 1 [0, 2] (YkM 0) Ylz (YkK ixP (YkH 2) (YkK Yla (YkX 2 Yn (YkI (YkH 1) (YkI (YkH 0) YkN))) (eC (.int 26))))) [some (.int cell), some (.int 3), some (tx low26), none, none, none, none] s1 = .ok (.ref s1.length) (s1 ++ [.lst (ls.map fun c => tx [c])]) := by
  show 151
  rw [hn, ZAn, e1]
  rfl
 rw [YdQ he (Yk Yq) (by omega)]
 obtain ⟨S, r1, r2, r3, r4⟩ := Ycu (ls := ls) (by omega)
 rw [r1]
 have hS1 : 1 <= S.length := by
  rcases Nat.eq_zero_or_pos S.length with z | z
  ·have hz := ZBz z
   cases ls with
   | nil => simp at e3; omega
   | cons a r => have := (r3 a).mpr (ZAU ..); rw [hz] at this; cases this
  ·exact z
 have hSt : (S.map fun c => sT [c]).map P.str = S.map fun c => tx [c] := by rw [ZBA]; rfl
 rw [hSt]
 generalize hA : s1 ++ [O.lst (ls.map fun c => tx [c])] = A
 have gA : YkP s1 A := by rw [<- hA]; exact YkP.one
 show 151
 generalize hB : A ++ [O.lst (S.map fun c => tx [c])] = B
 show 241
 have kB : B[A.length]? = some (.lst (S.map fun c => tx [c])) := by rw [<- hB]; exact Yq
 obtain ⟨m, hm, m1, m3⟩ : ∃ m : Nat, 1 + cell / 4 % 3 = (m : Int) /\ 1 <= m /\ m <= 3 := ⟨(1 + cell / 4 % 3).toNat, by omega, by omega, by omega⟩
 rw [hm, ZAn]
 have lB := (ZAG.mp kB).1
 have hne : A.length ≠ B.length := by omega
 obtain ⟨ρ', s4, f1, rs, v6, f2, f3, f4, f5⟩ := ZA (src := YlO 0 m) (g := YkM 6) (m := Zx) (N := m) (ρ := [some (.int cell), some (.int 3), some (tx low26), some (.ref A.length), some (.int m), some (.ref B.length), none]) (st := B ++ [.lst []]) (List.range m) (fun (k : Nat) => P.int (0 + k))
  (fun i ρ s => ∃ (rs : List P) (v6 : Option P), ρ = [some (.int cell), some (.int 3), some (tx low26), some (.ref A.length), some (.int m), some (.ref B.length), v6] /\ s = B ++ [.lst rs] /\ rs.length = i /\ ∀ r ∈ rs, ∃ ns : List Int, r = .tup (ns.map P.int) /\ ns.length = S.length /\ ∀ n ∈ ns, 0 <= n /\ n < m)
  (by simp) (fun i ρ s hi _ => nxR) ⟨[], none, rfl, rfl, rfl, fun r h => (by cases h)⟩
  (fun i hi ρ s ⟨rs, v6, q1, q2, q3, q4⟩ => by
   show 206
   have hi' : i < m := by simpa using hi
   have ei : (List.range m)[i] = i := by simp
   rw [ei]
   show 189
   unfold Zx
   show 151
   rw [JH Yq]
   show 151
   rw [ZC (YkP.one.get kB), ZAO]
   show 151
   rw [ZAn]
   obtain ⟨acc, s5, z1, ns, z2, z3, z4, z5⟩ := Z6 (src := YlO 0 S.length) (g := YkM 0) (nt := Ylz) (me := YkK Yla (YkX 2 Yn (YkI (YkH 1) (YkI (YkK YkY (YkK YkY (eC (.int 10)) (YkK Yl0 (eC (.int 5)) (YkH 3))) (YkH 0)) YkN))) (YkH 2)) (ρ0 := [none, some (.int cell), some (.int m), some (.int (0 + (i : Int)))]) (N := S.length)
    (fun i s acc => ∃ ns : List Int, acc = ns.map P.int /\ ns.length = i /\ (∀ n ∈ ns, 0 <= n /\ n < m) /\ s = B ++ [.lst rs]) (st := B ++ [.lst rs]) ⟨[], rfl, rfl, fun w h => (by cases h), rfl⟩ (fun j s acc hj ⟨ns, w1, w2, w3, w4⟩ => by
     subst w1; subst w4
     obtain ⟨x, y1, y2⟩ := mixed (a := cell) (b := 10 + 5 * (0 + (i : Int)) + (0 + (j : Int))) (st := B ++ [.lst rs]) (by omega) (by omega)
     refine ⟨.int (0 + j), _, by simp only [ZO, if_pos hj], rfl, .inr ⟨_, .int (x % m), _, rfl, ?_, by show _ < 1000000; rw [List.length_map]; omega, ns ++ [x % m], by rw [List.map_append]; rfl, by rw [List.length_append, List.length_singleton, w2], fun d hd => ?_, rfl⟩⟩
     ·show 151
      rw [y1]
      show 151
     ·rcases ZAY.mp hd with h | h
      ·exact w3 d h
      ·rw [ZAX.mp h]
       exact ⟨Int.emod_nonneg _ (by omega), Int.emod_lt_of_pos _ (by omega)⟩) (fun s acc _ => by simp only [ZO, if_neg (Nat.lt_irrefl _)])
   rw [z1]
   subst z2; subst z5
   show 151
   rw [VH Yq (by omega)]
   show 151
   refine ⟨_, _, rfl, rs ++ [.tup (ns.map P.int)], _, rfl, ?_, by rw [ZAK, ZAW, q3], fun r hr => ?_⟩
   ·rw [ZBi _ _ (ZAE _), ZCh]; rfl
   ·rcases ZAY.mp hr with h | h
    ·exact q4 r h
    ·exact ⟨ns, ZAX.mp h, z3, z4⟩)
 rw [f1, f2]
 subst f3
 rw [ZBe] at f4
 show 151
 rw [YhJ (l := S) (st1 := B ++ [.lst rs]) (q := .ref A.length) rfl rfl (Ydu (YkP.one.get kB)) (by omega)]
 show 151
 rw [Yak (Yk Yq)]
 show 151
 refine ⟨S, rs, _, rfl, (gA.trans gB).trans YkP.one, hS1, by omega, fun c hc => e4 c ((r3 c).mp hc), r2, by omega, by omega, fun r hr => ?_⟩
 obtain ⟨ns, y1, y2, y3⟩ := f5 r hr
 exact ⟨ns, y1, y2, fun n hn => by rw [f4]; exact y3 n hn⟩
theorem Yfp (z : Str) : P.str z = tx z.cps.toList := by unfold tx sT; rfl
def Yk5 (R : List (List Int)) : List P := R.map fun ns => .tup (ns.map P.int)
structure Rw (S : List Nat) (R : List (List Int)) : Prop where
 len : ∀ ns ∈ R, ns.length = S.length
 inn : ∀ ns ∈ R, ∀ n ∈ ns, 0 <= n /\ n < R.length
theorem YdN {k : Nat} {m : Int} : ∀ {rs : List P}, (∀ r ∈ rs, ∃ ns : List Int, r = .tup (ns.map P.int) /\ ns.length = k /\ ∀ n ∈ ns, 0 <= n /\ n < m) -> ∃ R : List (List Int), rs = Yk5 R /\ (∀ ns ∈ R, ns.length = k) /\ ∀ ns ∈ R, ∀ n ∈ ns, 0 <= n /\ n < m
 | [], _ => ⟨[], rfl, fun _ h => (by cases h), fun _ h => (by cases h)⟩
 | r :: rs, h => by
  obtain ⟨ns, e1, e2, e3⟩ := h r (ZAU ..)
  obtain ⟨R, f1, f2, f3⟩ := YdN (rs := rs) fun q hq => h q (ZAd _ hq)
  subst e1; subst f1
  refine ⟨ns :: R, rfl, fun x hx => ?_, fun x hx => ?_⟩
  ·rcases ZAV.mp hx with rfl | hx
   ·exact e2
   ·exact f2 x hx
  ·rcases ZAV.mp hx with rfl | hx
   ·exact e3
   ·exact f3 x hx
theorem Yki {S : List Nat} {rs : List P} (M : Mc S rs) : ∃ R : List (List Int), rs = Yk5 R /\ Rw S R := by
 obtain ⟨R, h1, h2, h3⟩ := YdN M.rows
 have hl : rs.length = R.length := by rw [h1]; exact ZAO ..
 exact ⟨R, h1, h2, fun ns hn n hm => by have := h3 ns hn n hm; rw [hl] at this; exact this⟩
def nxt (S : List Nat) (R : List (List Int)) (h : Int) (c : Nat) : Int := (R.getD h.toNat []).getD (S.idxOf c) 0
def YlS (S : List Nat) (R : List (List Int)) (h : Int) (w : List Nat) : Int := w.foldl (nxt S R) h
theorem ZV {α : Type} {l : List α} {i : Nat} {d : α} (h : i < l.length) : l.getD i d ∈ l /\ l[i]? = some (l.getD i d) := by
 have e : l[i]? = some l[i] := ZAR h
 have f : l.getD i d = l[i] := by rw [ZBn, e]; rfl
 rw [f]
 exact ⟨ZAr _, e⟩
theorem YiO {S : List Nat} {R : List (List Int)} {h : Int} {c : Nat} (W : Rw S R) (h0 : 0 <= h) (h1 : h < R.length) (hc : c ∈ S) : 0 <= nxt S R h c /\ nxt S R h c < R.length := by
 have a := ZV (l := R) (i := h.toNat) (d := []) (by omega)
 have b := ZV (l := R.getD h.toNat []) (i := S.idxOf c) (d := 0) (by rw [W.len _ a.1]; exact ZB5 hc)
 exact W.inn _ a.1 _ b.1
theorem YcO {S : List Nat} {R : List (List Int)} (W : Rw S R) : ∀ {w : List Nat} {h : Int}, 0 <= h -> h < R.length -> (∀ c ∈ w, c ∈ S) -> 0 <= YlS S R h w /\ YlS S R h w < R.length
 | [], h, h0, h1, _ => ⟨h0, h1⟩
 | c :: w, h, h0, h1, hw => by
  obtain ⟨a, b⟩ := YiO W h0 h1 (hw c (ZAU ..))
  show 0 <= YlS S R (nxt S R h c) w /\ YlS S R (nxt S R h c) w < R.length
  exact YcO W a b fun d hd => hw d (ZAd _ hd)
theorem Ycc {S : List Nat} {R : List (List Int)} {w : List Nat} {h : Int} {i : Nat} (hi : i < w.length) : YlS S R h (w.take (i + 1)) = nxt S R (YlS S R h (w.take i)) w[i] := by
 rw [ZAm hi]
 unfold YlS
 rw [List.foldl_append]
 rfl
theorem YfG {R : List (List Int)} {h : Int} {st : YkJ} (h0 : 0 <= h) (h1 : h < R.length) : ixP (.tup (Yk5 R)) (.int h) st = some (.tup ((R.getD h.toNat []).map P.int), st) := by
 have a := ZV (l := R) (i := h.toNat) (d := []) (by omega)
 exact Vr h0 (by unfold Yk5; rw [List.getElem?_map, a.2]; rfl)
theorem YdI {S : List Nat} {R : List (List Int)} {h : Int} {c : Nat} {st : YkJ} (W : Rw S R) (h0 : 0 <= h) (h1 : h < R.length) (hc : c ∈ S) : ixP (.tup ((R.getD h.toNat []).map P.int)) (.int ((S.idxOf c : Nat) : Int)) st = some (.int (nxt S R h c), st) := by
 have a := ZV (l := R) (i := h.toNat) (d := []) (by omega)
 have b := ZV (l := R.getD h.toNat []) (i := S.idxOf c) (d := 0) (by rw [W.len _ a.1]; exact ZB5 hc)
 exact Vr (by omega) (by rw [ZAn, ZAj, b.2]; rfl)
theorem Yeq {S : List Nat} {R : List (List Int)} {w : List Nat} {h : Int} {st : YkJ} (W : Rw S R) (h0 : 0 <= h) (h1 : h < R.length) (hw : ∀ c ∈ w, c ∈ S) :
 YS [.tup [tx S, .tup (Yk5 R)], .int h, tx w] st = .ok (.int (YlS S R h w)) st := by
 unfold YS Wp
 show 151
 obtain ⟨ρ', s', f1, v3, f2, f3⟩ := ZA (src := Ymp (sT w)) (g := YkM 3) (m := l1__law_leads) (N := w.length) (ρ := [some (.tup [tx S, .tup (Yk5 R)]), some (.int h), some (tx w), none]) (st := st) w (fun c => tx [c])
  (fun i ρ s => ∃ v3, ρ = [some (.tup [tx S, .tup (Yk5 R)]), some (.int (YlS S R h (w.take i))), some (tx w), v3] /\ s = st) rfl (fun i ρ s hi _ => nxS hi) ⟨none, rfl, rfl⟩
  (fun i hi ρ s ⟨v3, q1, q2⟩ => by
   show 101
   unfold l1__law_leads
   have hin := YcO W (w := w.take i) h0 h1 fun c hc => hw c (ZBS hc)
   have hc := hw w[i] (ZAr hi)
   show 151
   rw [YfG hin.1 hin.2]
   show 151
   rw [YdD hc]
   show 151
   rw [YdI W hin.1 hin.2 hc]
   show 151
   exact ⟨_, _, rfl, some (tx [w[i]]), by rw [Ycc hi], rfl⟩)
 rw [f1, f2]
 subst f3
 show 151
 rw [ZA9]
theorem Yea {S : List Nat} {R : List (List Int)} {w : List Nat} {h : Int} {st : YkJ} (W : Rw S R) (h0 : 0 <= h) (h1 : h < R.length) :
 W3 [.tup [tx S, .tup (Yk5 R)], .int h, tx w] st = if ∀ c ∈ w, c ∈ S then .ok (.int (YlS S R h w)) st else .exc ("NoFit", []) st := by
 obtain ⟨L, hL, hLl⟩ : ∃ L : List Nat, P.str "the machine does not have the sign " = tx L /\ L.length <= 100 := ⟨_, Yfp _, by decide +kernel⟩
 unfold W3 Ybv
 show 151
 have key : ∀ r, r = YlF (Ymp (sT w)) (YkM 4) VD w.length 0 [some (.tup [tx S, .tup (Yk5 R)]), some (.int h), some (tx w), some (.int h), none] st ->
  ((∀ c ∈ w, c ∈ S) /\ ∃ v4, r = .nx [some (.tup [tx S, .tup (Yk5 R)]), some (.int h), some (tx w), some (.int (YlS S R h w)), v4] st) \/ ((¬ ∀ c ∈ w, c ∈ S) /\ ∃ ρ, r = .exc ("NoFit", []) ρ st) := by
  intro r hr
  subst hr
  refine Ybi (src := Ymp (sT w)) (g := YkM 4) (m := VD) w.length (fun i ρ s => (∀ c ∈ w.take i, c ∈ S) /\ ∃ v4, ρ = [some (.tup [tx S, .tup (Yk5 R)]), some (.int h), some (tx w), some (.int (YlS S R h (w.take i))), v4] /\ s = st)
   (fun r => ((∀ c ∈ w, c ∈ S) /\ ∃ v4, r = .nx [some (.tup [tx S, .tup (Yk5 R)]), some (.int h), some (tx w), some (.int (YlS S R h w)), v4] st) \/ ((¬ ∀ c ∈ w, c ∈ S) /\ ∃ ρ, r = .exc ("NoFit", []) ρ st))
   (fun i ρ s hi ⟨q0, v4, q1, q2⟩ => ?_) (fun ρ s ⟨q0, v4, q1, q2⟩ => ?_) w.length 0 _ _ (by omega) ⟨fun c hc => (by simp at hc), none, rfl, rfl⟩
  ·show 206
   refine ⟨tx [w[i]], _, ?_, rfl, ?_⟩
   ·rw [nxS (by omega), ZAR hi]; rfl
   unfold VD
   have hin := YcO W (w := w.take i) h0 h1 q0
   show 151
   rw [Zu, Wz]
   show 151
   by_cases hc : w[i] ∈ S
   ·rw [ZAS hc]
    show 151
    rw [YfG hin.1 hin.2]
    show 151
    rw [YdD hc]
    show 151
    rw [YdI W hin.1 hin.2 hc]
    show 151
    refine ⟨fun c hc' => ?_, some (tx [w[i]]), by rw [Ycc hi], trivial⟩
    ·rw [ZAm hi] at hc'
     rcases ZAY.mp hc' with z | z
     ·exact q0 c z
     ·rw [ZAX.mp z]; exact hc
   ·rw [ZAM hc, hL]
    show 151
    exact .inr ⟨fun z => hc (z _ (ZAr hi)), _, rfl⟩
  ·show 206
   rw [ZA9] at q0 ⊢
   exact ⟨by rw [nxS (ZAE _), ZA2 (ZAE _)]; rfl, .inl ⟨q0, v4, rfl⟩⟩
 rcases key _ rfl with ⟨a, v4, e⟩ | ⟨a, ρ, e⟩
 ·rw [e, ZAI a]
  show 151
 ·rw [e, ZAJ a]
  show 151
theorem YcA {S : List Nat} {cell : Int} {most : Int} {st : YkJ} (h1 : 1 <= S.length) (h4 : S.length <= 4) (hm : most = 3 \/ most = 9) : ∃ w, YQ [.int cell, tx S, .int most] st = .ok (tx w) st /\ (∀ c ∈ w, c ∈ S) /\ w.length <= most.toNat := by
 obtain ⟨n, hn, n4⟩ : ∃ n : Nat, cell % (most + 1) = (n : Int) /\ n <= most.toNat := by
  rcases hm with rfl | rfl
  ·exact ⟨(cell % (3 + 1)).toNat, by omega, by omega⟩
  ·exact ⟨(cell % (9 + 1)).toNat, by omega, by omega⟩
 have hm9 : 0 <= most /\ most <= 9 := by omega
 unfold YQ WO
 show 59
 rw [hn, ZAn]
 obtain ⟨ρ', s', f1, w, v4, f2, f3, f4, f5⟩ := ZA (src := YlO 0 n) (g := YkM 4) (m := Wf) (N := n) (ρ := [some (.int cell), some (tx S), some (.int most), some (tx []), none]) (st := st) (List.range n) (fun (k : Nat) => P.int (0 + k))
  (fun i ρ s => ∃ (w : List Nat) (v4 : Option P), ρ = [some (.int cell), some (tx S), some (.int most), some (tx w), v4] /\ s = st /\ w.length = i /\ ∀ c ∈ w, c ∈ S) (by simp) (fun i ρ s hi _ => nxR) ⟨[], none, rfl, rfl, rfl, fun c h => (by cases h)⟩
  (fun i hi ρ s ⟨w, v4, q1, q2, q3, q4⟩ => by
   show 206
   have hi' : i < n := by simpa using hi
   have ei : (List.range n)[i] = i := by simp
   rw [ei]
   show 189
   unfold Wf
   obtain ⟨m, z1, z2⟩ := mixed (a := cell) (b := 30 + (0 + (i : Int))) (st := s) (by omega) (by omega)
   show 151
   rw [z1]
   show 151
   obtain ⟨c, c1, c2⟩ := Wg (l := S) (st := s) (i := m % (S.length : Int)) (ZA7 _ (by omega)) (ZA3 _ (by omega)) (by omega)
   show 19
   refine ⟨_, _, rfl, w ++ [c], _, rfl, rfl, by rw [ZAK, ZAW, q3], fun d hd => ?_⟩
   rcases ZAY.mp hd with h | h
   ·exact q4 d h
   ·rw [ZAX.mp h]; exact ZBB c1)
 rw [f1, f2]
 subst f3
 show 151
 refine ⟨w, rfl, f5, ?_⟩
 rw [f4, ZBe]; exact n4
theorem ABC : ("ABCDEFGHIJKLMNOPQRSTUVWXYZ" : Str) = sT ((List.range 26).map (65 + ·)) := by decide +kernel
def up26 : List Nat := (List.range 26).map (65 + ·)
theorem YiX : P.str "ABCDEFGHIJKLMNOPQRSTUVWXYZ" = tx up26 := ZBj P.str ABC
theorem Ygc {i : Nat} (h : i < 26) : up26[i]? = some (65 + i) := by
 unfold up26; rw [List.getElem?_map, List.getElem?_range h]; rfl
def unk (c : Int) (k : Nat) : Nat := 65 + ((c + 7 * k) % 26).toNat
theorem YjB {c : Int} {k : Nat} : isUp (unk c k) = true := by
 rw [VA]; unfold unk; omega
theorem YeX {c : Int} : ∀ {n : Nat}, n <= 6 -> ((List.range n).map (unk c)).Nodup := by
 intro n hn
 rw [ZCA, ZCE]
 refine List.Pairwise.imp_of_mem ?_ List.nodup_range
 intro a b ha hb h e
 have ha' := ZCY.mp ha
 have hb' := ZCY.mp hb
 unfold unk at e
 omega
theorem Ybt {c : Int} {n : Nat} {st : YkJ} (hn : n <= 6) : YF [.int c, .int n] st = .ok (.ref st.length) (st ++ [.lst (((List.range n).map (unk c)).map fun d => tx [d])]) := by
 unfold YF Zz
 simp only [YiX]
 show 151
 rw [Int.toNat_natCast, Zv (List.range n) (fun (k : Nat) => P.int (0 + k)) (fun (k : Nat) => tx [unk c k]) (by simp) (fun i _ => nxR) (by simp; omega) (fun k hk => ⟨_, rfl, by
  have hk' : k < n := ZCY.mp hk
  show 151
  obtain ⟨d, d1, d2⟩ := Wg (l := up26) (st := st) (i := (c + 7 * (0 + (k : Int))) % 26) (by omega) (by show _ < (26 : Int); omega) (by decide)
  rw [d2]
  rw [Ygc (by omega)] at d1
  have e : d = unk c k := by
   have := Option.some.inj d1
   unfold unk
   rw [<- this, Int.zero_add]
  rw [e]
  walk_at "ev"⟩)]
 show 151
 rw [ZBA]
 rfl
def kwd (U : List Nat) (w : Nat -> List Nat) : List (Key × P) := U.map fun u => (tkey [u], tx (w u))
theorem VM {a b : Nat} (h : tkey [a] = tkey [b]) : a = b := by
 have : [a] = [b] := sT_inj.mp (Sum.inr.inj h)
 cases this; rfl
theorem V4 {U : List Nat} {w : Nat -> List Nat} {c : Nat} (h : c ∈ U) : Ylt (kwd U w) (tkey [c]) = some (tx (w c)) := by
 unfold Ylt kwd
 induction U with
 | nil => cases h
 | cons u U ih =>
  by_cases e : u = c
  ·subst e; simp
  ·have hc : c ∈ U := by
    rcases ZAV.mp h with z | z
    ·exact absurd z.symm e
    ·exact z
   rw [List.map_cons, List.find?_cons_of_neg (by simp; intro z; exact e (VM z))]
   exact ih hc
theorem YhI {U : List Nat} {w : Nat -> List Nat} {c : Nat} (h : c ∉ U) : Ylt (kwd U w) (tkey [c]) = none := by
 unfold Ylt kwd
 rw [Option.map_eq_none_iff, ZBY]
 intro x hx
 obtain ⟨u, hu, rfl⟩ := ZA8.mp hx
 simp
 intro z
 rw [VM z] at hu
 exact h hu
theorem Vv {st : YkJ} {n : Nat} {kvs : List (Key × P)} {l : List Nat} {v : P} (h : st[n]? = some (.dct kvs)) (hv : Ylt kvs (tkey l) = some v) : ixP (.ref n) (tx l) st = some (v, st) := by
 show (match st[n]? with
  | some (.lst xs) => ixI xs (tx l) st
  | some (.ro xs) => ixI xs (tx l) st
  | some (.dct kvs) => (match YlQ (tx l) with
   | some k => (Ylt kvs k).map fun p => (p, st)
   | none => none)
  | _ => none) = _
 rw [h]
 show (Ylt kvs (tkey l)).map (fun p => (p, st)) = _
 rw [hv]; rfl
def fl (U : List Nat) (w : Nat -> List Nat) (c : Nat) : List Nat := if c ∈ U then w c else [c]
theorem Ydb {U : List Nat} {w : Nat -> List Nat} {l : List Nat} {k : Nat} {st : YkJ} (hk : st[k]? = some (.dct (kwd U w))) (hl : l.length <= 1000) (hb : (l.flatMap (fl U w)).length <= 100000) :
 Yw [tx l, .ref k] st = .ok (tx (l.flatMap (fl U w))) st := by
 unfold Yw ZR
 simp only [ZW]
 show 151
 rw [Zv l (fun c => tx [c]) (fun c => tx (fl U w c)) rfl (fun i hi => nxS hi) (by omega) (fun c hc => ⟨_, rfl, by
  rw [Ykh (d := YkH 1) (k := YkH 0) (x := YkH 0) (n := k) (kvs := kwd U w) (l := [c]) (z := tx [c]) rfl rfl rfl hk]
  by_cases h : c ∈ U
  ·rw [V4 h, show fl U w c = w c from ZAI h]; rfl
  ·rw [YhI h, show fl U w c = [c] from ZAJ h]; rfl⟩)]
 show 151
 rw [show (l.map fun c => tx (fl U w c)) = (l.map (fl U w)).map tx by rw [ZBA]; rfl, Jn (by rw [<- List.flatMap_def]; exact ZAH hb (by omega)), <- List.flatMap_def]
 rfl
def LS (U S l : List Nat) : Prop := ∀ c ∈ l, c ∈ U \/ c ∈ S
theorem LS.nil {U S : List Nat} : LS U S [] := fun c h => (by cases h)
theorem LS.app {U S a b : List Nat} (h1 : LS U S a) (h2 : LS U S b) : LS U S (a ++ b) := fun c h => (ZAY.mp h).elim (h1 c) (h2 c)
theorem LS.one {U S : List Nat} {c : Nat} (h : c ∈ U \/ c ∈ S) : LS U S [c] := fun d hd => by rw [ZAX.mp hd]; exact h
theorem V1 {k : Nat} {F : List Nat} {i : Int} {st : YkJ} (h : st[k]? = some (.lst (F.map fun c => tx [c]))) (h0 : 0 <= i) (h1 : i < F.length) : ∃ c, F[i.toNat]? = some c /\ c ∈ F /\ ixP (.ref k) (.int i) st = some (tx [c], st) := by
 have hi : i.toNat < F.length := by omega
 refine ⟨F[i.toNat], ZAR hi, ZAr hi, ZZ h h0 (by rw [ZAj, ZAR hi]; rfl)⟩
theorem YcB {U S used : List Nat} {ns : List Int} {kc ku : Nat} {st : YkJ} (hc : listAt st kc = some (ns.map P.int)) (hu : listAt st ku = some (U.map fun c => tx [c])) (hn : ns.length <= 3) (hU : U.length <= 6) (h1 : 1 <= S.length) (h4 : S.length <= 4) (hd : used.length <= 100) :
 ∃ l st', YO [.ref kc, tx used, .ref ku, tx S] st = .ok (tx l) st' /\ YkP st st' /\ LS U S l /\ l.length <= ns.length := by
 unfold YO WQ
 show 59
 rw [Zm hc]
 show 151
 rw [ZAO]
 obtain ⟨ρ', s', f1, l, v5, v6, f2, f3, f4, f5⟩ := ZA (src := Ymg kc ns.length) (g := YkM 5) (m := Wb) (N := ns.length) (ρ := [some (.ref kc), some (tx used), some (.ref ku), some (tx S), some (tx []), none, none]) (st := st) ns P.int
  (fun i ρ s => ∃ (l : List Nat) (v5 v6 : Option P), ρ = [some (.ref kc), some (tx used), some (.ref ku), some (tx S), some (tx l), v5, v6] /\ YkP st s /\ l.length = i /\ LS U S l) rfl (fun i ρ s hi ⟨_, _, _, _, g, _⟩ => nxK (g.listAt hc)) ⟨[], none, none, rfl, YkP.refl, rfl, LS.nil⟩
  (fun i hi ρ s ⟨l, v5, v6, q1, q2, q3, q4⟩ => by
   subst q1
   show 189
   unfold Wb
   show 151
   rw [Zm (q2.listAt hu)]
   show 151
   rw [ZAO, Z1 U (fun c => tx [c]) (fun c => decide ((((used ++ l).count c : Nat) : Int) < 2)) (fun c => tx [c]) rfl (fun i _ => nxK (q2.listAt hu)) (by omega) (fun c hc => ⟨_, rfl, by walk_at "ev", fun _ => by walk_at "ev"⟩)]
   show 151
   generalize hF : U.filter _ = F
   have hFU : ∀ c ∈ F, c ∈ U := fun c hc => by rw [<- hF] at hc; exact (ZBN.mp hc).1
   have hFl : F.length <= 6 := by rw [<- hF]; exact ZAH (ZBJ ..) hU
   generalize hA : s ++ [O.lst (F.map fun c => tx [c])] = A
   have kA : A[s.length]? = some (.lst (F.map fun c => tx [c])) := by rw [<- hA]; exact Yq
   have gA : YkP s A := by rw [<- hA]; exact YkP.one
   generalize hB : A ++ [O.lst []] = B
   have kB : B[A.length]? = some (.lst []) := by rw [<- hB]; exact Yq
   show 241
   rw [Ybc (Yk (gB.get kA)) (YaV F) (Yk kB)]
   show 151
   have sign : ∃ ρ' s', (RS.ofE [some (P.ref kc), some (tx used), some (P.ref ku), some (tx S), some (tx l), some (P.int ns[i]), some (P.ref s.length)] ((ofO (ixP (tx S) (P.int (ns[i] / 4 % ↑S.length)) B)).bind fun q st2 => ofO (YkY (tx l) q st2)) fun p st1 => RS.nx [some (P.ref kc), some (tx used), some (P.ref ku), some (tx S), some p, some (P.int ns[i]), some (P.ref s.length)] st1) = RS.nx ρ' s' /\
    ∃ l v5 v6, ρ' = [some (P.ref kc), some (tx used), some (P.ref ku), some (tx S), some (tx l), v5, v6] /\ YkP st s' /\ l.length = i + 1 /\ LS U S l := by
    obtain ⟨c, c1, c2⟩ := Wg (l := S) (st := B) (i := ns[i] / 4 % (S.length : Int)) (ZA7 _ (by omega)) (ZA3 _ (by omega)) (by omega)
    show 19
    exact ⟨_, _, rfl, l ++ [c], _, _, rfl, (q2.trans gA).trans gB, by rw [ZAK, ZAW, q3], q4.app (LS.one (.inr (ZBB c1)))⟩
   by_cases hz : F = []
   ·subst hz
    simp only [List.map_nil, List.isEmpty_nil, Bool.not_true, Bool.false_eq_true, if_false, R.bind_ok, RS.ofE_ok]
    exact sign
   ·have e : (F.map fun c => tx [c]).isEmpty = false := by cases F with | nil => exact absurd rfl hz | cons a r => rfl
    simp only [e, Bool.not_false, if_true, R.bind_ok, RS.ofE_ok]
    by_cases hg : 0 < ns[i] % 4
    ·rw [ZAS hg]
     have hF1 : 1 <= F.length := by cases F with | nil => exact absurd rfl hz | cons a r => simp
     simp only [if_true, ZC (gB.get kA), List.length_map]
     show 151
     obtain ⟨c, _, c1, c2⟩ := V1 (i := ns[i] / 4 % (F.length : Int)) (gB.get kA) (ZA7 _ (by omega)) (ZA3 _ (by omega))
     show 19
     exact ⟨_, _, rfl, l ++ [c], _, _, rfl, (q2.trans gA).trans gB, by rw [ZAK, ZAW, q3], q4.app (LS.one (.inl (hFU c c1)))⟩
    ·rw [ZAM hg]
     simp only [Bool.false_eq_true, if_false]
     exact sign)
 rw [f1, f2]
 show 151
 exact ⟨l, _, rfl, f3, f5, by omega⟩
theorem Yd8 {nc : MT} {m : MS} {K : Nat} (I : Nat -> Rho -> YkJ -> Prop) (J : Rho -> YkJ -> Prop) {ρ : Rho} {st : YkJ} (hK : K < 1000000) (h0 : I K ρ st)
 (step : ∀ k ρ st, I k ρ st -> (∃ st1, nc ρ st = .ok false st1 /\ J ρ st1) \/ ∃ st1, nc ρ st = .ok true st1 /\ ∃ ρ' st' k', m ρ st1 = .nx ρ' st' /\ k' < k /\ I k' ρ' st') : ∃ ρ' st', Ynb nc m ρ st = .nx ρ' st' /\ J ρ' st' := by
 have key : ∀ (n k : Nat) ρ st, k < n -> I k ρ st -> ∃ ρ' st', YlX nc m n ρ st = .nx ρ' st' /\ J ρ' st' := by
  intro n
  induction n with
  | zero => intro k ρ st h; omega
  | succ n ih =>
   intro k ρ st hk h
   rcases step k ρ st h with ⟨st1, h1, h2⟩ | ⟨st1, h1, ρ', st', k', h2, h3, h4⟩
   ·exact ⟨ρ, st1, by simp only [YlX, h1, RS.ofE_ok, Bool.false_eq_true, if_false], h2⟩
   ·obtain ⟨ρ2, st2, q1, q2⟩ := ih k' ρ' st' (by omega) h4
    exact ⟨ρ2, st2, by simp only [YlX, h1, RS.ofE_ok, if_true, h2, q1], q2⟩
 exact key turns K ρ st hK h0
theorem Yjq {i k : Nat} {m : MS} {ρ ρ' : Rho} {s : YkJ} {kvs : List (Key × P)} {o : O} (h1 : ρ[i]? = some (some (.ref k))) (h2 : s[k]? = some (.dct kvs)) (h3 : m ρ (s.set k (.fdc kvs)) = .nx ρ' (s.set k (.fdc kvs) ++ [o])) : Ynx i m ρ s = .nx ρ' (s ++ [o]) := by
 have hk : k < s.length := (ZAG.mp h2).1
 have e1 : (s.set k (.fdc kvs) ++ [o])[k]? = some (.fdc kvs) := by
  rw [ZAt (by rw [ZBX]; exact hk), ZAh hk]
 have e2 : (s.set k (O.fdc kvs) ++ [o]).set k (.dct kvs) = s ++ [o] := by
  rw [List.set_append_left _ _ (by rw [ZBX]; exact hk), List.set_set]
  congr 1
  have := (ZAG.mp h2).2
  rw [<- this, ZCZ]
 unfold Ynx
 rw [h1]
 simp only [h2, h3, e1, e2]
theorem Yg2 {me : ME} {ρ : Rho} {st : YkJ} {k : Nat} {kvs : List (Key × P)} (h : me ρ st = .ok (.ref k) st) (h2 : st[k]? = some (.fdc kvs)) : Ym0 me ρ st = .ok (Ymc kvs) st := by
 unfold Ym0
 rw [h]
 simp only [R.bind_ok, h2]
theorem Yof {U : List Nat} {w : Nat -> List Nat} {i : Nat} {st : YkJ} : (Ymc (kwd U w)).nx i st = some (U[i]?.map fun c => tx [c]) := by
 show some (((kwd U w)[i]?).map fun p => kP p.1) = _
 unfold kwd
 rw [ZAj, Option.map_map]
 rfl
theorem Yj2 {st : YkJ} {k : Nat} {kvs : List (Key × P)} {l : List Nat} {v : P} (h : st[k]? = some (.fdc kvs)) (hv : Ylt kvs (tkey l) = some v) : YnK (.ref k) (tx l) st = some (v, st) := by
 show (match st[k]? with | some (.fdc kvs) => (match YlQ (tx l) with | some key => (Ylt kvs key).map fun p => (p, st) | none => none) | _ => none) = _
 rw [h]
 show (Ylt kvs (tkey l)).map (fun p => (p, st)) = _
 rw [hv]; rfl
theorem Yc0 {U used l : List Nat} {w : Nat -> List Nat} {k : Nat} {s : YkJ} {v0 v1 v5 v6 v7 : Option P} (hk : s[k]? = some (.dct (kwd U w))) (hU : U.length <= 6) (hd : used.length <= 200) (hl : l.length <= 200) :
 Ynx 3 (YlU 6 (Ylj (Ym0 (YkH 3)) 1 [4, 2, 3] (YkM 0) (Yma (Ylb (YkK neP (YkK YnK (YkH 3) (YkH 0)) (eC (.str "")))) (Ylb (YkK ltP (eM isStr Yme (YkK YkY (YkH 2) (YkH 1)) (YkI (YkH 0) YkN)) (eC (.int 2))))) (YkH 0)))
  [v0, v1, some (tx used), some (.ref k), some (tx l), v5, v6, v7] s = .nx [v0, v1, some (tx used), some (.ref k), some (tx l), v5, some (.ref s.length), v7] (s ++ [.lst ((U.filter fun c => (!decide (w c = [])) && decide ((((used ++ l).count c : Nat) : Int) < 2)).map fun c => tx [c])]) := by
 refine Yjq (k := k) (kvs := kwd U w) rfl hk ?_
 have hs : k < s.length := (ZAG.mp hk).1
 have hf : (s.set k (.fdc (kwd U w)))[k]? = some (.fdc (kwd U w)) := ZAh hs
 have hsl : (s.set k (.fdc (kwd U w))).length = s.length := ZBX ..
 generalize s.set k (.fdc (kwd U w)) = A at hf hsl
 show 59
 rw [Yg2 (k := k) (kvs := kwd U w) rfl hf]
 show 151
 have hn : (Ymc (kwd U w)).n = U.length := by show (kwd U w).length = _; unfold kwd; exact List.length_map ..
 rw [hn, Z1 U (fun c => tx [c]) (fun c => (!decide (w c = [])) && decide ((((used ++ l).count c : Nat) : Int) < 2)) (fun c => tx [c]) rfl (fun i _ => Yof) (by omega) (fun c hc => ⟨_, rfl, by
  show 151
  rw [Yj2 hf (V4 hc)]
  show 151
  by_cases h : w c = []
  ·rw [ZAS h]; rfl
  ·rw [ZAM h]; rfl, fun _ => by walk_at "ev"⟩)]
 show 151
 rw [hsl]
theorem Yd4 {U v F : List Nat} {w : Nat -> List Nat} {k kf at' : Nat} {s : YkJ} {v1 v2 v4 v7 : Option P} (hk : s[k]? = some (.dct (kwd U w))) (hf : listAt s kf = some (F.map fun c => tx [c])) (hFU : ∀ c ∈ F, c ∈ U) (hF : F.length <= 6) (hv : v.length <= 200) (hw : ∀ u ∈ U, (w u).length <= 3) :
 YlU 6 (Ylj (YlP (YkH 6)) 1 [5, 0, 3] (YkM 0) (Ylb (YkK eqP (eSl (YkH 2) (Yli (YkH 1)) (Yli (YkK YkY (YkH 1) (eB Yln (YkI (YkK ixP (YkH 3) (YkH 0)) YkN))))) (YkK ixP (YkH 3) (YkH 0)))) (YkH 0))
  [some (tx v), v1, v2, some (.ref k), v4, some (.int (at' : Nat)), some (.ref kf), v7] s = .nx [some (tx v), v1, v2, some (.ref k), v4, some (.int (at' : Nat)), some (.ref s.length), v7] (s ++ [.lst ((F.filter fun c => decide ((v.drop at').take (w c).length = w c)).map fun c => tx [c])]) := by
 show 151
 rw [Zm hf]
 show 151
 rw [ZAO, Z1 F (fun c => tx [c]) (fun c => decide ((v.drop at').take (w c).length = w c)) (fun c => tx [c]) rfl (fun i _ => nxK hf) (by omega) (fun c hc => ⟨_, rfl, by
  have hcU := hFU c hc
  have h3 := hw c hcU
  show 151
  rw [Vv hk (V4 hcU)]
  show 151
  rw [show ((at' : Nat) : Int) + (((w c).length : Nat) : Int) = ((at' + (w c).length : Nat) : Int) by omega, Ygz (by omega) (by omega), ZCO]
  show 151
  rw [Vv hk (V4 hcU)]
  walk_at "ev", fun _ => by walk_at "ev"⟩)]
 show 151
theorem Yda {U S v used l : List Nat} {w : Nat -> List Nat} {cell : Int} {k at' : Nat} {s : YkJ} {v6 v7 : Option P} (hk : s[k]? = some (.dct (kwd U w))) (hU : U.length <= 6) (hv : ∀ c ∈ v, c ∈ S) (hvl : v.length <= 100) (hd : used.length <= 100) (hw : ∀ u ∈ U, (w u).length <= 3)
 (hat : at' < v.length) (hl : l.length <= at') (hL : LS U S l) :
 ∃ l' a' v6' v7' s', Zs [some (tx v), some (.int cell), some (tx used), some (.ref k), some (tx l), some (.int (at' : Nat)), v6, v7] s = .nx [some (tx v), some (.int cell), some (tx used), some (.ref k), some (tx l'), some (.int (a' : Nat)), v6', v7'] s' /\ YkP s s' /\ at' < a' /\ a' <= v.length /\ l'.length <= a' /\ LS U S l' := by
 unfold Zs
 rw [Ze, Yc0 hk hU (by omega) (by omega)]
 rw [RS.seq_nx]
 generalize hF : U.filter _ = F
 have hF1 : ∀ c ∈ F, c ∈ U /\ w c ≠ [] := fun c hc => by
  rw [<- hF] at hc
  obtain ⟨a, b⟩ := ZBN.mp hc
  refine ⟨a, fun z => ?_⟩
  rw [ZAS z] at b
  simp at b
 have hFl : F.length <= 6 := by rw [<- hF]; exact ZAH (ZBJ ..) hU
 generalize hA : s ++ [O.lst (F.map fun c => tx [c])] = A
 have kA : A[s.length]? = some (.lst (F.map fun c => tx [c])) := by rw [<- hA]; exact Yq
 have gA : YkP s A := by rw [<- hA]; exact YkP.one
 rw [Ze, Yd4 (gA.get hk) (Yk kA) (fun c hc => (hF1 c hc).1) hFl (by omega) hw]
 rw [RS.seq_nx]
 generalize hG : F.filter _ = G
 have hG1 : ∀ c ∈ G, c ∈ U /\ w c ≠ [] /\ (v.drop at').take (w c).length = w c := fun c hc => by
  rw [<- hG] at hc
  obtain ⟨a, b⟩ := ZBN.mp hc
  exact ⟨(hF1 c a).1, (hF1 c a).2, ZAs b⟩
 have hGl : G.length <= 6 := by rw [<- hG]; exact ZAH (ZBJ ..) hFl
 generalize hB : A ++ [O.lst (G.map fun c => tx [c])] = B
 have kB : B[A.length]? = some (.lst (G.map fun c => tx [c])) := by rw [<- hB]; exact Yq
 show 241
 obtain ⟨m, z1, z2⟩ := mixed (a := cell) (b := 60 + (at' : Int)) (st := B) (by omega) (by omega)
 show 151
 rw [z1]
 show 151
 generalize hC : B ++ [O.lst []] = C
 have kC : C[B.length]? = some (.lst []) := by rw [<- hC]; exact Yq
 have gC : YkP B C := by rw [<- hC]; exact YkP.one
 have g : YkP s C := (gA.trans gB).trans gC
 rw [Ybc (Yk (gC.get kB)) (YaV G) (Yk kC)]
 show 151
 have plain : ∃ l' a' v6' v7' s', ((RS.ofE [some (tx v), some (P.int cell), some (tx used), some (P.ref k), some (tx l), some (P.int ↑at'), some (P.ref A.length), some (P.int m)] ((ofO (ixP (tx v) (P.int ↑at') C)).bind fun q st2 => ofO (YkY (tx l) q st2)) fun p st1 => RS.nx [some (tx v), some (P.int cell), some (tx used), some (P.ref k), some p, some (P.int ↑at'), some (P.ref A.length), some (P.int m)] st1).seq (Yk2 5 (YkK YkY (YkH 5) (eC (P.int 1))))) =
  RS.nx [some (tx v), some (.int cell), some (tx used), some (.ref k), some (tx l'), some (.int (a' : Nat)), v6', v7'] s' /\ YkP s s' /\ at' < a' /\ a' <= v.length /\ l'.length <= a' /\ LS U S l' := by
  obtain ⟨c, c1, c2⟩ := Wg (l := v) (st := C) (i := (at' : Int)) (by omega) (by omega) (by omega)
  show 19
  refine ⟨l ++ [c], at' + 1, some (.ref A.length), some (.int m), C, by rw [show ((at' + 1 : Nat) : Int) = (at' : Int) + 1 by omega], g, by omega, by omega, by rw [ZAK, ZAW]; omega, hL.app (LS.one (.inr (hv c (ZBB c1))))⟩
 by_cases hz : G = []
 ·subst hz
  rw [ZBh, List.isEmpty_nil, Bool.not_true, ZAJ ZAQ, RS.ofE_ok, ZAJ ZAQ]
  exact plain
 ·have e : (G.map fun c => tx [c]).isEmpty = false := by cases G with | nil => exact absurd rfl hz | cons a r => rfl
  rw [e, Bool.not_false, ZAI rfl, RS.ofE_ok]
  by_cases hg : 0 < m % 4
  ·have hG0 : 1 <= G.length := by cases G with | nil => exact absurd rfl hz | cons a r => simp
   rw [ZAS hg, ZAI rfl, ZC (gC.get kB), ZAO]
   show 151
   obtain ⟨c, _, c1, c2⟩ := V1 (i := m / 4 % (G.length : Int)) (gC.get kB) (ZA7 _ (by omega)) (ZA3 _ (by omega))
   show 19
   rw [ZC (gC.get kB), ZAO]
   show 151
   show 19
   obtain ⟨cU, cn, ct⟩ := hG1 c c1
   have c3 := hw c cU
   rw [Vv (g.get hk) (V4 cU)]
   show 151
   have hlen : at' + (w c).length <= v.length := by
    have := ZBj List.length ct
    rw [ZAu, ZAi] at this
    omega
   have hpos : 0 < (w c).length := List.length_pos_iff.mpr cn
   refine ⟨l ++ [c], at' + (w c).length, some (.ref A.length), some (.int m), C, by rw [show ((at' + (w c).length : Nat) : Int) = (at' : Int) + ((w c).length : Int) by omega], g, by omega, hlen, by rw [ZAK, ZAW]; omega, hL.app (LS.one (.inl cU))⟩
  ·rw [ZAM hg, ZAJ ZAQ]
   exact plain
theorem Yd7 {U S v used : List Nat} {w : Nat -> List Nat} {cell : Int} {k : Nat} {st : YkJ} (hk : st[k]? = some (.dct (kwd U w))) (hU : U.length <= 6) (hv : ∀ c ∈ v, c ∈ S) (hvl : v.length <= 100) (hd : used.length <= 100) (hw : ∀ u ∈ U, (w u).length <= 3) :
 ∃ l st', YB [tx v, .int cell, tx used, .ref k] st = .ok (tx l) st' /\ YkP st st' /\ LS U S l /\ l.length <= v.length := by
 unfold YB Z9
 show 59
 obtain ⟨ρ', s', f1, l, v6, v7, a, f2, f3, f4, f5⟩ := Yd8 (nc := Ylb (YkK ltP (YkH 5) (eB Yln (YkI (YkH 0) YkN)))) (m := Zs) (K := v.length)
  (fun n ρ s => ∃ (l : List Nat) (v6 v7 : Option P) (a : Nat), ρ = [some (tx v), some (.int cell), some (tx used), some (.ref k), some (tx l), some (.int (a : Nat)), v6, v7] /\ YkP st s /\ n = v.length - a /\ a <= v.length /\ l.length <= a /\ LS U S l)
  (fun ρ s => ∃ (l : List Nat) (v6 v7 : Option P) (a : Int), ρ = [some (tx v), some (.int cell), some (tx used), some (.ref k), some (tx l), some (.int a), v6, v7] /\ YkP st s /\ LS U S l /\ l.length <= v.length) (ρ := [some (tx v), some (.int cell), some (tx used), some (.ref k), some (tx []), some (.int (0 : Nat)), none, none]) (st := st) (by omega)
  ⟨[], none, none, 0, rfl, YkP.refl, by omega, by omega, by simp, LS.nil⟩
  (fun n ρ s ⟨l, v6, v7, a, q1, q2, q3, q4, q5, q6⟩ => by
   subst q1
   by_cases h : a < v.length
   ·refine .inr ⟨s, by walk_at "ev"; rw [ZAS (by omega)], ?_⟩
    obtain ⟨l', a', v6', v7', s', r1, r2, r3, r4, r5, r6⟩ := Yda (cell := cell) (used := used) (s := s) (v6 := v6) (v7 := v7) (q2.get hk) hU hv hvl hd hw h q5 q6
    exact ⟨_, s', v.length - a', r1, by omega, l', v6', v7', a', rfl, q2.trans r2, rfl, r4, r5, r6⟩
   ·exact .inl ⟨s, by walk_at "ev"; rw [ZAM (by omega)], l, v6, v7, a, rfl, q2, q6, by omega⟩)
 rw [show (P.int 0) = P.int ((0 : Nat) : Int) from rfl, f1, f2]
 show 151
 exact ⟨l, _, rfl, f3, f4, f5⟩
theorem Yna {a b : Int} (h : a = b) : (a == b) = true := beq_iff_eq.mpr h
theorem Ym8 {a b : Int} (h : ¬ a = b) : (a == b) = false := beq_eq_false_iff_ne.mpr h
abbrev Sys := List (List Nat × List Nat)
def YkW (e : List Nat × List Nat) : P := .tup [tx e.1, tx e.2]
def Yk7 (tb : Sys) : List Nat := tb.flatMap fun e => e.1 ++ e.2
theorem mem_allL {tb : Sys} {c : Nat} : c ∈ Yk7 tb ↔ ∃ e ∈ tb, c ∈ e.1 \/ c ∈ e.2 := by
 unfold Yk7
 simp [List.mem_flatMap]
theorem Yb4 {n : Nat} (h : 0 < n) : ixN n (-1) = some (n - 1) := by
 unfold ixN
 rw [ZAJ (by omega), ZAI (by omega)]
 congr 1
 omega
theorem Yah {k : Nat} {xs : List P} {x : P} {st : YkJ} (hk : st[k]? = some (.lst (xs ++ [x]))) : ixP (.ref k) (.int (-1)) st = some (x, st) := by
 unfold ixP
 simp only [hk]
 show (atI (xs ++ [x]) (-1)).map (fun p => (p, st)) = _
 unfold atI
 rw [Yb4 (by simp)]
 simp
theorem YcU {k : Nat} {xs : List P} {x v : P} {st : YkJ} (hk : st[k]? = some (.lst (xs ++ [x]))) : Ym1 (.ref k) (.int (-1)) v st = some (st.set k (.lst (xs ++ [v]))) := by
 unfold Ym1
 simp only [hk, Yb4 (show 0 < (xs ++ [x]).length by simp)]
 simp
theorem LS.take {U S l : List Nat} (h : LS U S l) (n : Nat) : LS U S (l.take n) := fun c hc => h c (ZBS hc)
theorem LS.drop {U S l : List Nat} (h : LS U S l) (n : Nat) : LS U S (l.drop n) := fun c hc => h c (ZCe hc)
theorem Ygq {U S l : List Nat} {cell : Int} {st : YkJ} (h1 : 1 <= S.length) (h4 : S.length <= 4) (hl : l.length <= 100) (hL : LS U S l) :
 ∃ l', Y3 [tx l, .int cell, tx S] st = .ok (tx l') st /\ LS U S l' /\ l'.length <= l.length + 1 := by
 unfold Y3 WS
 obtain ⟨a, ha, hal⟩ : ∃ a : Nat, cell / 3 % ((l.length : Int) + 1) = (a : Int) /\ a <= l.length := ⟨(cell / 3 % ((l.length : Int) + 1)).toNat, by
  have := ZA7 (cell / 3) (b := (l.length : Int) + 1) (by omega)
  omega, by
  have := ZA3 (cell / 3) (b := (l.length : Int) + 1) (by omega)
  omega⟩
 obtain ⟨c, c1, c2⟩ := Wg (l := S) (st := st) (i := cell / 48 % (S.length : Int)) (ZA7 _ (by omega)) (ZA3 _ (by omega)) (by omega)
 have hcS : c ∈ S := ZBB c1
 have q1 : LS U S ((l.take a ++ [c]) ++ l.drop a) := ((hL.take a).app (LS.one (.inr hcS))).app (hL.drop a)
 have q2 : LS U S ((l.take a ++ [c]) ++ l.drop (a + 1)) := ((hL.take a).app (LS.one (.inr hcS))).app (hL.drop (a + 1))
 have n1 : ((l.take a ++ [c]) ++ l.drop a).length <= l.length + 1 := by
  simp only [List.length_append, List.length_take, List.length_drop, List.length_singleton]; omega
 have n2 : ((l.take a ++ [c]) ++ l.drop (a + 1)).length <= l.length + 1 := by
  simp only [List.length_append, List.length_take, List.length_drop, List.length_singleton]; omega
 have t1 : (l.take a).length <= 100 := by rw [ZAu]; omega
 have t2 : (l.drop a).length <= 100 := by rw [ZAi]; omega
 have t3 : (l.drop (a + 1)).length <= 100 := by rw [ZAi]; omega
 show 150
 rw [ha]
 show 150
 rw [c2]
 show 150
 by_cases h3 : cell % 3 = 0
 ·rw [Yna h3]
  show 150
  by_cases ha2 : (a : Int) < (l.length : Int)
  ·rw [ZAS ha2]
   show 150
   obtain ⟨d, d1, d2⟩ := Wg (l := l) (st := st) (i := (a : Int)) (by omega) (by omega) (by omega)
   rw [d2]
   show 150
   rw [Ycq, Ydn]
   show 150
   by_cases hd : d ∈ S
   ·rw [ZAS hd]
    show 150
    rw [show (a : Int) + 1 = ((a + 1 : Nat) : Int) by omega, YaM (by omega)]
    show 150
    exact ⟨_, rfl, q2, n2⟩
   ·rw [ZAM hd]
    show 150
    exact ⟨_, rfl, q1, n1⟩
  ·rw [ZAM ha2]
   show 150
   exact ⟨_, rfl, q1, n1⟩
 ·rw [Ym8 h3]
  show 150
  exact ⟨_, rfl, q1, n1⟩
theorem YaR {U : List Nat} {w : Nat -> List Nat} (hw : ∀ u ∈ U, (w u).length <= 3) : ∀ (l : List Nat), (l.flatMap (fl U w)).length <= 3 * l.length
 | [] => by simp
 | c :: l => by
  have ih := YaR hw l
  rw [ZCF, ZAK, ZBk]
  have : (fl U w c).length <= 3 := by
   unfold fl
   split
   ·rename_i h; exact hw c h
   ·simp
  omega
theorem Yj8 {U S : List Nat} {w : Nat -> List Nat} {l : List Nat} (hS : ∀ u ∈ U, ∀ c ∈ w u, c ∈ S) (hL : LS U S l) : ∀ c ∈ l.flatMap (fl U w), c ∈ S := fun c hc => by
 obtain ⟨d, hd, hcd⟩ := List.mem_flatMap.mp hc
 unfold fl at hcd
 split at hcd
 ·rename_i h; exact hS d h c hcd
 ·rename_i h
  rw [ZAX.mp hcd]
  rcases hL d hd with z | z
  ·exact absurd z h
  ·exact z
theorem Vy {cs : List Int} {kc : Nat} {s : YkJ} (hk : s[kc]? = some (.lst (cs.map P.int))) (i : Nat) (hi : i < cs.length) : ixP (.ref kc) (.int (i : Nat)) s = some (.int (cs.getD i 0), s) :=
 ZZ hk (by omega) (by rw [ZAn, ZAj, (ZV (l := cs) (d := 0) hi).2]; rfl)
structure Ok (U S : List Nat) (tb : Sys) : Prop where
 ne : tb ≠ []
 two : tb.length <= 2
 a : ∀ e ∈ tb, LS U S e.1 /\ e.1.length <= 10
 b : ∀ e ∈ tb, LS U S e.2 /\ e.2.length <= 10
structure Wd (U S : List Nat) (w : Nat -> List Nat) : Prop where
 six : U.length <= 6
 len : ∀ u ∈ U, (w u).length <= 3
 inn : ∀ u ∈ U, ∀ c ∈ w u, c ∈ S
 s1 : 1 <= S.length
 s4 : S.length <= 4
theorem pair {U S used : List Nat} {w : Nat -> List Nat} {cell : Int} {l : List Nat} {kw : Nat} {st : YkJ} (D : Wd U S w) (hk : st[kw]? = some (.dct (kwd U w))) (hl : l.length <= 3) (hL : LS U S l) (hd : used.length <= 100) :
 ∃ r st', Yw [tx l, .ref kw] st = .ok (tx (l.flatMap (fl U w))) st /\ YB [tx (l.flatMap (fl U w)), .int cell, tx used, .ref kw] st = .ok (tx r) st' /\ YkP st st' /\ LS U S r /\ r.length <= 9 := by
 have h9 := YaR D.len l
 obtain ⟨r, st', h1, h2, h3, h4⟩ := Yd7 (S := S) (v := l.flatMap (fl U w)) (used := used) (cell := cell) hk D.six (Yj8 D.inn hL) (by omega) hd D.len
 exact ⟨r, st', Ydb hk (by omega) (by omega), h1, h2, h3, by omega⟩
theorem Yj3 {U S l r : List Nat} {w : Nat -> List Nat} {cs : List Int} {kc ku kw k6 : Nat} {s : YkJ} (D : Wd U S w) (hc : s[kc]? = some (.lst (cs.map P.int))) (h8 : cs.length = 8) (hu : listAt s ku = some (U.map fun c => tx [c])) (hw : s[kw]? = some (.dct (kwd U w)))
 (h6 : s[k6]? = some (.lst [YkW (l, r)])) (hl : LS U S l /\ l.length <= 3) (hr : LS U S r /\ r.length <= 9) :
 ∃ v7 v8 s' tb, (sIf (Ylb (YkK eqP (YkK Yla (YkK ixP (YkH 0) (eC (.int 4))) (eC (.int 3))) (eC (.int 1))))
 (YkT (Yk2 7 (YkX 4 YO (YkI (eSl (YkH 0) (Yli (eC (.int 5))) (Yli (eC (.int 7)))) (YkI (YkK YkY (YkH 4) (YkH 5)) (YkI (YkH 1) (YkI (YkH 3) YkN))))))
 (YkT (Yk2 8 (YkK YkY (YkK YkY (YkH 4) (YkH 5)) (YkH 7)))
 (Ymf (eM Ymr YlL (YkH 6) (YkI (Yl1 (YkI (YkH 7) (YkI (YkX 4 YB (YkI (YkX 2 Yw (YkI (YkH 7) (YkI (YkH 2) YkN))) (YkI (YkK ixP (YkH 0) (eC (.int 7))) (YkI (YkH 8) (YkI (YkH 2) YkN))))) YkN))) YkN)))))
 YlG) [some (.ref kc), some (.ref ku), some (.ref kw), some (tx S), some (tx l), some (tx r), some (.ref k6), none, none, none, none] s =
  .nx [some (.ref kc), some (.ref ku), some (.ref kw), some (tx S), some (tx l), some (tx r), some (.ref k6), v7, v8, none, none] s' /\ s'[k6]? = some (.lst (tb.map YkW)) /\ Ok U S tb /\ (∀ a, YkP a s -> a.length <= k6 -> YkP a s') := by
 have i4 : ixP (.ref kc) (.int 4) s = some (.int (cs.getD 4 0), s) := Vy hc 4 (by omega)
 show 150
 rw [i4]
 show 150
 have one : Ok U S [(l, r)] := ⟨by simp, by simp, fun e he => by rw [List.mem_singleton.mp he]; exact ⟨hl.1, Nat.le_trans hl.2 (by decide)⟩, fun e he => by rw [List.mem_singleton.mp he]; exact ⟨hr.1, Nat.le_trans hr.2 (by decide)⟩⟩
 by_cases h : cs.getD 4 0 % 3 = 1
 ·rw [Yna h]
  show 150
  have e2 : slP (.ref kc) (some 5) (some 7) s = some (.ref s.length, s ++ [.lst (((cs.drop 5).take 2).map P.int)]) := by
   rw [YcG hc (by rw [ZAO]; omega)]
   rw [show YlJ (cs.map P.int) (some 5) (some 7) = ((cs.drop 5).take 2).map P.int from YdK (a := 5) (b := 7) (by omega)]
  show 102
  generalize hA : s ++ [O.lst (((cs.drop 5).take 2).map P.int)] = A
  have kA : A[s.length]? = some (.lst (((cs.drop 5).take 2).map P.int)) := by rw [<- hA]; exact Yq
  have gA : YkP s A := by rw [<- hA]; exact YkP.one
  have hn : ((cs.drop 5).take 2).length <= 2 := by rw [ZAu]; omega
  have hlr : (l ++ r).length <= 12 := by rw [ZAK]; omega
  obtain ⟨o, s1, o1, o2, o3, o4⟩ := YcB (S := S) (used := l ++ r) (Yk kA) (gA.listAt hu) (by omega) D.six D.s1 D.s4 (by omega)
  rw [o1]
  have hol : o.length <= 3 := by omega
  show 150
  rw [JH ((gA.trans o2).get h6)]
  show 150
  obtain ⟨q, s2, q1, q2, q3, q4, q5⟩ := pair (used := l ++ r ++ o) (cell := cs.getD 7 0) D ((gA.trans o2).get hw) hol o3 (by rw [ZAK]; omega)
  have i7 : ixP (.ref kc) (.int 7) s1 = some (.int (cs.getD 7 0), s1) := Vy ((gA.trans o2).get hc) 7 (by omega)
  rw [q1]
  show 150
  rw [i7]
  show 150
  rw [q2]
  show 150
  rw [VH (((gA.trans o2).trans q3).get h6) (by simp)]
  show 150
  have hk6 : k6 < s2.length := (ZAG.mp (((gA.trans o2).trans q3).get h6)).1
  refine ⟨_, _, _, [(l, r), (o, q)], rfl, List.getElem?_set_self hk6, ⟨by simp, by simp, fun e he => ?_, fun e he => ?_⟩, fun a g hk => ?_⟩
  ·rcases ZAV.mp he with rfl | he
   ·exact ⟨hl.1, ZAH hl.2 (by decide)⟩
   ·rw [ZAX.mp he]; exact ⟨o3, ZAH hol (by decide)⟩
  ·rcases ZAV.mp he with rfl | he
   ·exact ⟨hr.1, ZAH hr.2 (by decide)⟩
   ·rw [ZAX.mp he]; exact ⟨q4, ZAH q5 (by decide)⟩
  ·exact YkP.set (((g.trans gA).trans o2).trans q3) hk
 ·rw [Ym8 h]
  show 150
  exact ⟨_, _, _, [(l, r)], rfl, h6, one, fun a g _ => g⟩
theorem YjR {U S l r : List Nat} {w : Nat -> List Nat} {cs : List Int} {kc ku kw k6 : Nat} {s : YkJ} {tb : Sys} {v7 v8 : Option P} (D : Wd U S w) (hc : s[kc]? = some (.lst (cs.map P.int))) (h8 : cs.length = 8)
 (h6 : s[k6]? = some (.lst (tb.map YkW))) (O' : Ok U S tb) :
 ∃ v9 v10 s' tb', (sIf (Ylb (YkK eqP (YkK Yla (YkK Ylg (YkK ixP (YkH 0) (eC (.int 4))) (eC (.int 3))) (eC (.int 2))) (eC (.int 1))))
 (YkT (YnO (YkK ixP (YkH 6) (YmT (eC (.int 1)))) (YlK 2 (Yk8 (YkM 9) (Yk8 (YkM 10) YlR))))
 (YnJ (YkH 6) (YmT (eC (.int 1))) (Yl1 (YkI (YkH 9) (YkI (YkX 3 Y3 (YkI (YkH 10) (YkI (YkK Ylg (YkK ixP (YkH 0) (eC (.int 4))) (eC (.int 6))) (YkI (YkH 3) YkN)))) YkN)))))
 YlG) [some (.ref kc), some (.ref ku), some (.ref kw), some (tx S), some (tx l), some (tx r), some (.ref k6), v7, v8, none, none] s =
  .nx [some (.ref kc), some (.ref ku), some (.ref kw), some (tx S), some (tx l), some (tx r), some (.ref k6), v7, v8, v9, v10] s' /\ s'[k6]? = some (.lst (tb'.map YkW)) /\ tb' ≠ [] /\ tb'.length <= 2 /\ (∀ e ∈ tb', LS U S e.1 /\ e.1.length <= 11 /\ LS U S e.2 /\ e.2.length <= 11) /\ (∀ a, YkP a s -> a.length <= k6 -> YkP a s') := by
 have i4 : ixP (.ref kc) (.int 4) s = some (.int (cs.getD 4 0), s) := Vy hc 4 (by omega)
 show 150
 rw [i4]
 show 150
 by_cases h : cs.getD 4 0 / 3 % 2 = 1
 ·rw [Yna h]
  show 150
  obtain ⟨ini, e, he⟩ : ∃ ini e, tb = ini ++ [e] := ⟨tb.dropLast, tb.getLast O'.ne, (ZB2 O'.ne).symm⟩
  subst he
  rw [ZAf, ZAe, ZBh] at h6
  have hem : e ∈ ini ++ [e] := by simp
  obtain ⟨a1, a2⟩ := O'.a e hem
  obtain ⟨b1, b2⟩ := O'.b e hem
  rw [Yah h6]
  unfold YkW
  show 150
  rw [i4]
  show 150
  obtain ⟨q, q1, q2, q3⟩ := Ygq (st := s) (cell := cs.getD 4 0 / 6) D.s1 D.s4 (by omega) b1
  rw [q1]
  show 150
  rw [YcU h6]
  show 150
  have hk6 : k6 < s.length := (ZAG.mp h6).1
  refine ⟨_, _, _, ini ++ [(e.1, q)], rfl, ?_, by simp, by have := O'.two; simpa using this, fun d hd => ?_, fun a g hk => YkP.set g hk⟩
  ·rw [ZAh hk6, ZAf]; rfl
  ·rcases ZAY.mp hd with z | z
   ·have y1 := O'.a d (ZAo _ z)
    have y2 := O'.b d (ZAo _ z)
    exact ⟨y1.1, by omega, y2.1, by omega⟩
   ·rw [ZAX.mp z]
    exact ⟨a1, ZAH a2 (by decide), q2, ZAH q3 (by omega)⟩
 ·rw [Ym8 h]
  show 150
  refine ⟨_, _, _, tb, rfl, h6, O'.ne, O'.two, fun d hd => ?_, fun a g _ => g⟩
  have y1 := O'.a d hd
  have y2 := O'.b d hd
  exact ⟨y1.1, by omega, y2.1, by omega⟩
structure Drawn (U S : List Nat) (tb : Sys) : Prop where
 ne : tb ≠ []
 two : tb.length <= 2
 a : ∀ e ∈ tb, LS U S e.1 /\ e.1.length <= 11 /\ LS U S e.2 /\ e.2.length <= 11
theorem Ydh {U S : List Nat} {w : Nat -> List Nat} {cs : List Int} {kc ku kw : Nat} {st : YkJ} (D : Wd U S w) (hc : st[kc]? = some (.lst (cs.map P.int))) (h8 : cs.length = 8) (hu : listAt st ku = some (U.map fun c => tx [c])) (hw : st[kw]? = some (.dct (kwd U w))) :
 ∃ tb st', YZ [.ref kc, .ref ku, .ref kw, tx S] st = .ok (.tup (tb.map YkW)) st' /\ YkP st st' /\ Drawn U S tb := by
 unfold YZ ZS
 show 268
 have e1 : slP (.ref kc) none (some 3) st = some (.ref st.length, st ++ [.lst ((cs.take 3).map P.int)]) := by
  rw [YcG hc (by rw [ZAO]; omega), show YlJ (cs.map P.int) none (some 3) = (cs.map P.int).take 3 from YfA (b := 3), ZB8]
 rw [YgB]
 rw [Ze, Ybk, YdG]
 show 150
 rw [e1]
 show 150
 generalize hA : st ++ [O.lst ((cs.take 3).map P.int)] = A
 have kA : A[st.length]? = some (.lst ((cs.take 3).map P.int)) := by rw [<- hA]; exact Yq
 have gA : YkP st A := by rw [<- hA]; exact YkP.one
 have hn : (cs.take 3).length <= 3 := by rw [ZAu]; omega
 obtain ⟨l, s1, l1, l2, l3, l4⟩ := YcB (S := S) (used := []) (Yk kA) (gA.listAt hu) (by omega) D.six D.s1 D.s4 (by simp)
 rw [l1]
 show 150
 have g1 : YkP st s1 := gA.trans l2
 obtain ⟨r, s2, r1, r2, r3, r4, r5⟩ := pair (used := l) (cell := cs.getD 3 0) D (g1.get hw) (by omega) l3 (by omega)
 have i3 : ixP (.ref kc) (.int 3) s1 = some (.int (cs.getD 3 0), s1) := Vy (g1.get hc) 3 (by omega)
 show 41
 rw [i3]
 show 150
 rw [r2]
 have g2 : YkP st s2 := g1.trans r3
 have gB : YkP s2 (s2 ++ [O.lst [YkW (l, r)]]) := YkP.one
 have kB : (s2 ++ [O.lst [YkW (l, r)]])[s2.length]? = some (.lst [YkW (l, r)]) := Yq
 have hB : s2 ++ [O.lst [P.tup [tx l, tx r]]] = s2 ++ [O.lst [YkW (l, r)]] := rfl
 obtain ⟨v7, v8, s3, tb, a1, a2, a3, a4⟩ := Yj3 (r := r) D ((g2.trans gB).get hc) h8 ((g2.trans gB).listAt hu) ((g2.trans gB).get hw) kB ⟨l3, by omega⟩ ⟨r4, r5⟩
 have g3 : YkP st s3 := a4 st (g2.trans gB) g2.len
 obtain ⟨v9, v10, s4, tb', b1, b2, b3, b4, b5, b6⟩ := YjR (l := l) (r := r) (ku := ku) (kw := kw) (v7 := v7) (v8 := v8) D (g3.get hc) h8 a2 a3
 have g4 : YkP st s4 := b6 st g3 g2.len
 have i4 : ixP (.ref kc) (.int 4) s4 = some (.int (cs.getD 4 0), s4) := Vy (g4.get hc) 4 (by omega)
 have cp2 : [tx l, tx r].length <= cap := (by show 2 <= 1000000; decide)
 have cp1 : [P.tup [tx l, tx r]].length <= cap := (by show 1 <= 1000000; decide)
 simp only [if_pos cp2, if_pos cp1, Yca, RS.ofE_ok, RS.seq_nx, Ze, Ybk, Ygr, Yh4, Ybl, YcQ, Yc2, Yc8, R.bind_ok, List.set_cons_succ, List.set_cons_zero, List.getElem?_cons_succ, List.getElem?_cons_zero, WL]
 rw [hB, a1, RS.seq_nx, Ze, b1, RS.seq_nx]
 show 150
 rw [i4]
 show 150
 by_cases h : cs.getD 4 0 / 3 % 7 = 2
 ·rw [Yna h]
  show 150
  rw [Zm (Yk b2)]
  show 150
  rw [ZAO, Zv tb' YkW (fun e => YkW (e.2, e.1)) rfl (fun i _ => nxK (Yk b2)) (by omega) (fun e he => ⟨_, rfl, by walk_at "ev"; rfl⟩)]
  show 150
  rw [Yak (Yk Yq)]
  show 150
  refine ⟨tb'.map fun e => (e.2, e.1), _, by rw [List.map_map]; rfl, g4.trans YkP.one, ⟨by simpa using b3, by rw [List.length_map]; exact b4, fun e he => ?_⟩⟩
  obtain ⟨d, hd, rfl⟩ := ZA8.mp he
  obtain ⟨y1, y2, y3, y4⟩ := b5 d hd
  exact ⟨y3, y4, y1, y2⟩
 ·rw [Ym8 h]
  show 150
  rw [Yak (Yk b2)]
  show 150
  exact ⟨tb', _, rfl, g4, ⟨b3, b4, b5⟩⟩
theorem Yb5 {d : Nat} : ∀ N : List Nat, ((N.map fun c => tx [c]).any fun y => eqF y (tx [d])) = decide (d ∈ N)
 | [] => rfl
 | c :: N => by
  rw [ZAe, ZBM, Yb5 N]
  have e : eqF (tx [c]) (tx [d]) = decide (d = c) := by
   show (sT [c] == sT [d]) = _
   rw [Ydg]
   by_cases h : d = c
   ·subst h; simp
   ·rw [ZAM h]
    exact ZAM (fun z => h (by cases z; rfl))
  rw [e]
  by_cases h : d = c
  ·subst h; simp
  ·by_cases h2 : d ∈ N
   ·simp [h, h2]
   ·simp [h, h2]
theorem Yee (N : List Nat) : (N.map fun c => tx [c]).all Yll = true := by
 rw [ZAv]
 intro x hx
 obtain ⟨c, _, rfl⟩ := ZA8.mp hx
 rfl
theorem J2 {d : Int} : ∀ N : List Int, ((N.map P.int).any fun y => eqF y (.int d)) = decide (d ∈ N)
 | [] => rfl
 | c :: N => by
  rw [ZAe, ZBM, J2 N]
  have e : eqF (.int c) (.int d) = decide (d = c) := by
   show (c == d) = _
   by_cases h : d = c
   ·subst h; simp
   ·rw [ZAM h]; exact beq_eq_false_iff_ne.mpr (fun z => h z.symm)
  rw [e]
  by_cases h : d = c
  ·subst h; simp
  ·by_cases h2 : d ∈ N
   ·simp [h, h2]
   ·simp [h, h2]
theorem YaI (N : List Int) : (N.map P.int).all Yll = true := by
 rw [ZAv]
 intro x hx
 obtain ⟨c, _, rfl⟩ := ZA8.mp hx
 rfl
theorem Ygl {ls : List Nat} {k : Nat} {st0 st : YkJ} {ρ : Rho} {me : ME} (h : me ρ st0 = .ok (.ref k) st) (hk : listAt st k = some (ls.map fun c => tx [c])) (hl : ls.length <= 50) : Ymw me ρ st0 = .ok ((YlM (ls.map fun c => sT [c])).map P.str) st := by
 unfold Ymw
 rw [h]
 show (match listAt st k with | some xs => (match Ylv xs with | some ys => if ys.length < 64 then R.ok ((YlM ys).map P.str) st else R.bad | none => R.bad) | none => R.bad) = _
 rw [hk]
 show 154
 rw [Vl]
 show 154
 have e1 : (ls.map fun c => [c]).map sT = ls.map fun c => sT [c] := by rw [ZBA]; rfl
 rw [e1, ZAI]
 rw [ZAO]
 omega
theorem Yjx {c : Nat} (h : Ylm c = true) : c < 128 := by rw [W2] at h; omega
theorem Ykg {c : Nat} (h : isUp c = true) : c < 128 := by rw [VA] at h; omega
theorem YaZ {U : List Nat} {tb : Sys} {st : YkJ} (hU : ∀ c ∈ U, isUp c = true) (h6 : U.length <= 6) (hL : ∀ c ∈ Yk7 tb, c ∈ U \/ Ylm c = true) (hl : ∀ e ∈ tb, (e.1 ++ e.2).length <= 100) :
 ∃ N st', YA [.tup (tb.map YkW)] st = .ok (tx N) st' /\ YkP st st' /\ N.Nodup /\ (∀ c, c ∈ N ↔ c ∈ Yk7 tb /\ isUp c = true) /\ (∀ c ∈ N, c ∈ U) /\ N.length <= 6 := by
 unfold YA Wr
 simp only [ZW]
 show 150
 rw [ZAO]
 obtain ⟨ρ', s', f1, N, v2, v3, v4, f2, f3, f4, f5⟩ := ZA (src := Yng (tb.map YkW)) (g := YlK 2 (Yk8 (YkM 2) (Yk8 (YkM 3) YlR))) (m := ZU) (N := tb.length) (ρ := [some (.tup (tb.map YkW)), some (.ref st.length), none, none, none]) (st := st ++ [.lst []]) tb YkW
  (fun i ρ s => ∃ (N : List Nat) (v2 v3 v4 : Option P), ρ = [some (.tup (tb.map YkW)), some (.ref st.length), v2, v3, v4] /\ s = st ++ [.lst (N.map fun c => tx [c])] /\ N.Nodup /\ ∀ c, c ∈ N ↔ c ∈ Yk7 (tb.take i) /\ isUp c = true) rfl (fun i ρ s hi _ => nxL)
  ⟨[], none, none, none, rfl, rfl, List.nodup_nil, fun c => by simp [Yk7]⟩
  (fun i hi ρ s ⟨N, v2, v3, v4, q1, q2, q3, q4⟩ => by
   show 101
   have het : tb[i] ∈ tb := ZAr hi
   have hel := hl _ het
   have heL : ∀ c ∈ tb[i].1 ++ tb[i].2, c ∈ U \/ Ylm c = true := fun c hc => hL c (mem_allL.mpr ⟨tb[i], het, ZAY.mp hc⟩)
   have hal : Yk7 (tb.take (i + 1)) = Yk7 (tb.take i) ++ (tb[i].1 ++ tb[i].2) := by
    rw [ZAm hi]
    unfold Yk7
    rw [List.flatMap_append]
    simp
   rw [ZAK] at hel
   unfold ZU
   show 150
   generalize hl2 : tb[i].1 ++ tb[i].2 = l at heL hal
   have hll : l.length <= 100 := by rw [<- hl2, ZAK]; exact hel
   obtain ⟨ρ', s', f1, N', w4, f2, f3, f4, f5⟩ := ZA (src := Ymp (sT l)) (g := YkM 4) (m := ZQ) (N := l.length) (ρ := [some (.tup (tb.map YkW)), some (.ref st.length), some (tx tb[i].1), some (tx tb[i].2), v4]) (st := st ++ [.lst (N.map fun c => tx [c])]) l (fun c => tx [c])
    (fun j ρ s => ∃ (N' : List Nat) (w4 : Option P), ρ = [some (.tup (tb.map YkW)), some (.ref st.length), some (tx tb[i].1), some (tx tb[i].2), w4] /\ s = st ++ [.lst (N'.map fun c => tx [c])] /\ N'.Nodup /\ ∀ c, c ∈ N' ↔ c ∈ Yk7 (tb.take i) ++ l.take j /\ isUp c = true) rfl (fun j ρ s hj _ => nxS hj)
    ⟨N, v4, rfl, rfl, q3, fun c => by rw [q4]; simp⟩
    (fun j hj ρ s ⟨N', w4, p1, p2, p3, p4⟩ => by
     subst p1; subst p2
     show 189
     have hjm : l[j] ∈ l := ZAr hj
     have h128 : l[j] < 128 := by
      rcases heL _ hjm with z | z
      ·exact Ykg (hU _ z)
      ·exact Yjx z
     have ht : ∀ c, c ∈ Yk7 (tb.take i) ++ l.take (j + 1) ↔ c ∈ Yk7 (tb.take i) ++ l.take j \/ c = l[j] := fun c => by
      rw [ZAm hj, <- List.append_assoc, ZAY (s := _ ++ _), ZAX]
     unfold ZQ
     show 150
     rw [Ye2 h128]
     show 150
     by_cases hu : isUp l[j] = true
     ·rw [hu]
      show 150
      rw [Yb2 (Ydu Yq) rfl (Yee N'), Yb5]
      show 150
      by_cases hm : l[j] ∈ N'
      ·rw [ZAS hm]
       show 150
       refine ⟨_, _, rfl, N', _, rfl, rfl, p3, fun c => ?_⟩
       rw [ht, p4]
       constructor
       ·intro z; exact ⟨.inl z.1, z.2⟩
       ·rintro ⟨z | z, y⟩
        ·exact ⟨z, y⟩
        ·rw [z]; exact (p4 _).mp hm
      ·rw [ZAM hm]
       show 150
       rw [JH Yq]
       show 150
       have hN' : N'.length <= 6 := ZAH (nodup_len p3 fun c hc => by
        obtain ⟨y1, y2⟩ := (p4 c).mp hc
        have y3 : c ∈ U \/ Ylm c = true := by
         rcases ZAY.mp y1 with z | z
         ·obtain ⟨e, he, hce⟩ := mem_allL.mp z
          exact hL c (mem_allL.mpr ⟨e, ZBS he, hce⟩)
         ·exact heL c (ZBS z)
        rcases y3 with z | z
        ·exact z
        ·exact absurd y2 (by rw [Vg z]; decide)) h6
       rw [VH Yq (by rw [ZAO]; omega)]
       show 150
       refine ⟨_, _, rfl, N' ++ [l[j]], _, rfl, ?_, ?_, fun c => ?_⟩
       ·rw [ZBi _ _ (ZAE _), ZCh, ZAf]; rfl
       ·rw [ZCD]
        refine ⟨p3, by simp, fun a ha b hb => ?_⟩
        rw [ZAX.mp hb]
        intro z; rw [z] at ha; exact hm ha
       ·rw [ht, ZAY, p4, ZAX]
        constructor
        ·rintro (z | z)
         ·exact ⟨.inl z.1, z.2⟩
         ·exact ⟨.inr z, by rw [z]; exact hu⟩
        ·rintro ⟨z | z, y⟩
         ·exact .inl ⟨z, y⟩
         ·exact .inr z
     ·have hu' : isUp l[j] = false := by cases q : isUp l[j] with | true => exact absurd q hu | false => rfl
      rw [hu']
      show 150
      refine ⟨_, _, rfl, N', _, rfl, rfl, p3, fun c => ?_⟩
      rw [ht, p4]
      constructor
      ·intro z; exact ⟨.inl z.1, z.2⟩
      ·rintro ⟨z | z, y⟩
       ·exact ⟨z, y⟩
       ·rw [z] at y; exact absurd y hu)
   rw [f1, f2, f3]
   refine ⟨_, _, rfl, N', _, _, w4, rfl, rfl, f4, fun c => ?_⟩
   rw [f5, ZA9, hal])
 rw [f1, f2, f3]
 show 150
 rw [ZA9] at f5
 have hNU : ∀ c ∈ N, c ∈ U := fun c hc => by
  obtain ⟨y1, y2⟩ := (f5 c).mp hc
  rcases hL c y1 with z | z
  ·exact z
  ·exact absurd y2 (by rw [Vg z]; decide)
 have hN6 : N.length <= 6 := ZAH (nodup_len f4 hNU) h6
 rw [Ygl (k := st.length) rfl (Yk Yq) (by omega)]
 obtain ⟨r, r1, r2, r3⟩ := Ya2 N f4
 show 41
 rw [show (r.map fun c => sT [c]).map P.str = r.map fun c => tx [c] by rw [ZBA]; rfl]
 have hrl : r.length <= 6 := by rw [r3.length_eq]; exact hN6
 rw [We (by omega)]
 show 150
 exact ⟨r, _, rfl, YkP.one, r3.nodup_iff.mpr f4, fun c => by rw [r3.mem_iff, f5], fun c hc => hNU c (r3.mem_iff.mp hc), hrl⟩
theorem Yd1 {S N : List Nat} {R : List (List Int)} {cell : Int} {st : YkJ} (hN : N.length <= 6) (hR : R.length <= 3) :
 ∃ (gs : List (List Int)) (st' : YkJ), Y6 [.tup [tx S, .tup (Yk5 R)], .int cell, tx N] st = .ok (.tup (gs.map fun g : List Int => .tup (g.map P.int))) st' /\ YkP st st' /\ gs.length = N.length := by
 unfold Y6 Ws
 show 100
 obtain ⟨ρ', s', f1, gs, v4, v5, f2, k3, f3, f4, f5⟩ := ZA (src := YlO 0 N.length) (g := YkM 4) (m := ZP) (N := N.length) (ρ := [some (.tup [tx S, .tup (Yk5 R)]), some (.int cell), some (tx N), some (.ref st.length), none, none]) (st := st ++ [.lst []]) (List.range N.length) (fun (k : Nat) => P.int (0 + k))
  (fun i ρ s => ∃ (gs : List (List Int)) (v4 v5 : Option P), ρ = [some (.tup [tx S, .tup (Yk5 R)]), some (.int cell), some (tx N), some (.ref st.length), v4, v5] /\ YkP st s /\ s[st.length]? = some (.lst (gs.map fun g => P.tup (g.map P.int))) /\ gs.length = i /\ True)
  (by simp) (fun i ρ s hi _ => nxR) ⟨[], none, none, rfl, YkP.one, Yq, rfl, trivial⟩
  (fun i hi ρ s ⟨gs, v4, v5, q1, q2, q3, q4, _⟩ => by
   subst q1
   have hi' : i < N.length := by simpa using hi
   have ei : (List.range N.length)[i] = i := by simp
   rw [ei]
   show 189
   unfold ZP
   show 150
   have hrl : Yln [.tup (Yk5 R)] s = some (.int (R.length : Nat), s) := by
    rw [YaN]
    have : (Yk5 R).length = R.length := ZAO ..
    show 191
   first | rw [hrl] | skip
   show 150
   have hrR : (Yk5 R).length = R.length := ZAO ..
   first | rw [hrR] | skip
   show 100
   obtain ⟨acc, s5, z1, ns, z2, z4, z5⟩ := Z6 (src := YlO 0 R.length) (g := YkM 0) (nt := Ylb (YkK gtP (YkK Yla (YkX 2 Yn (YkI (YkH 1) (YkI (YkK YkY (YkK YkY (eC (.int 80)) (YkK Yl0 (eC (.int 4)) (YkH 2))) (YkH 0)) YkN))) (eC (.int 3))) (eC (.int 0)))) (me := YkH 0) (ρ0 := [none, some (.int cell), some (.int (0 + (i : Int)))]) (N := R.length)
    (fun j t acc => ∃ ns : List Int, acc = ns.map P.int /\ ns.length <= j /\ t = s) (st := s) ⟨[], rfl, ZAE _, rfl⟩ (fun j t acc hj ⟨ns, w1, w2, w4⟩ => by
     subst w1; subst w4
     obtain ⟨x, y1, y2⟩ := mixed (a := cell) (b := 80 + 4 * (0 + (i : Int)) + (0 + (j : Int))) (st := t) (by omega) (by omega)
     refine ⟨.int (0 + j), _, by simp only [ZO, if_pos hj], rfl, ?_⟩
     show 150
     rw [y1]
     show 150
     by_cases hx : 0 < x % 3
     ·exact .inr ⟨t, _, t, by rw [ZAS hx], rfl, by show _ < 1000000; rw [ZAO]; omega, ns ++ [0 + (j : Int)], by rw [ZAf]; rfl, by rw [ZAK, ZAW]; omega, rfl⟩
     ·exact .inl ⟨t, by rw [decide_eq_false hx], ns, rfl, by omega, rfl⟩) (fun t acc _ => by simp only [ZO, if_neg (Nat.lt_irrefl _)])
   rw [z1]
   subst z2; subst z5
   show 150
   have gA : YkP s5 (s5 ++ [O.lst (ns.map P.int)]) := YkP.one
   rw [JH (gA.get q3)]
   show 150
   rw [Yak (Yk Yq)]
   show 150
   rw [VH (gA.get q3) (by rw [ZAO]; omega)]
   show 150
   have hk : st.length < (s5 ++ [O.lst (ns.map P.int)]).length := (ZAG.mp (gA.get q3)).1
   refine ⟨_, _, rfl, gs ++ [ns], _, _, rfl, YkP.set (q2.trans gA) (ZAE _), ?_, by rw [ZAK, ZAW, q4], trivial⟩
   rw [ZAh hk, ZAf]
   rfl)
 rw [f1, f2]
 rw [ZBe] at f4
 show 150
 rw [Yak (Yk f3)]
 show 150
 exact ⟨gs, _, rfl, k3, f4⟩
def Yml (S : List Nat) (R : List (List Int)) (z : List Int × List Nat) : Bool := decide (∀ c ∈ z.2, c ∈ S) && decide (YlS S R 0 z.2 ∈ z.1)
def Ylc (g : List Int) : P := .tup (g.map P.int)
theorem YhG {S : List Nat} {R : List (List Int)} {Z : List (List Int × List Nat)} {st : YkJ} (W : Rw S R) (h1 : 1 <= R.length) :
 YR [.tup [tx S, .tup (Yk5 R)], .tup (Z.map fun z => Ylc z.1), .tup (Z.map fun z => tx z.2)] st = .ok (.bl (Z.all (Yml S R))) st := by
 unfold YR Vi
 show 150
 rw [Yao (xs := Z.map fun z => Ylc z.1) (ys := Z.map fun z => tx z.2) rfl ZN ZN, ZAO]
 show 150
 have key := Ya8 (src := Yl5 (.tup (Z.map fun z => Ylc z.1)) (.tup (Z.map fun z => tx z.2)) Z.length) (g := YlK 2 (Yk8 (YkM 3) (Yk8 (YkM 4) YlR))) (m := WH) (N := Z.length) (ρ := [some (.tup [tx S, .tup (Yk5 R)]), some (.tup (Z.map fun z => Ylc z.1)), some (.tup (Z.map fun z => tx z.2)), none, none, none]) (st := st)
  Z (fun z => .tup [Ylc z.1, tx z.2]) (fun z => !Yml S R z) (fun _ => .bl false)
  (fun ρ s => ∃ v3 v4 v5, ρ = [some (.tup [tx S, .tup (Yk5 R)]), some (.tup (Z.map fun z => Ylc z.1)), some (.tup (Z.map fun z => tx z.2)), v3, v4, v5] /\ s = st) (fun s => s = st) rfl
  (fun i ρ s hi _ => nxZ ZN ZN hi) ⟨none, none, none, rfl, rfl⟩
  (fun j hj ρ s hp ⟨v3, v4, v5, q1, q2⟩ => by
   show 101
   generalize Z[j] = z
   obtain ⟨g, w⟩ := z
   have inner := Ya8 (src := Ymp (sT w)) (g := YkM 5) (m := Zt) (N := w.length) (ρ := [some (.tup [tx S, .tup (Yk5 R)]), some (.tup (Z.map fun z => Ylc z.1)), some (.tup (Z.map fun z => tx z.2)), some (Ylc g), some (tx w), v5]) (st := s)
    w (fun c => tx [c]) (fun c => decide (c ∉ S)) (fun _ => .bl false)
    (fun ρ t => ∃ v5, ρ = [some (.tup [tx S, .tup (Yk5 R)]), some (.tup (Z.map fun z => Ylc z.1)), some (.tup (Z.map fun z => tx z.2)), some (Ylc g), some (tx w), v5] /\ t = s) (fun t => t = s) rfl
    (fun i ρ s hi _ => nxS hi) ⟨v5, rfl, rfl⟩
    (fun i hi ρ t _ ⟨v5, p1, p2⟩ => by
     subst p1; subst p2
     refine ⟨_, rfl, fun h => ?_, fun h => ?_⟩
     ·have h' : w[i] ∉ S := ZAs h
      unfold Zt
      show 150
      rw [Zu, Wz, ZAM h']
      show 150
      exact ⟨_, rfl, rfl⟩
     ·have h' : w[i] ∈ S := by
       have := of_decide_eq_false h
       exact Classical.not_not.mp this
      unfold Zt
      show 150
      rw [Zu, Wz, ZAS h']
      show 150
      exact ⟨_, _, rfl, _, rfl, rfl⟩)
   unfold WH
   rcases inner with ⟨c, s', e1, e2, e3⟩ | ⟨e1, ρ', s', e2, v5', e3, e4⟩
   ·subst e3
    have hc : c ∈ w /\ c ∉ S := ⟨ZCK e1, by have := List.find?_some e1; exact ZAs this⟩
    have hz : Yml S R (g, w) = false := by
     unfold Yml
     rw [ZAM (fun z => hc.2 (z c hc.1))]
     rfl
    refine ⟨fun _ => ?_, fun h => ?_⟩
    ·show 151
     show 102
     exact ⟨_, rfl, rfl⟩
    ·rw [hz] at h; cases h
   ·subst e3; subst e4
    have hw : ∀ c ∈ w, c ∈ S := fun c hc => by
     have := ZBY.mp e1 c hc
     show 192
    have hz : Yml S R (g, w) = decide (YlS S R 0 w ∈ g) := by
     unfold Yml
     rw [ZAS hw]
     rfl
    have run : (YkT (Yl2 (YlP (YkH 4)) (YkM 5)
     Zt)
     (sIf (Ylb (YkK Ylo (YkX 3 YS (YkI (YkH 0) (YkI (eC (.int 0)) (YkI (YkH 4) YkN)))) (YkH 3)))
     (Ylp (eC (.bl false)))
     YlG)) [some (.tup [tx S, .tup (Yk5 R)]), some (.tup (Z.map fun z => Ylc z.1)), some (.tup (Z.map fun z => tx z.2)), some (Ylc g), some (tx w), v5] s' =
     if YlS S R 0 w ∈ g then .nx [some (.tup [tx S, .tup (Yk5 R)]), some (.tup (Z.map fun z => Ylc z.1)), some (.tup (Z.map fun z => tx z.2)), some (Ylc g), some (tx w), v5'] s' else .rt (.bl false) s' := by
     show 150
     show 102
     rw [Yeq W (by omega) (by omega) hw]
     show 150
     rw [Yb2 (xs := g.map P.int) rfl rfl (YaI g), J2]
     show 150
     by_cases h : YlS S R 0 w ∈ g
     ·rw [ZAS h, ZAI h]
      show 150
     ·rw [ZAM h, ZAJ h]
      show 150
    rw [hz]
    refine ⟨fun h => ?_, fun h => ?_⟩
    ·have h' : YlS S R 0 w ∉ g := by simpa using h
     exact ⟨s', run.trans (ZAJ h'), rfl⟩
    ·have h' : YlS S R 0 w ∈ g := by simpa using h
     exact ⟨_, s', run.trans (ZAI h'), some (Ylc g), some (tx w), v5', rfl, rfl⟩)
 rcases key with ⟨z, s', e1, e2, e3⟩ | ⟨e1, ρ', s', e2, v3, v4, v5, e3, e4⟩
 ·rw [e2]
  subst e3
  show 150
  have hz : Z.all (Yml S R) = false := by
   rw [ZBs]
   intro h
   have a := ZAv.mp h z (ZCK e1)
   have b := List.find?_some e1
   rw [a] at b
   cases b
  rw [hz]
 ·rw [e2, e3]
  subst e4
  show 150
  have hz : Z.all (Yml S R) = true := by
   rw [ZAv]
   intro z hz
   have := ZBY.mp e1 z hz
   show 192
  rw [hz]
theorem s_a : ("a" : Str) = sT [97] := by decide +kernel
theorem s_z : ("z" : Str) = sT [122] := by decide +kernel
theorem Yhg {c : Nat} {st : YkJ} : ZD [tx [c]] st = .ok (.bl (Ylm c)) st := by
 unfold ZD V0 tx
 show 150
 rw [s_a, s_z]
 simp only [Ya0]
 unfold Ylm
 by_cases h : 97 <= c
 ·have e : decide (c < 97) = false := ZAM (by omega)
  rw [e, ZAS h]
  show 150
  by_cases h2 : c <= 122
  ·rw [ZAM (by omega : ¬ 122 < c), ZAS h2]; rfl
  ·rw [ZAS (by omega : 122 < c), ZAM h2]; rfl
 ·have e : decide (c < 97) = true := ZAS (by omega)
  rw [e, ZAM h]
  rfl
theorem Ygd {tb : Sys} {e : List Nat × List Nat} (h : e ∈ tb) : e.1.length + e.2.length <= (Yk7 tb).length := by
 unfold Yk7
 induction tb with
 | nil => cases h
 | cons a r ih =>
  rw [ZCF, ZAK, ZAK]
  rcases ZAV.mp h with rfl | h
  ·omega
  ·have := ih h; omega
theorem Ydj {tb : Sys} {st : YkJ} (h : (Yk7 tb).length <= 63) (h6 : tb.length <= 50) : Y5 [.tup (tb.map YkW)] st = .ok (tx (Yk7 tb)) st := by
 unfold Y5 Wn
 simp only [ZW]
 show 150
 rw [ZAO, Zv tb YkW (fun e => tx (e.1 ++ e.2)) rfl (fun i _ => nxL) (by omega) (fun e he => ⟨[some (tx e.1), some (tx e.2)], rfl, by
  have := Ygd he
  walk_at "ev"⟩)]
 show 150
 rw [show (tb.map fun e => tx (e.1 ++ e.2)) = (tb.map fun e => e.1 ++ e.2).map tx by rw [ZBA]; rfl]
 have e2 : (tb.map fun e => e.1 ++ e.2).flatten = Yk7 tb := by unfold Yk7; rw [List.flatMap_def]
 rw [Jn (by rw [e2]; omega), e2]
 rfl
theorem Ygb {tb : Sys} {st : YkJ} (h : (Yk7 tb).length <= 63) (h6 : tb.length <= 50) : ∃ r st', Zo [.tup (tb.map YkW)] st = .ok (tx r) st' /\ YkP st st' /\ (∀ c, c ∈ r ↔ c ∈ Yk7 tb /\ Ylm c = true) /\ r.length <= 63 := by
 unfold Zo Vh
 show 150
 rw [Ydj h h6]
 show 150
 rw [Z1 (Yk7 tb) (fun c => tx [c]) Ylm (fun c => tx [c]) rfl (fun i hi => nxS hi) (by omega) (fun c hc => ⟨_, rfl, by
  show 150
  rw [Yhg]
  rfl, fun _ => by try walk_at "ev"⟩)]
 show 150
 generalize hF : (Yk7 tb).filter Ylm = F
 have hFl : F.length <= 63 := by rw [<- hF]; exact ZAH (ZBJ _ _) h
 unfold WC Yab
 simp only [ZW]
 show 150
 rw [YdQ (ls := F) (k := st.length) (st := st ++ [.lst (F.map fun c => tx [c])]) rfl (Yk Yq) hFl]
 obtain ⟨r, r1, r2, r3, r4⟩ := Ycu (ls := F) hFl
 show 41
 rw [show (r.map fun c => sT [c]).map P.str = r.map fun c => tx [c] by rw [ZBA]; rfl, We (by omega)]
 show 150
 exact ⟨r, _, rfl, YkP.one, fun c => by rw [r3, <- hF, ZBN], by omega⟩
theorem VY {S l : List Nat} {q : P} {st : YkJ} (h : l.length <= 1000) : YN [.tup [tx S, q], tx l] st = .ok (.bl (decide (∀ c ∈ l, c ∈ S))) st := by
 unfold YN WE
 show 150
 rw [Zv l (fun c => tx [c]) (fun c => .bl (decide (c ∈ S))) rfl (fun i hi => nxS hi) (by omega) (fun c hc => ⟨_, rfl, by
  show 150
  rw [Ycq, Ydn]
  walk_at "ev"⟩)]
 show 150
 rw [YfF]
 show 150
 have e : l.all (fun c => decide (c ∈ S)) = decide (∀ c ∈ l, c ∈ S) := by
  by_cases h : ∀ c ∈ l, c ∈ S
  ·rw [ZAS h, ZAv]
   exact fun c hc => ZAS (h c hc)
  ·rw [ZAM h, ZBs]
   intro z
   exact h fun c hc => ZAs (ZAv.mp z c hc)
 rw [e]
def Fit (S : List Nat) (tb : Sys) : Prop := ∀ c ∈ Yk7 tb, Ylm c = true -> c ∈ S
theorem refuse {S : List Nat} {q : P} {tb : Sys} {st : YkJ} (h : (Yk7 tb).length <= 63) (h6 : tb.length <= 50) :
 ∃ st', YkP st st' /\ (Fit S tb -> Yp [.tup (tb.map YkW), .tup [tx S, q]] st = .ok .non st') /\ (¬ Fit S tb -> Yp [.tup (tb.map YkW), .tup [tx S, q]] st = .exc ("NoFit", []) st') := by
 obtain ⟨L, hL⟩ : ∃ L : List Nat, P.str "the system has a sign that the machine does not have" = tx L := ⟨_, Yfp _⟩
 obtain ⟨r, st', r1, r2, r3, r4⟩ := Ygb (st := st) h h6
 have e : (∀ c ∈ r, c ∈ S) ↔ Fit S tb := by
  constructor
  ·intro z c hc hl; exact z c ((r3 c).mpr ⟨hc, hl⟩)
  ·intro z c hc; obtain ⟨a, b⟩ := (r3 c).mp hc; exact z c a b
 refine ⟨st', r2, fun hf => ?_, fun hf => ?_⟩
 ·unfold Yp YG
  rw [hL]
  show 150
  show 41
  rw [VY (by omega), ZAS (e.mpr hf)]
  show 150
 ·unfold Yp YG
  rw [hL]
  show 150
  show 41
  rw [VY (by omega), ZAM (fun z => hf (e.mp z))]
  show 150
theorem Yex {S : List Nat} {R : List (List Int)} {g : List Int} {w : List Nat} {st : YkJ} (W : Rw S R) (h1 : 1 <= R.length) (hw : w.length <= 1000) :
 Y2 [.tup [tx S, .tup (Yk5 R)], Ylc g, tx w] st = .ok (.bl (Yml S R (g, w))) st := by
 unfold Y2 WB
 show 150
 rw [VY hw]
 show 150
 by_cases h : ∀ c ∈ w, c ∈ S
 ·rw [ZAS h]
  show 150
  rw [Yea W (by omega) (by omega), ZAI h]
  show 150
  rw [YjV (xs := g.map P.int) rfl rfl (YaI g), J2]
  show 150
  unfold Yml
  rw [ZAS h]
  rfl
 ·rw [ZAM h]
  show 150
  unfold Yml
  rw [ZAM h]
  rfl
theorem fits {S : List Nat} {R : List (List Int)} {tb : Sys} {Z : List (List Int × List Nat)} {st : YkJ} (W : Rw S R) (hR : 1 <= R.length) (h : (Yk7 tb).length <= 63) (h6 : tb.length <= 50) (hZ : Z.length <= 1000) (hw : ∀ z ∈ Z, z.2.length <= 1000) :
 ∃ st', YkP st st' /\ (Fit S tb -> Zl [.tup (tb.map YkW), .tup [tx S, .tup (Yk5 R)], .tup (Z.map fun z => Ylc z.1), .tup (Z.map fun z => tx z.2)] st = .ok (.bl (Z.all (Yml S R))) st') /\
  (¬ Fit S tb -> Zl [.tup (tb.map YkW), .tup [tx S, .tup (Yk5 R)], .tup (Z.map fun z => Ylc z.1), .tup (Z.map fun z => tx z.2)] st = .exc ("NoFit", []) st') := by
 obtain ⟨st', g1, g2, g3⟩ := refuse (S := S) (q := .tup (Yk5 R)) (tb := tb) (st := st) h h6
 refine ⟨st', g1, fun hf => ?_, fun hf => ?_⟩
 ·unfold Zl YbJ
  show 150
  rw [g2 hf]
  show 150
  rw [Yao (xs := Z.map fun z => Ylc z.1) (ys := Z.map fun z => tx z.2) rfl ZN ZN, ZAO]
  show 150
  have hc := Zv (src := Yl5 (.tup (Z.map fun z => Ylc z.1)) (.tup (Z.map fun z => tx z.2)) Z.length) (g := YlK 2 (Yk8 (YkM 0) (Yk8 (YkM 1) YlR))) (me := YlN 3 Y2 (YkI (YkH 2) (YkI (YkH 0) (YkI (YkH 1) YkN)))) (ρ0 := [none, none, some (.tup [tx S, .tup (Yk5 R)])]) (N := Z.length) (st := st')
   Z (fun z => .tup [Ylc z.1, tx z.2]) (fun z => .bl (Yml S R z)) rfl (fun i hi => nxZ ZN ZN hi) (by omega) (fun z hz => ⟨_, rfl, by
    show 150
    rw [Yex W hR (hw z hz)]⟩)
  rw [VW _ _ _ _ hc]
  show 150
  rw [YfF]
  show 150
 ·unfold Zl YbJ
  show 150
  rw [g3 hf]
  show 150
theorem refused {S : List Nat} {R : List (List Int)} {tb : Sys} {Z : List (List Int × List Nat)} {st : YkJ} (W : Rw S R) (hR : 1 <= R.length) (h : (Yk7 tb).length <= 63) (h6 : tb.length <= 50) (hZ : Z.length <= 1000) (hw : ∀ z ∈ Z, z.2.length <= 1000) (hf : ¬ Fit S tb) :
 ∃ st', YkP st st' /\ YD [.tup (tb.map YkW), .tup [tx S, .tup (Yk5 R)], .tup (Z.map fun z => Ylc z.1), .tup (Z.map fun z => tx z.2)] st = .ok (.bl true) st' := by
 obtain ⟨st', g1, g2, g3⟩ := fits (tb := tb) (Z := Z) (st := st) W hR h h6 hZ hw
 refine ⟨st', g1, ?_⟩
 unfold YD ZF
 show 150
 rw [g3 hf]
 show 150
theorem YjT {b : Bool} {st : YkJ} : neP (.bl b) (.bl b) st = some (.bl false, st) := by cases b <;> rfl
theorem Yh6 {b : Bool} {st : YkJ} : eqP (.bl b) (.bl b) st = some (.bl true, st) := by cases b <;> rfl
theorem YfE {xs : List P} {x : P} : YlJ (xs ++ [x]) (some (-1)) none = [x] := by
 unfold YlJ
 have hl : (xs ++ [x]).length = xs.length + 1 := by simp
 have e : HT.sIx (xs ++ [x]).length 0 (some (-1)) = xs.length := by
  show HT.sIx (xs ++ [x]).length 0 (some (-1)) = _
  have := HT.clip_eq (-1) (xs ++ [x]).length 0
  rw [ZAI (by decide)] at this
  omega
 rw [e, HT.sIx_none, List.drop_left, hl, ZCO]
 rfl
theorem Yf6 : ∀ {gs : List (List Int)} {ws : List (List Nat)}, gs.length = ws.length -> (gs.zip ws).map (fun z => Ylc z.1) = gs.map Ylc /\ (gs.zip ws).map (fun z => tx z.2) = ws.map tx
 | [], [], _ => ⟨rfl, rfl⟩
 | g :: gs, w :: ws, h => by
  obtain ⟨a, b⟩ := Yf6 (gs := gs) (ws := ws) (by simpa using h)
  exact ⟨by rw [List.zip_cons_cons, ZAe, ZAe, a], by rw [List.zip_cons_cons, ZAe, ZAe, b]⟩
 | [], _ :: _, h => by simp at h
 | _ :: _, [], h => by simp at h
theorem YdR {gs : List (List Int)} {ws : List (List Nat)} (h : gs.length = ws.length) : (gs.zip ws).length = ws.length := by rw [List.length_zip, h, Nat.min_self]
theorem YdM {gs : List (List Int)} {ws : List (List Nat)} {z : List Int × List Nat} (h : z ∈ gs.zip ws) : z.2 ∈ ws := (ZBw (show (z.1, z.2) ∈ gs.zip ws from h)).2
theorem both {S : List Nat} {R : List (List Int)} {tb : Sys} {gs : List (List Int)} {ws : List (List Nat)} {st : YkJ} (W : Rw S R) (hR : 1 <= R.length) (h : (Yk7 tb).length <= 63) (h6 : tb.length <= 50) (hf : Fit S tb) (hl : gs.length = ws.length) (hn : ws.length <= 6) (hw : ∀ w ∈ ws, w.length <= 1000) :
 ∃ st' b, YkP st st' /\ Zl [.tup (tb.map YkW), .tup [tx S, .tup (Yk5 R)], .tup (gs.map Ylc), .tup (ws.map tx)] st = .ok (.bl b) st' /\ ∀ s, YR [.tup [tx S, .tup (Yk5 R)], .tup (gs.map Ylc), .tup (ws.map tx)] s = .ok (.bl b) s := by
 obtain ⟨a, b⟩ := Yf6 hl
 have hz := YdR hl
 obtain ⟨st', g1, g2, _⟩ := fits (tb := tb) (Z := gs.zip ws) (st := st) W hR h h6 (by omega) (fun z hz => hw _ (YdM hz))
 refine ⟨st', _, g1, by rw [<- a, <- b]; exact g2 hf, fun s => ?_⟩
 rw [<- a, <- b]
 exact YhG W hR
theorem turn {S T N : List Nat} {R : List (List Int)} {tb : Sys} {gs : List (List Int)} {ws : List (List Nat)} {cell : Int} {s : YkJ} {kT : Nat} {v0 v1 v2 v3 v4 v6 v7 v9 v15 v16 v17 v18 v19 : Option P} (W : Rw S R) (hS : 1 <= S.length /\ S.length <= 4) (hR : 1 <= R.length) (h : (Yk7 tb).length <= 63) (h6 : tb.length <= 50) (hf : Fit S tb)
 (hl : gs.length = ws.length) (hn : ws.length = N.length) (hN : N.length <= 6) (hw : ∀ w ∈ ws, w.length <= 3) (kk : s[kT]? = some (.lst (T.map fun c => tx [c]))) (hT : 1 <= T.length) (hT2 : T.length <= 26) :
 ∃ s' w15 w16 w17 w18 w19, Ybf [v0, v1, v2, v3, v4, some (.tup [tx S, .tup (Yk5 R)]), v6, v7, some (.tup (tb.map YkW)), v9, some (tx N), some (.tup (gs.map Ylc)), some (.tup (ws.map tx)), some (.ref kT), some (.int cell), v15, v16, v17, v18, v19, none] s =
  .nx [v0, v1, v2, v3, v4, some (.tup [tx S, .tup (Yk5 R)]), v6, v7, some (.tup (tb.map YkW)), v9, some (tx N), some (.tup (gs.map Ylc)), some (.tup (ws.map tx)), some (.ref kT), some (.int cell), w15, w16, w17, w18, w19, none] s' /\ YkP s s' := by
 unfold Ybf
 show 268
 obtain ⟨wd, d1, d2, d3⟩ := YcA (S := S) (cell := cell / 4) (most := 9) (st := s) hS.1 hS.2 (.inr rfl)
 have d3' : wd.length <= 9 := d3
 obtain ⟨c, _, c1, c2⟩ := V1 (i := cell / 40 % (T.length : Int)) kk (ZA7 _ (by omega)) (ZA3 _ (by omega))
 obtain ⟨a, ha, hal⟩ : ∃ a : Nat, cell / 7 % ((wd.length : Int) + 1) = (a : Int) /\ a <= wd.length := ⟨(cell / 7 % ((wd.length : Int) + 1)).toNat, by
  have := ZA7 (cell / 7) (b := (wd.length : Int) + 1) (by omega)
  omega, by
  have := ZA3 (cell / 7) (b := (wd.length : Int) + 1) (by omega)
  omega⟩
 have p1 : (Yk2 15 (YkX 3 YQ (YkI (YkK Ylg (YkH 14) (eC (.int 4))) (YkI (YkK ixP (YkH 5) (eC (.int 0))) (YkI (eC (.int 9)) YkN))))) [v0, v1, v2, v3, v4, some (.tup [tx S, .tup (Yk5 R)]), v6, v7, some (.tup (tb.map YkW)), v9, some (tx N), some (.tup (gs.map Ylc)), some (.tup (ws.map tx)), some (.ref kT), some (.int cell), v15, v16, v17, v18, v19, none] s = .nx [v0, v1, v2, v3, v4, some (.tup [tx S, .tup (Yk5 R)]), v6, v7, some (.tup (tb.map YkW)), v9, some (tx N), some (.tup (gs.map Ylc)), some (.tup (ws.map tx)), some (.ref kT), some (.int cell), some (tx wd), v16, v17, v18, v19, none] s := by
  show 151
  rw [d1]
  show 151
 have p2 : (Yk2 16 (YkK ixP (YkH 13) (YkK Yla (YkK Ylg (YkH 14) (eC (.int 40))) (eB Yln (YkI (YkH 13) YkN))))) [v0, v1, v2, v3, v4, some (.tup [tx S, .tup (Yk5 R)]), v6, v7, some (.tup (tb.map YkW)), v9, some (tx N), some (.tup (gs.map Ylc)), some (.tup (ws.map tx)), some (.ref kT), some (.int cell), some (tx wd), v16, v17, v18, v19, none] s = .nx [v0, v1, v2, v3, v4, some (.tup [tx S, .tup (Yk5 R)]), v6, v7, some (.tup (tb.map YkW)), v9, some (tx N), some (.tup (gs.map Ylc)), some (.tup (ws.map tx)), some (.ref kT), some (.int cell), some (tx wd), some (tx [c]), v17, v18, v19, none] s := by
  show 151
  rw [ZC kk, ZAO]
  show 151
  show 19
 have p3 : (Yk2 17 (YkK Yla (YkK Ylg (YkH 14) (eC (.int 7))) (YkK YkY (eB Yln (YkI (YkH 15) YkN)) (eC (.int 1))))) [v0, v1, v2, v3, v4, some (.tup [tx S, .tup (Yk5 R)]), v6, v7, some (.tup (tb.map YkW)), v9, some (tx N), some (.tup (gs.map Ylc)), some (.tup (ws.map tx)), some (.ref kT), some (.int cell), some (tx wd), some (tx [c]), v17, v18, v19, none] s = .nx [v0, v1, v2, v3, v4, some (.tup [tx S, .tup (Yk5 R)]), v6, v7, some (.tup (tb.map YkW)), v9, some (tx N), some (.tup (gs.map Ylc)), some (.tup (ws.map tx)), some (.ref kT), some (.int cell), some (tx wd), some (tx [c]), some (.int (a : Nat)), v18, v19, none] s := by
  show 151
  rw [ha]
 have tl : (wd.take a).length <= 9 := by rw [ZAu]; omega
 have dl : (wd.drop a).length <= 9 := by rw [ZAi]; omega
 have first : ∃ wd' : List Nat, wd'.length <= 100 /\ (sIf (Ylb (YkK eqP (YkK Yla (YkH 14) (eC (.int 4))) (eC (.int 1))))
  (Yk2 15 (YkK YkY (YkK YkY (eSl (YkH 15) YlE (Yli (YkH 17))) (YkH 16)) (eSl (YkH 15) (Yli (YkH 17)) YlE)))
  YlG) [v0, v1, v2, v3, v4, some (.tup [tx S, .tup (Yk5 R)]), v6, v7, some (.tup (tb.map YkW)), v9, some (tx N), some (.tup (gs.map Ylc)), some (.tup (ws.map tx)), some (.ref kT), some (.int cell), some (tx wd), some (tx [c]), some (.int (a : Nat)), v18, v19, none] s =
  .nx [v0, v1, v2, v3, v4, some (.tup [tx S, .tup (Yk5 R)]), v6, v7, some (.tup (tb.map YkW)), v9, some (tx N), some (.tup (gs.map Ylc)), some (.tup (ws.map tx)), some (.ref kT), some (.int cell), some (tx wd'), some (tx [c]), some (.int (a : Nat)), v18, v19, none] s := by
  by_cases h4 : cell % 4 = 1
  ·refine ⟨(wd.take a ++ [c]) ++ wd.drop a, by simp only [List.length_append, List.length_singleton]; omega, ?_⟩
   show 150
   rw [Yna h4]
   show 150
  ·refine ⟨wd, by omega, ?_⟩
   show 150
   rw [Ym8 h4]
   show 150
 obtain ⟨wd', hwd, e1⟩ := first
 rw [Ze, p1, RS.seq_nx, Ze, p2, RS.seq_nx, Ze, p3, RS.seq_nx, Ze, e1, RS.seq_nx]
 have w3 : ∀ w ∈ ws, w.length <= 1000 := fun w hw' => ZAH (hw w hw') (by omega)
 have second : ∃ (v17' : Option P) (ws' : List (List Nat)), ws'.length = ws.length /\ (∀ w ∈ ws', w.length <= 1000) /\ (YkT (Yk2 18 (YkH 12)) (sIf (Ylb (YkK neP (YkH 10) (eC (tx []))))
  (YkT (Yk2 17 (YkK Yla (YkK Ylg (YkH 14) (eC (.int 400))) (eB Yln (YkI (YkH 10) YkN))))
  (Yk2 18 (YkK YkY (YkK YkY (eSl (YkH 12) YlE (Yli (YkH 17))) (Yl1 (YkI (YkH 15) YkN))) (eSl (YkH 12) (Yli (YkK YkY (YkH 17) (eC (.int 1)))) YlE))))
  YlG)) [v0, v1, v2, v3, v4, some (.tup [tx S, .tup (Yk5 R)]), v6, v7, some (.tup (tb.map YkW)), v9, some (tx N), some (.tup (gs.map Ylc)), some (.tup (ws.map tx)), some (.ref kT), some (.int cell), some (tx wd'), some (tx [c]), some (.int (a : Nat)), v18, v19, none] s =
  .nx [v0, v1, v2, v3, v4, some (.tup [tx S, .tup (Yk5 R)]), v6, v7, some (.tup (tb.map YkW)), v9, some (tx N), some (.tup (gs.map Ylc)), some (.tup (ws.map tx)), some (.ref kT), some (.int cell), some (tx wd'), some (tx [c]), v17', some (.tup (ws'.map tx)), v19, none] s := by
  by_cases hz : N = []
  ·refine ⟨some (.int (a : Nat)), ws, rfl, w3, ?_⟩
   show 150
   rw [ZAS hz]
   show 150
  ·have hN1 : 1 <= N.length := List.length_pos_iff.mpr hz
   obtain ⟨p, hp, hpl⟩ : ∃ p : Nat, cell / 400 % (N.length : Int) = (p : Int) /\ p < N.length := ⟨(cell / 400 % (N.length : Int)).toNat, by
    have := ZA7 (cell / 400) (b := (N.length : Int)) (by omega)
    omega, by
    have := ZA3 (cell / 400) (b := (N.length : Int)) (by omega)
    omega⟩
   refine ⟨some (.int (p : Nat)), (ws.take p ++ [wd']) ++ ws.drop (p + 1), by simp only [List.length_append, List.length_take, List.length_drop, List.length_singleton]; omega, fun w hw' => ?_, ?_⟩
   ·rcases ZAY.mp hw' with z | z
    ·rcases ZAY.mp z with z | z
     ·exact w3 w (ZBS z)
     ·rw [ZAX.mp z]; omega
    ·exact w3 w (ZCe z)
   ·show 151
    rw [ZAM hz]
    show 150
    rw [hp]
    show 150
    rw [YfA, show (p : Int) + 1 = ((p + 1 : Nat) : Int) by omega, YfZ]
    rw [WZ (by simp only [List.length_take, List.length_map, List.length_singleton]; omega)]
    show 150
    rw [WZ (by simp only [List.length_take, List.length_drop, List.length_append, List.length_map, List.length_singleton]; omega)]
    show 150
    rw [ZAf, ZAf, ZB8, List.map_drop]
    rfl
 obtain ⟨v17', ws', wl, ww, e2⟩ := second
 have asc : ∀ (x y z : MS) (ρ : Rho) (t : YkJ), YkT x (YkT y z) ρ t = YkT (YkT x y) z ρ t := fun x y z ρ t => by
  simp only [Ze]
  cases x ρ t <;> rfl
 rw [asc, Ze, e2]
 obtain ⟨st', b, g1, g2, g3⟩ := both (gs := gs) (ws := ws') (st := s) W hR h h6 hf (by omega) (by omega) ww
 show 150
 rw [g2]
 show 150
 rw [g3]
 show 150
 rw [YjT]
 show 150
 exact ⟨_, _, _, _, _, _, rfl, g1⟩
theorem YdP (p : Nat -> Bool) : ∀ l : List Nat, (l.filter p).length + (l.filter fun c => !p c).length = l.length
 | [] => rfl
 | a :: l => by
  have ih := YdP p l
  cases h : p a <;> simp [h] <;> omega
theorem YcJ {S : List Nat} (h4 : S.length <= 4) : 22 <= (low26.filter fun c => !decide (c ∈ S)).length := by
 have h := YdP (fun c => decide (c ∈ S)) low26
 have h2 : (low26.filter fun c => decide (c ∈ S)).length <= S.length := nodup_len ((by decide : low26.Nodup).filter _) (fun x hx => by
  have := (ZBN.mp hx).2
  simpa using this)
 rw [Z8] at h
 omega
theorem YfY {U : List Nat} {w w' : Nat -> List Nat} {u : Nat} {wd : List Nat} (h : u ∉ U) (e : w' u = wd) (e2 : ∀ c ∈ U, w' c = w c) : Ynd (kwd U w) (tkey [u]) (tx wd) = kwd (U ++ [u]) w' := by
 unfold Ynd
 have hn : ((kwd U w).any fun kv => decide (kv.1 = tkey [u])) = false := by
  rw [List.any_eq_false]
  intro x hx
  unfold kwd at hx
  obtain ⟨c, hc, rfl⟩ := ZA8.mp hx
  simp
  intro z
  rw [VM z] at hc
  exact h hc
 rw [ZAJ (by rw [hn]; decide)]
 unfold kwd
 rw [ZAf, ZAe, ZBh, e]
 congr 1
 exact List.map_congr_left fun c hc => by rw [e2 c hc]
theorem YdF {n : Nat} : ∀ {tb : Sys}, (∀ e ∈ tb, (e.1 ++ e.2).length <= n) -> (Yk7 tb).length <= n * tb.length
 | [], _ => by simp [Yk7]
 | e :: tb, h => by
  have ih := YdF (n := n) (tb := tb) fun d hd => h d (ZAd _ hd)
  have := h e (ZAU ..)
  unfold Yk7 at ih ⊢
  rw [ZCF, ZAK, ZBk, Nat.mul_add, Nat.mul_one]
  omega
theorem WR {a b : Sys} : Yk7 (a ++ b) = Yk7 a ++ Yk7 b := by unfold Yk7; exact List.flatMap_append
theorem words {S U : List Nat} {ns : List Int} {rs : P} {ku : Nat} {st : YkJ} {v1 v2 v3 : Option P} {tl : Rho} (hS : 1 <= S.length /\ S.length <= 4) (k0 : st[0]? = some (.ro (ns.map P.int))) (hu : st[ku]? = some (.lst (U.map fun c => tx [c]))) (hU : U.Nodup) (h6 : U.length <= 6) (ht : tl.length = 13) :
 ∃ w v7, YlF (YlO 0 U.length) (YkM 7) JY U.length 0 ([some (.ref 0), v1, v2, v3, some (.ref ku), some (.tup [tx S, rs]), some (.ref st.length), none] ++ tl) (st ++ [.dct []]) =
  .nx ([some (.ref 0), v1, v2, v3, some (.ref ku), some (.tup [tx S, rs]), some (.ref st.length), v7] ++ tl) (st ++ [.dct (kwd U w)]) /\ (∀ u ∈ U, (w u).length <= 3) /\ ∀ u ∈ U, ∀ c ∈ w u, c ∈ S := by
 obtain ⟨ρ', s', f1, w, v7, f2, f3, f4, f5⟩ := ZA (src := YlO 0 U.length) (g := YkM 7) (m := JY) (N := U.length) (ρ := [some (.ref 0), v1, v2, v3, some (.ref ku), some (.tup [tx S, rs]), some (.ref st.length), none] ++ tl) (st := st ++ [.dct []]) (List.range U.length) (fun (k : Nat) => P.int (0 + k))
  (fun i ρ s => ∃ (w : Nat -> List Nat) (v7 : Option P), ρ = [some (.ref 0), v1, v2, v3, some (.ref ku), some (.tup [tx S, rs]), some (.ref st.length), v7] ++ tl /\ s = st ++ [.dct (kwd (U.take i) w)] /\ (∀ u ∈ U.take i, (w u).length <= 3) /\ ∀ u ∈ U.take i, ∀ c ∈ w u, c ∈ S)
  (by simp) (fun i ρ s hi _ => nxR) ⟨fun _ => [], none, rfl, rfl, fun u h => (by simp at h), fun u h => (by simp at h)⟩
  (fun i hi ρ s ⟨w, v7, q1, q2, q3, q4⟩ => by
   show 206
   have hi' : i < U.length := by simpa using hi
   have ei : (List.range U.length)[i] = i := by simp
   rw [ei]
   show 189
   unfold JY
   have hl : (kwd (U.take i) w).length <= 6 := by unfold kwd; rw [List.length_map, List.length_take]; omega
   have kd : (st ++ [O.dct (kwd (U.take i) w)])[st.length]? = some (.dct (kwd (U.take i) w)) := Yq
   have gd : YkP st (st ++ [O.dct (kwd (U.take i) w)]) := YkP.one
   generalize hB : st ++ [O.dct (kwd (U.take i) w)] = B at kd gd
   have cA : Yo [.ref 0, .int (10 + (0 + (i : Int)))] B = .ok (.int (ns.getD (10 + i) 0)) B := by
    rw [show (10 : Int) + (0 + (i : Int)) = ((10 + i : Nat) : Int) by omega]
    exact VE (10 + i) (gd.get k0)
   obtain ⟨wd, d1, d2, d3⟩ := YcA (S := S) (cell := ns.getD (10 + i) 0) (most := 3) (st := B) hS.1 hS.2 (.inl rfl)
   have d3' : wd.length <= 3 := d3
   have hix : ixP (.ref ku) (.int (0 + (i : Int))) B = some (tx [U[i]], B) := ZZ (gd.get hu) (by omega) (by rw [show (0 + (i : Int)).toNat = i by omega, ZAj, ZAR hi']; rfl)
   show 150
   rw [cA]
   show 150
   rw [d1]
   show 150
   rw [hix]
   show 150
   rw [Yel kd (by omega)]
   show 150
   have hnot : U[i] ∉ U.take i := fun z => by
    rw [<- ZCX i U, ZCD] at hU
    refine hU.2.2 _ z U[i] ?_ rfl
    rw [ZCJ hi']
    exact ZAU ..
   refine ⟨_, _, rfl, fun c => if c = U[i] then wd else w c, some (.int (0 + (i : Int))), rfl, ?_, fun u hu' => ?_, fun u hu' => ?_⟩
   ·rw [<- hB, ZBi _ _ (ZAE _), ZCh, ZAm hi']
    rw [YfY (w' := fun c => if c = U[i] then wd else w c) hnot (ZAI rfl) (fun c hc => ZAJ (fun z => hnot (by rw [<- z]; exact hc)))]
    rfl
   ·show (if u = U[i] then wd else w u).length <= 3
    split
    ·exact d3'
    ·rename_i hne
     rw [ZAm hi'] at hu'
     rcases ZAY.mp hu' with z | z
     ·exact q3 u z
     ·exact absurd (ZAX.mp z) hne
   ·show ∀ c ∈ (if u = U[i] then wd else w u), c ∈ S
    split
    ·exact d2
    ·rename_i hne
     rw [ZAm hi'] at hu'
     rcases ZAY.mp hu' with z | z
     ·exact q4 u z
     ·exact absurd (ZAX.mp z) hne)
 rw [ZBe, ZA9] at f3 f4 f5
 exact ⟨w, v7, by rw [f1, f2, f3], f4, f5⟩
theorem rest {U : List Nat} {tb : Sys} {ku : Nat} {st : YkJ} (hu : listAt st ku = some (U.map fun c => tx [c])) (hU : ∀ c ∈ U, isUp c = true) (h6 : U.length <= 6) (hL : ∀ c ∈ Yk7 tb, c ∈ U \/ Ylm c = true) (hl : ∀ e ∈ tb, (e.1 ++ e.2).length <= 100) :
 ∃ (F : List Nat) (st' : YkJ), Yld (Ymg ku U.length) (YkM 0) (Ylb (YkK Ylo (YkH 0) (YkX 1 YA (YkI (YkH 1) YkN)))) (YkH 0) [none, some (.tup (tb.map YkW))] U.length 0 st [] = .ok (F.map fun c => tx [c]) st' /\ YkP st st' /\ (∀ c ∈ F, c ∈ U) /\ F.length <= 6 := by
 obtain ⟨acc, s', e1, F, e2, e3, e4, e5⟩ := Z6 (src := Ymg ku U.length) (g := YkM 0) (nt := Ylb (YkK Ylo (YkH 0) (YkX 1 YA (YkI (YkH 1) YkN)))) (me := YkH 0) (ρ0 := [none, some (.tup (tb.map YkW))]) (N := U.length)
  (fun i t acc => ∃ F : List Nat, acc = F.map (fun c => tx [c]) /\ F.length <= i /\ (∀ c ∈ F, c ∈ U) /\ YkP st t) (st := st) ⟨[], rfl, ZAE _, fun c h => (by cases h), YkP.refl⟩ (fun i t acc hi ⟨F, w1, w2, w3, w4⟩ => by
   subst w1
   obtain ⟨N, t', n1, n2, _⟩ := YaZ (tb := tb) (st := t) hU h6 hL hl
   refine ⟨tx [U[i]], _, by rw [nxK (w4.listAt hu), ZAR hi]; rfl, rfl, ?_⟩
   show 150
   rw [n1]
   show 150
   rw [Zu, Wz]
   show 150
   by_cases hc : U[i] ∈ N
   ·exact .inl ⟨t', by rw [ZAS hc]; rfl, F, rfl, by omega, w3, w4.trans n2⟩
   ·refine .inr ⟨t', _, t', by rw [ZAM hc]; rfl, rfl, by show _ < 1000000; rw [ZAO]; omega, F ++ [U[i]], by rw [ZAf]; rfl, by rw [ZAK, ZAW]; omega, fun c hc' => ?_, w4.trans n2⟩
    rcases ZAY.mp hc' with z | z
    ·exact w3 c z
    ·rw [ZAX.mp z]; exact ZAr hi) (fun t acc ⟨F, _, _, _, g⟩ => by rw [nxK (g.listAt hu), ZA2 (ZAE _)]; rfl)
 subst e2
 exact ⟨F, s', e1, e5, e4, by omega⟩
theorem Ygk {ρ : Rho} {i : Nat} {v : Option P} (h : ρ[i]? = some v) : ρ.set i v = ρ := by
 obtain ⟨h1, h2⟩ := ZAG.mp h
 rw [<- h2, ZCZ]
theorem Yiv {a : ME} {ρ : Rho} {st st1 : YkJ} {l : List Nat} (h : a ρ st = .ok (tx l) st1) (hl : l.length <= 1000000) : YmZ a ρ st = .ok (tx l.reverse) st1 := by
 have e : Ymd (sT l) = sT l.reverse := by rw [Yhq]; rfl
 unfold YmZ
 rw [h]
 show (if (Ymd (sT l)).length <= cap then R.ok (P.str (Ymd (sT l))) st1 else R.bad) = _
 rw [ZAI (by rw [e, Y1, List.length_reverse]; exact hl), e]
 rfl
theorem holds : Law 63 YbY := fun ns hl => by
 unfold YbY Yfg
 simp only [YgP, ZW]
 show 150
 generalize hst0 : [O.ro (ns.map P.int)] = st0
 have k0 : st0[0]? = some (.ro (ns.map P.int)) := by rw [<- hst0]; rfl
 rw [show (10 - 2 : Int).toNat = 8 from rfl, Zv (List.range 8) (fun (k : Nat) => P.int (2 + k)) (fun (k : Nat) => P.int (ns.getD (2 + k) 0)) (by simp) (fun i _ => nxR) (by simp) (fun k hk => ⟨_, rfl, by
  show 150
  rw [show (2 : Int) + (k : Int) = ((2 + k : Nat) : Int) by omega]
  rw [VE (2 + k) k0]
  rfl⟩)]
 show 150
 rw [show ((List.range 8).map fun (k : Nat) => P.int (ns.getD (2 + k) 0)) = ((List.range 8).map fun (k : Nat) => ns.getD (2 + k) 0).map P.int by rw [ZBA]; rfl]
 have h8 : ((List.range 8).map fun (k : Nat) => ns.getD (2 + k) 0).length = 8 := by simp
 generalize ((List.range 8).map fun (k : Nat) => ns.getD (2 + k) 0) = cs at h8
 generalize hA : st0 ++ [O.lst (cs.map P.int)] = A
 have gA : YkP st0 A := by rw [<- hA]; exact YkP.one
 have kA : A[st0.length]? = some (.lst (cs.map P.int)) := by rw [<- hA]; exact Yq
 have c0 : ∀ {s : YkJ}, YkP st0 s -> Yo [.ref 0, .int 0] s = .ok (.int (ns.getD 0 0)) s := fun g => VE 0 (g.get k0)
 have c1 : ∀ {s : YkJ}, YkP st0 s -> Yo [.ref 0, .int 1] s = .ok (.int (ns.getD 1 0)) s := fun g => VE 1 (g.get k0)
 have c13 : ∀ {s : YkJ}, YkP st0 s -> Yo [.ref 0, .int 13] s = .ok (.int (ns.getD 13 0)) s := fun g => VE 13 (g.get k0)
 rw [c0 gA]
 generalize ns.getD 0 0 = f
 show 150
 generalize hB : A ++ [O.lst [P.int (1 + f % 3), P.int (4 + f / 624 % 3)]] = B
 show 241
 have kB : B[A.length]? = some (.lst [P.int (1 + f % 3), P.int (4 + f / 624 % 3)]) := by rw [<- hB]; exact Yq
 obtain ⟨n, n1, n6, hn⟩ : ∃ n : Nat, 1 <= n /\ n <= 6 /\ ixP (.ref A.length) (.int (if (f / 78 % 8 == 5) = true then 1 else 0)) B = some (.int n, B) := by
  by_cases h : f / 78 % 8 = 5
  ·rw [Yna h]
   exact ⟨(4 + f / 624 % 3).toNat, by omega, by omega, ZZ kB (by decide) (by rw [show ((4 + f / 624 % 3).toNat : Int) = 4 + f / 624 % 3 by omega]; rfl)⟩
  ·rw [Ym8 h]
   exact ⟨(1 + f % 3).toNat, by omega, by omega, ZZ kB (by decide) (by rw [show ((1 + f % 3).toNat : Int) = 1 + f % 3 by omega]; rfl)⟩
 rw [hn]
 show 150
 rw [Ybt n6]
 have hUl : ((List.range n).map (unk (f / 3))).length = n := by simp
 have hUn := YeX (c := f / 3) n6
 have hUu : ∀ c ∈ (List.range n).map (unk (f / 3)), isUp c = true := fun c hc => by
  obtain ⟨k, _, rfl⟩ := ZA8.mp hc
  exact YjB
 generalize (List.range n).map (unk (f / 3)) = U at hUl hUn hUu
 show 150
 generalize hC : B ++ [O.lst (U.map fun d => tx [d])] = C
 have gC : YkP B C := by rw [<- hC]; exact YkP.one
 have kC : C[B.length]? = some (.lst (U.map fun d => tx [d])) := by rw [<- hC]; exact Yq
 have g0C : YkP st0 C := (gA.trans gB).trans gC
 rw [c1 g0C]
 show 150
 obtain ⟨S, rs, s1, t1, g1, M⟩ := Ycv (cell := ns.getD 1 0) (st := C)
 rw [t1]
 show 150
 obtain ⟨R, rfl, W⟩ := Yki M
 have s1' := M.s1
 have hS4 := M.s4
 have r1 := M.r1
 have r3 := M.r3
 have hrl : (Yk5 R).length = R.length := ZAO ..
 rw [hrl] at r1 r3
 have g01 : YkP st0 s1 := g0C.trans g1
 rw [ZC (YkP.one.get (g1.get kC)), ZAO]
 show 100
 obtain ⟨w, v7, w1, w2, w3⟩ := words (S := S) (U := U) (ns := ns) (rs := .tup (Yk5 R)) (ku := B.length) (st := s1) (v1 := some (.ref st0.length)) (v2 := some (.int f)) (v3 := some (.int n)) (tl := [none, none, none, none, none, none, none, none, none, none, none, none, none]) ⟨s1', hS4⟩ (g01.get k0) (g1.get kC) hUn (by omega) rfl
 have w1' : YlF (YlO 0 U.length) (YkM 7) JY U.length 0 [some (.ref 0), some (.ref st0.length), some (.int f), some (.int n), some (.ref B.length), some (.tup [tx S, .tup (Yk5 R)]), some (.ref s1.length), none, none, none, none, none, none, none, none, none, none, none, none, none, none] (s1 ++ [.dct []]) = _ := w1
 rw [w1']
 have D : Wd U S w := ⟨by omega, w2, w3, s1', hS4⟩
 generalize hE : s1 ++ [O.dct (kwd U w)] = E
 have gE : YkP s1 E := by rw [<- hE]; exact YkP.one
 have kE : E[s1.length]? = some (.dct (kwd U w)) := by rw [<- hE]; exact Yq
 have gCE : YkP C E := g1.trans gE
 have g0E : YkP st0 E := g01.trans gE
 have gAE : YkP A E := (gB.trans gC).trans gCE
 show 150
 obtain ⟨tb, s2, t2, g2, Dr⟩ := Ydh D (gAE.get kA) h8 (gCE.listAt (Yk kC)) kE
 rw [t2]
 show 150
 have hlow : ∀ c ∈ S, Ylm c = true := M.low
 have hside : ∀ e ∈ tb, (e.1 ++ e.2).length <= 22 := fun e he => by
  obtain ⟨_, a, _, b⟩ := Dr.a e he
  rw [ZAK]; omega
 have hLS : ∀ c ∈ Yk7 tb, c ∈ U \/ c ∈ S := fun c hc => by
  obtain ⟨e, he, h⟩ := mem_allL.mp hc
  obtain ⟨a, _, b, _⟩ := Dr.a e he
  rcases h with z | z
  ·exact a c z
  ·exact b c z
 have hall : (Yk7 tb).length <= 44 := by have := YdF hside; have := Dr.two; omega
 rw [Zm (g2.listAt (gCE.listAt (Yk kC)))]
 show 150
 rw [ZAO]
 obtain ⟨F, s3, t3, g3, F1, F2⟩ := rest (tb := tb) (g2.listAt (gCE.listAt (Yk kC))) hUu (by omega) (fun c hc => (hLS c hc).elim .inl fun z => .inr (hlow c z)) (fun e he => ZAH (hside e he) (by omega))
 rw [t3]
 show 150
 have grown : ∃ tb2 : Sys, (Yk7 tb2).length <= 56 /\ tb2.length <= 3 /\ (∀ e ∈ tb2, (e.1 ++ e.2).length <= 100) /\ (∀ c ∈ Yk7 tb2, c ∈ U \/ c ∈ S) /\ ∀ (ρ : Rho), ρ[3]? = some (some (.int n)) -> ρ[8]? = some (some (.tup (tb.map YkW))) -> ρ[9]? = some (some (tx F)) ->
  (sIf (Ylb (YkK gtP (YkH 3) (eC (.int 3)))) (Yk2 8 (YkK YkY (YkH 8) (Yl1 (YkI (Yl1 (YkI (YkH 9) (YkI (YmZ (YkH 9)) YkN))) YkN)))) YlG) ρ s3 = .nx (ρ.set 8 (some (.tup (tb2.map YkW)))) s3 := by
  by_cases h : (3 : Int) < n
  ·refine ⟨tb ++ [(F, F.reverse)], ?_, ?_, fun e he => ?_, fun c hc => ?_, fun ρ h3 h8 h9 => ?_⟩
   ·rw [WR, ZAK]
    have : (Yk7 [(F, F.reverse)]).length <= 12 := by simp [Yk7]; omega
    omega
   ·have := Dr.two; rw [ZAK, ZAW]; omega
   ·rcases ZAY.mp he with z | z
    ·exact ZAH (hside e z) (by omega)
    ·rw [List.mem_singleton.mp z]; simp; omega
   ·rw [WR] at hc
    rcases ZAY.mp hc with z | z
    ·exact hLS c z
    ·refine .inl (F1 c ?_)
     simpa [Yk7] using z
   ·have e9 : YkH 9 ρ s3 = .ok (tx F) s3 := by unfold YkH; rw [h9]
    have e8 : YkH 8 ρ s3 = .ok (.tup (tb.map YkW)) s3 := by unfold YkH; rw [h8]
    have e3 : YkH 3 ρ s3 = .ok (.int n) s3 := by unfold YkH; rw [h3]
    have er := Yiv e9 (by omega)
    have cpa : [tx F, tx F.reverse].length <= cap := (by show 2 <= 1000000; decide)
    have cpb : [P.tup [tx F, tx F.reverse]].length <= cap := (by show 1 <= 1000000; decide)
    simp only [if_pos cpa, if_pos cpb, Ydz, YbH, Ybj, e3, x_eC, Mi.R.bind_ok, J9, WL, RS.ofE_ok, decide_eq_true h, if_true, Ybk, e8, Yc2, Ybl, YcQ, e9, er]
    rw [WZ (by have := Dr.two; simp; omega)]
    simp only [WL, RS.ofE_ok, List.map_append, List.map_cons, List.map_nil]
    rfl
  ·refine ⟨tb, by omega, by have := Dr.two; omega, fun e he => ZAH (hside e he) (by omega), hLS, fun ρ h3 h8 h9 => ?_⟩
   have e3 : YkH 3 ρ s3 = .ok (.int n) s3 := by unfold YkH; rw [h3]
   simp only [Ydz, YbH, Ybj, e3, x_eC, Mi.R.bind_ok, J9, WL, RS.ofE_ok, decide_eq_false h, Bool.false_eq_true, if_false, YfD]
   congr 1
   exact (Ygk h8).symm
 obtain ⟨tb2, b1, b2, b3, b4, b5⟩ := grown
 rw [We (by omega)]
 simp only [Mi.R.bind_ok, RS.ofE_ok, RS.seq_nx, List.set_cons_succ, List.set_cons_zero]
 rw [Ze, b5 _ rfl rfl rfl, RS.seq_nx]
 simp only [List.set_cons_succ, List.set_cons_zero]
 show 150
 obtain ⟨N, s4, t4, g4, nn, nm, nU, nl⟩ := YaZ (tb := tb2) (st := s3) hUu (by omega) (fun c hc => (b4 c hc).elim .inl fun z => .inr (hlow c z)) b3
 rw [t4]
 show 150
 have gE4 : YkP E s4 := (g2.trans g3).trans g4
 have g04 : YkP st0 s4 := g0E.trans gE4
 rw [c13 g04]
 show 150
 obtain ⟨gs, s5, t5, g5, gl⟩ := Yd1 (S := S) (N := N) (R := R) (cell := ns.getD 13 0) (st := s4) nl r3
 rw [t5]
 have hgs : (gs.map fun g : List Int => P.tup (g.map P.int)) = gs.map Ylc := rfl
 rw [hgs]
 show 150
 have kE5 : s5[s1.length]? = some (.dct (kwd U w)) := (gE4.trans g5).get kE
 rw [Zv N (fun c => tx [c]) (fun c => tx (w c)) rfl (fun i hi => nxS hi) (by omega) (fun c hc => ⟨_, rfl, by
  show 150
  rw [Vv kE5 (V4 (nU c hc))]
  rfl⟩)]
 have hws : (N.map fun c => tx (w c)) = (N.map w).map tx := by rw [ZBA]; rfl
 rw [hws]
 have wl : (N.map w).length = N.length := ZAO ..
 have w3' : ∀ x ∈ N.map w, x.length <= 3 := fun x hx => by
  obtain ⟨c, hc, rfl⟩ := ZA8.mp hx
  exact w2 c (nU c hc)
 generalize N.map w = ws at wl w3'
 show 150
 rw [Z1 low26 (fun c => tx [c]) (fun c => !decide (c ∈ S)) (fun c => tx [c]) rfl (fun i hi => nxS hi) (by rw [Z8]; omega) (fun c hc => ⟨_, rfl, by
  show 150
  rw [Zu, Wz]
  rfl, fun _ => by try walk_at "ev"⟩)]
 have T22 := YcJ (S := S) hS4
 have hTn : ∀ c ∈ low26.filter (fun c => !decide (c ∈ S)), c ∉ S /\ Ylm c = true := fun c hc => by
  obtain ⟨a, b⟩ := ZBN.mp hc
  exact ⟨by simpa using b, mem_low26.mp a⟩
 have T26 : (low26.filter fun c => !decide (c ∈ S)).length <= 26 := ZAH (ZBJ _ _) (by rw [Z8]; omega)
 generalize low26.filter (fun c => !decide (c ∈ S)) = T at T22 hTn T26
 show 150
 generalize hH : s5 ++ [O.lst (T.map fun c => tx [c])] = Hs
 have gH : YkP s5 Hs := by rw [<- hH]; exact YkP.one
 have kH : Hs[s5.length]? = some (.lst (T.map fun c => tx [c])) := by rw [<- hH]; exact Yq
 have g0H : YkP st0 Hs := (g04.trans g5).trans gH
 generalize hI : Hs ++ [O.lst [P.int 3]] = Is
 have gI : YkP Hs Is := by rw [<- hI]; exact YkP.one
 have kI : Is[Hs.length]? = some (.lst [P.int 3]) := by rw [<- hI]; exact Yq
 have hsl := Yku (a := 14) (b := 54) ((g0H.trans gI).get k0) (by omega) (by omega)
 have hsl' : slP (.ref 0) (some 14) (some 54) Is = _ := hsl
 rw [hsl']
 have hdl : ((ns.drop 14).take (54 - 14)).length <= 63 := by rw [ZAu, ZAi]; omega
 generalize (ns.drop 14).take (54 - 14) = ds at hdl
 show 150
 generalize hJ : Is ++ [O.lst (ds.map P.int)] = Js
 have gJ : YkP Is Js := by rw [<- hJ]; exact YkP.one
 have kJ : Js[Is.length]? = some (.lst (ds.map P.int)) := by rw [<- hJ]; exact Yq
 rw [YeI (gJ.get kI) kJ (by simp; omega)]
 show 150
 rw [show P.int 3 :: ds.map P.int = (3 :: ds).map P.int from rfl]
 generalize hK : Js ++ [O.lst ((3 :: ds).map P.int)] = Ks
 have gK : YkP Js Ks := by rw [<- hK]; exact YkP.one
 have kK : Ks[Js.length]? = some (.lst ((3 :: ds).map P.int)) := by rw [<- hK]; exact Yq
 have gHK : YkP Hs Ks := (gI.trans gJ).trans gK
 rw [Zm (Yk kK)]
 show 150
 rw [ZAO]
 have hfit : Fit S tb2 := fun c hc hlc => by
  rcases b4 c hc with z | z
  ·exact absurd (hUu c z) (by rw [Vg hlc]; decide)
  ·exact z
 obtain ⟨ρ', s6, f1, v14, v15, v16, v17, v18, v19, f2, f3⟩ := ZA (src := Ymg Js.length (3 :: ds).length) (g := YkM 14) (m := Ybf) (N := (3 :: ds).length)
  (ρ := [some (.ref 0), some (.ref st0.length), some (.int f), some (.int n), some (.ref B.length), some (.tup [tx S, .tup (Yk5 R)]), some (.ref s1.length), v7, some (.tup (tb2.map YkW)), some (tx F), some (tx N), some (.tup (gs.map Ylc)), some (.tup (ws.map tx)), some (.ref s5.length), none, none, none, none, none, none, none]) (st := Ks) (3 :: ds) P.int
  (fun i ρ s => ∃ v14 v15 v16 v17 v18 v19, ρ = [some (.ref 0), some (.ref st0.length), some (.int f), some (.int n), some (.ref B.length), some (.tup [tx S, .tup (Yk5 R)]), some (.ref s1.length), v7, some (.tup (tb2.map YkW)), some (tx F), some (tx N), some (.tup (gs.map Ylc)), some (.tup (ws.map tx)), some (.ref s5.length), v14, v15, v16, v17, v18, v19, none] /\ YkP Ks s)
  rfl (fun i ρ s hi ⟨_, _, _, _, _, _, _, g⟩ => nxK (g.listAt (Yk kK))) ⟨none, none, none, none, none, none, rfl, YkP.refl⟩
  (fun i hi ρ s ⟨v14, v15, v16, v17, v18, v19, q1, q2⟩ => by
   subst q1
   show 189
   obtain ⟨s', w15, w16, w17, w18, w19, e1, e2⟩ := turn (S := S) (T := T) (N := N) (R := R) (tb := tb2) (gs := gs) (ws := ws) (cell := (3 :: ds)[i]) (s := s) (kT := s5.length) (v0 := some (.ref 0)) (v1 := some (.ref st0.length)) (v2 := some (.int f)) (v3 := some (.int n)) (v4 := some (.ref B.length)) (v6 := some (.ref s1.length)) (v7 := v7) (v9 := some (tx F)) (v15 := v15) (v16 := v16) (v17 := v17) (v18 := v18) (v19 := v19) W ⟨s1', hS4⟩ r1 (by omega) (by omega) hfit (by omega) wl nl w3' ((gHK.trans q2).get kH) (by omega) T26
   exact ⟨_, _, e1, _, _, _, _, _, _, rfl, q2.trans e2⟩)
 rw [show (3 :: ds).length = ds.length + 1 from rfl] at f1
 rw [f1, f2]
 have k6 := (gHK.trans f3).get kH
 have hTne : T ≠ [] := by intro z; rw [z] at T22; simp at T22
 obtain ⟨t0, Tr, hT0⟩ : ∃ t0 Tr, T = t0 :: Tr := by cases T with | nil => exact absurd rfl hTne | cons a r => exact ⟨a, r, rfl⟩
 obtain ⟨Ti, tz, hTz⟩ : ∃ Ti tz, T = Ti ++ [tz] := ⟨T.dropLast, T.getLast hTne, (ZB2 hTne).symm⟩
 have i0 : ixP (.ref s5.length) (.int 0) s6 = some (tx [t0], s6) := ZZ k6 (by decide) (by rw [hT0]; rfl)
 have iz : ixP (.ref s5.length) (.int (-1)) s6 = some (tx [tz], s6) := Yah (xs := Ti.map fun c => tx [c]) (by rw [k6, hTz, ZAf]; rfl)
 have ht0 := hTn t0 (by rw [hT0]; exact ZAU ..)
 have hl2 : (tb2.map YkW).length <= 3 := by rw [ZAO]; exact b2
 show 150
 rw [i0]
 show 150
 rw [iz]
 show 150
 rw [i0]
 show 150
 rw [iz]
 show 150
 have hd : P.tup [tx [t0, tz], tx [t0, tz]] = YkW ([t0, tz], [t0, tz]) := rfl
 obtain ⟨za, zb⟩ := Yf6 (gs := gs) (ws := ws) (by omega)
 have zl := YdR (gs := gs) (ws := ws) (by omega)
 have fin : ∀ tb3 : Sys, (Yk7 tb3).length <= 63 -> tb3.length <= 50 -> ¬ Fit S tb3 -> ∃ s7 s8 b, YD [.tup (tb3.map YkW), .tup [tx S, .tup (Yk5 R)], .tup (gs.map Ylc), .tup (ws.map tx)] s6 = .ok (.bl true) s7 /\
  Zl [.tup (tb2.map YkW), .tup [tx S, .tup (Yk5 R)], .tup (gs.map Ylc), .tup (ws.map tx)] s7 = .ok (.bl b) s8 /\ ∀ s, YR [.tup [tx S, .tup (Yk5 R)], .tup (gs.map Ylc), .tup (ws.map tx)] s = .ok (.bl b) s := by
  intro tb3 h1 h2 h3
  obtain ⟨s7, r7, r8⟩ := refused (S := S) (R := R) (tb := tb3) (Z := gs.zip ws) (st := s6) W r1 h1 h2 (by omega) (fun z hz => ZAH (w3' _ (YdM hz)) (by omega)) h3
  rw [za, zb] at r8
  obtain ⟨s8, b, y1, y2, y3⟩ := both (gs := gs) (ws := ws) (st := s7) W r1 (show (Yk7 tb2).length <= 63 by omega) (by omega) hfit (by omega) (by omega) (fun x hx => ZAH (w3' x hx) (by omega))
  exact ⟨s7, s8, b, r8, y2, y3⟩
 have nf : ∀ tb3 : Sys, t0 ∈ Yk7 tb3 -> ¬ Fit S tb3 := fun tb3 h z => ht0.1 (z t0 h ht0.2)
 have hone : (Yk7 [([t0, tz], [t0, tz])]).length = 4 := rfl
 by_cases hf2 : f / 2 % 2 = 1
 ·rw [Yna hf2]
  show 150
  rw [YfE]
  show 150
  obtain ⟨s7, s8, b, y1, y2, y3⟩ := fin (([t0, tz], [t0, tz]) :: tb2) (by rw [show ([t0, tz], [t0, tz]) :: tb2 = [([t0, tz], [t0, tz])] ++ tb2 from rfl, WR, List.length_append]; omega) (by rw [List.length_cons]; omega) (nf _ (by simp [Yk7]))
  rw [ZAe, <- hd] at y1
  rw [y1]
  show 151
  rw [y2]
  show 151
  rw [y3]
  show 151
  rw [Yh6]
  exact ⟨_, rfl⟩
 ·rw [Ym8 hf2]
  obtain ⟨s7, s8, b, y1, y2, y3⟩ := fin (tb2 ++ [([t0, tz], [t0, tz])]) (by rw [WR, List.length_append]; omega) (by rw [List.length_append, List.length_singleton]; omega) (nf _ (by rw [WR]; simp [Yk7]))
  rw [ZAf, ZAe, ZBh, <- hd] at y1
  show 151
  rw [y1]
  show 151
  rw [y2]
  show 151
  rw [y3]
  show 151
  rw [Yh6]
  exact ⟨_, rfl⟩
end G
end
def PySem.W.Fast.tw8448075951722873820 : Unit := ()
def PySem.W.Fast.tw11404993034248428936 : Unit := ()
def PySem.W.Fast.tw4194354836598355233 : Unit := ()
def PySem.W.Fast.tw12591680330802611582 : Unit := ()
def PySem.W.Fast.tw6647085873679856181 : Unit := ()
def PySem.W.Fast.tw6334759654547045088 : Unit := ()
def PySem.W.Fast.tw810926999832479550 : Unit := ()
def PySem.W.Fast.tw6621721381150691158 : Unit := ()
def PySem.W.Fast.tw1294727083691552299 : Unit := ()
def PySem.W.Fast.tw5431869412216136658 : Unit := ()
def PySem.W.Fast.tw6873366657809375165 : Unit := ()
def PySem.W.Fast.tw17502612846943149245 : Unit := ()
def PySem.W.Fast.tw16415140558581558988 : Unit := ()
def PySem.W.Fast.tw13288547311189251623 : Unit := ()
def PySem.W.Fast.tw15100734109192533534 : Unit := ()
def PySem.W.Fast.tw13740554508963347520 : Unit := ()
def PySem.W.Fast.tw15701528760147408580 : Unit := ()
def PySem.W.Fast.tw10077188354251392838 : Unit := ()
def PySem.W.Fast.tw14124126991854929677 : Unit := ()
def PySem.W.Fast.tw11329641038459917808 : Unit := ()
def PySem.W.Fast.tw4035595137382729831 : Unit := ()
def PySem.W.Fast.tw16649297815560080333 : Unit := ()
def PySem.W.Fast.tw2848600209694749253 : Unit := ()
def PySem.W.Fast.tw14848993255524860362 : Unit := ()
def PySem.W.Fast.tw10391641030179710348 : Unit := ()
def PySem.W.Fast.tw11328843626144333066 : Unit := ()
def PySem.W.Fast.tw2409014351912506884 : Unit := ()
def PySem.W.Fast.tw16738833091596704600 : Unit := ()
def PySem.W.Fast.tw13186925453009172421 : Unit := ()
def PySem.W.Fast.tw3168895876432103734 : Unit := ()
def PySem.W.Fast.tw4051634078450080727 : Unit := ()
def PySem.W.Fast.tw5769697083310161099 : Unit := ()
def PySem.W.Fast.tw11969990015889698371 : Unit := ()
def PySem.W.Fast.tw9237721214919521170 : Unit := ()
def PySem.W.Fast.tw17518054282781719279 : Unit := ()
def PySem.W.Fast.tw50233250730340705 : Unit := ()
def PySem.W.Fast.tw17015050418291547152 : Unit := ()
def PySem.W.Fast.tw262644146080203207 : Unit := ()
def PySem.W.Fast.tw16361614059659114695 : Unit := ()
def PySem.W.Fast.tw17032312148853464271 : Unit := ()
def PySem.W.Fast.tw1247945713031663363 : Unit := ()
def PySem.W.Fast.tw10945872185852635328 : Unit := ()
def PySem.W.Fast.tw15962822262424165223 : Unit := ()
open PySem PySem.W PyProof.Rows
set_option maxRecDepth 100000 in
set_option maxHeartbeats 0 in
theorem PySem.Challenge.cw_gapwords_k70_fillings_that_fit_holds : PySem.Challenge.rw_gapwords_k70_fillings_that_fit.Holds := by
 w_on; o_law; k_head; (case hw => w_witness2)
 k_fill
 refine G.walk rfl rfl (fun w h Y => PySem.W.kIn_of Y) (fun w => ?S) G.holds
 case S =>
  refine' ⟨(Mi.YkO.of ?_ ?_ ?_ ?_), (Mi.YkO.of ?_ ?_ ?_ ?_), (Mi.YkO.of ?_ ?_ ?_ ?_), (Mi.YkO.of ?_ ?_ ?_ ?_), (Mi.YkO.of ?_ ?_ ?_ ?_), (Mi.YkO.of ?_ ?_ ?_ ?_), (Mi.YkO.of ?_ ?_ ?_ ?_), (Mi.YkO.of ?_ ?_ ?_ ?_), (Mi.YkO.of ?_ ?_ ?_ ?_), (Mi.YkO.of ?_ ?_ ?_ ?_), (Mi.YkO.of ?_ ?_ ?_ ?_), (Mi.YkO.of ?_ ?_ ?_ ?_), (Mi.YkO.of ?_ ?_ ?_ ?_), (Mi.YkO.of ?_ ?_ ?_ ?_), (Mi.YkO.of ?_ ?_ ?_ ?_), (Mi.YkO.of ?_ ?_ ?_ ?_), (Mi.YkO.of ?_ ?_ ?_ ?_), (Mi.YkO.of ?_ ?_ ?_ ?_), (Mi.YkO.of ?_ ?_ ?_ ?_), (Mi.YkO.of ?_ ?_ ?_ ?_), (Mi.YkO.of ?_ ?_ ?_ ?_), (Mi.YkO.of ?_ ?_ ?_ ?_), (Mi.YkO.of ?_ ?_ ?_ ?_), (Mi.YkO.of ?_ ?_ ?_ ?_), (Mi.YkO.of ?_ ?_ ?_ ?_), ?_, ?_, ?_, ?_, ?_, ?_, ?_, ?_, ?_, ?_, (Mi.ExcAt.of ?_ ?_)⟩
  any_goals (first | k_is | k_exc | kit_is)
  all_goals kernel_rfl
#print axioms PySem.Challenge.cw_gapwords_k70_fillings_that_fit_holds
