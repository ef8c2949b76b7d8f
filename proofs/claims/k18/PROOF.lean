import PyProof.Rows.All
import Wide.All
import OpenK.AllK
import Wide.FinOn
import PyProof.EqAt
import PyProof.EqKinds
import PyProof.TupleCall
import Lean
import PySem.Challenge.RW_gapwords_k18_whole_answers_go_along
set_option Elab.async false
set_option linter.all false
set_option maxRecDepth 100000
namespace Tk
open PySem
theorem Ybp {M : Model} {Γ : Ctx} {p : Pos} {t : Sem Fin} {fs : List Frame} {s : Shared} {e : End} {s' : Shared} (h : Runs M Γ p t fs s e s') : s.toks <= s'.toks := by
 induction h <;> first | exact Nat.le_refl _ | assumption | (rename_i ih; exact Nat.le_trans (Nat.le_succ _) ih) | skip
 all_goals first | (rename_i ih1 ih2; exact Nat.le_trans ih1 ih2) | skip
theorem YeX {α : Type} {M : Model} {Γ : Ctx} {n : Nat} : ∀ (t : Sem α) {Q : α -> Pos -> Shared -> Prop} {E : Value -> Pos -> Shared -> Prop} {p : Pos} {s : Shared}, n <= s.toks -> Sem.wp M Γ t Q E p s ->
 Sem.wp M Γ t (fun a p' s' => Q a p' s' /\ n <= s'.toks) (fun e p' s' => E e p' s' /\ n <= s'.toks) p s := by
 intro t
 induction t with
 | pure a => intro Q E p s hn h; rw [Sem.wp] at h ⊢; exact ⟨h, hn⟩
 | raise e => intro Q E p s hn h; rw [Sem.wp] at h ⊢; exact ⟨h, hn⟩
 | unsupported _ => intro Q E p s hn h; rw [Sem.wp] at h; exact h.elim
 | finish _ => intro Q E p s hn h; rw [Sem.wp] at h; exact h.elim
 | rule _ k ih => intro Q E p s hn h; rw [Sem.wp] at h ⊢; exact ih _ hn h
 | «at» _ k ih => intro Q E p s hn h; rw [Sem.wp] at h ⊢; exact ih _ hn h
 | load _ _ k ih => intro Q E p s hn h; rw [Sem.wp] at h ⊢; obtain ⟨o, e, h⟩ := h; exact ⟨o, e, ih _ hn h⟩
 | update _ _ _ k ih => intro Q E p s hn h; rw [Sem.wp] at h ⊢; exact ⟨h.1, ih _ hn h.2⟩
 | alloc _ k ih => intro Q E p s hn h; rw [Sem.wp] at h ⊢; exact ih _ hn h
 | loadIfAlive _ k ih => intro Q E p s hn h; rw [Sem.wp] at h ⊢; exact ih _ hn h
 | point _ k ih => intro Q E p s hn h; rw [Sem.wp] at h ⊢; exact ih _ hn h
 | register _ _ _ => intro Q E p s hn h; rw [Sem.wp] at h; exact h.elim
 | fresh k ih => intro Q E p s hn h; rw [Sem.wp] at h ⊢; exact ih _ (Nat.le_trans hn (Nat.le_succ _)) h
 | ask k ih => intro Q E p s hn h; rw [Sem.wp] at h ⊢; exact ih _ hn h
 | choose _ _ k ih => intro Q E p s hn h; rw [Sem.wp] at h ⊢; exact ⟨h.1, ih _ hn h.2⟩
 | os _ _ k ih => intro Q E p s hn h; rw [Sem.wp] at h ⊢; exact ih _ hn h
 | call _ _ _ _ k ih =>
  intro Q E p s hn h; rw [Sem.wp] at h ⊢
  obtain ⟨r, s', h1, h2⟩ := h
  exact ⟨r, s', h1, ih _ (Nat.le_trans hn (Ybp h1)) h2⟩
 | handled _ k ih => intro Q E p s hn h; rw [Sem.wp] at h ⊢; exact ih _ hn h
 | newGen _ k ih => intro Q E p s hn h; rw [Sem.wp] at h ⊢; exact ih _ hn h
 | genState _ k ih => intro Q E p s hn h; rw [Sem.wp] at h ⊢; obtain ⟨o, e, h⟩ := h; exact ⟨o, e, ih _ hn h⟩
 | resume g r _ k ih =>
  intro Q E p s hn h; rw [Sem.wp] at h ⊢
  obtain ⟨res, s', h1, h2⟩ := h
  refine ⟨res, s', h1, ih _ (Nat.le_trans hn ?_) h2⟩
  unfold Wakes at h1
  split at h1
  ·exact h1.elim
  ·split at h1
   ·obtain ⟨e, s1, r1, _, _, rfl⟩ := h1; have z : (s.setGen g GenState.running).toks <= s1.toks := Ybp r1; exact z
   ·rw [h1.2]; exact Nat.le_refl _
   ·rw [h1.2]; exact Nat.le_refl _
  ·obtain ⟨e, s1, r1, _, _, rfl⟩ := h1; have z : (s.setGen g GenState.running).toks <= s1.toks := Ybp r1; exact z
  ·rw [h1.2]; exact Nat.le_refl _
  ·rw [h1.2]; exact Nat.le_refl _
 | yield _ _ _ _ _ => intro Q E p s hn h; rw [Sem.wp] at h; exact h.elim
 | stack k ih => intro Q E p s hn h; rw [Sem.wp] at h ⊢; exact ih _ hn h
 | fork _ _ _ => intro Q E p s hn h; rw [Sem.wp] at h; exact h.elim
 | thread k ih => intro Q E p s hn h; rw [Sem.wp] at h ⊢; exact ih _ hn h
 | await => intro Q E p s hn h; rw [Sem.wp] at h; exact h.elim
theorem wpAny_le {α : Type} {M : Model} {A : Around} {t : Sem α} {Q : α -> Shared -> Prop} {E : Value -> Shared -> Prop} {s : Shared}
 (h : wpAny M A t (fun a s' => s.toks <= s'.toks -> Q a s') (fun e s' => s.toks <= s'.toks -> E e s') s) : wpAny M A t Q E s := fun Γ p hΓ =>
 Sem.wp_mono M Γ t (fun _ _ _ z => z.1 z.2) (fun _ _ _ z => z.1 z.2) p s (YeX t (Nat.le_refl _) (h Γ p hΓ))
def Bumps {α : Type} (t : Sem α) : Prop := ∀ {M : Model} {Γ : Ctx} {Q : α -> Pos -> Shared -> Prop} {E : Value -> Pos -> Shared -> Prop} {p : Pos} {s : Shared}, Sem.wp M Γ t Q E p s -> Sem.wp M Γ t (fun a p' s' => Q a p' s' /\ s.toks < s'.toks) E p s
theorem Bumps.left {α β : Type} {m : Sem α} {k : α -> Sem β} (h : Bumps m) : Bumps (m >>= k) := fun {M Γ Q E p s} w => by
 rw [Sem.wp_bind'] at w ⊢
 refine Sem.wp_mono M Γ m (fun a p' s' z => ?_) (fun _ _ _ z => z) p s (h w)
 exact Sem.wp_mono M Γ (k a) (fun _ _ _ q => ⟨q.1, q.2⟩) (fun _ _ _ q => q.1) p' s' (YeX (n := s.toks + 1) (k a) z.2 z.1)
theorem Bumps.right {α β : Type} {m : Sem α} {k : α -> Sem β} (h : ∀ a, Bumps (k a)) : Bumps (m >>= k) := fun {M Γ Q E p s} w => by
 rw [Sem.wp_bind'] at w ⊢
 refine Sem.wp_mono M Γ m (fun a p' s' z => ?_) (fun _ _ _ z => z.1) p s (YeX (n := s.toks) m (Nat.le_refl _) w)
 exact Sem.wp_mono M Γ (k a) (fun _ _ _ q => ⟨q.1, Nat.lt_of_le_of_lt z.2 q.2⟩) (fun _ _ _ q => q) p' s' (h a z.1)
theorem YcS (x : Str) : Bumps (mkText x) := fun {M Γ Q E p s} w => by
 unfold mkText at w ⊢
 rw [Sem.wp_bind'] at w ⊢
 unfold fresh at w ⊢
 rw [Sem.wp_fresh] at w ⊢
 exact ⟨w, Nat.lt_succ_self _⟩
theorem Yb7 {env : Env} {x : Str} {v : Value} (hl : env.kindOf x = some .local) (hp : (env.scope.kind == .class || (env.scope.kind == .module && env.locals != env.globals)) = false) : Bumps (storeName env x v) := by
 rw [storeName_local hl hp]
 unfold nsSet
 exact Bumps.right fun _ => Bumps.left (YcS x)
theorem YdN {scope : Scope} {globals : Addr} {x : Str} {v : Value} {binds : List (Str × Value)} {qual : Str} {func : Option Addr} {code : Value} {builtins : Addr} (hk : scope.kind = .function) (hl : scope.names.lookup x = some .local) :
 Bumps (newFunctionEnv scope globals [] ((x, v) :: binds) qual func code none builtins) := by
 simp only [newFunctionEnv, Option.isSome_none, Bool.false_eq_true, if_false]
 refine Bumps.right fun a => Bumps.right fun cells => Bumps.left ?_
 rw [List.forIn_cons]
 refine Bumps.left (Bumps.left ?_)
 refine Yb7 ?_ ?_
 ·exact hl
 ·show (scope.kind == .class || (scope.kind == .module && _)) = false
  rw [hk]; rfl
theorem wpAny_env {M : Model} {A : Around} {E : Value -> Shared -> Prop} {s : Shared} {scope : Scope} {globals : Addr} {binds : List (Str × Value)} {qual : Str} {func : Option Addr} {code : Value} {builtins : Addr} {Q : Env -> Shared -> Prop} (hk : scope.kind = .function)
 (hpos : 0 < s.toks \/ ∃ x v r, binds = (x, v) :: r /\ scope.names.lookup x = some .local)
 (h : wpAny M A (newFunctionEnv scope globals [] binds qual func code none builtins) (fun e s' => s.toks <= s'.toks -> 0 < s'.toks -> Q e s') (fun e s' => s.toks <= s'.toks -> E e s') s) :
 wpAny M A (newFunctionEnv scope globals [] binds qual func code none builtins) Q E s := by
 rcases hpos with hp | ⟨x, v, r, rfl, hl⟩
 ·exact wpAny_le (wpAny_mono h (fun _ _ z le => z le (Nat.lt_of_lt_of_le hp le)) fun _ _ z => z)
 ·refine wpAny_le fun Γ p hΓ => ?_
  exact Sem.wp_mono M Γ _ (fun _ _ _ z le => z.1 le (Nat.lt_of_le_of_lt (Nat.zero_le _) z.2)) (fun _ _ _ z => z) p s (YdN hk hl (h Γ p hΓ))
end Tk
set_option Elab.async false
set_option linter.all false
set_option maxRecDepth 100000
namespace L2
open PySem PySem.Spec PyProof.Rows
abbrev Key := Sum Int Str
def keyIs : Key -> Value -> Bool
 | .inl k, v => Value.isInt k v
 | .inr x, v => Value.isStrOf x v
def keyH (w : World) : Key -> Int
 | .inl k => hashInt k
 | .inr x => hashStr w x
theorem Yw : ∀ {k : Key} {v : Value}, keyIs k v = true -> (∃ i t, k = Sum.inl i /\ v = Value.int i t) \/ (∃ x t, k = Sum.inr x /\ v = Value.str x t)
 | .inl i, v, h => by
  obtain ⟨t, e⟩ := Value.isInt_shape (k := i) (v := v) h
  exact .inl ⟨i, t, rfl, e⟩
 | .inr x, v, h => by
  obtain ⟨t, e⟩ := Value.isStrOf_shape (x := x) (v := v) h
  exact .inr ⟨x, t, rfl, e⟩
theorem Ydy (i : Int) (t : Tok) : keyIs (.inl i) (.int i t) = true := by simp [keyIs, Value.isInt]
theorem Yd0 (x : Str) (t : Tok) : keyIs (.inr x) (.str x t) = true := by simp [keyIs, Value.isStrOf]
theorem YhM (a b : Int) : decide ((Sum.inl a : Key) = Sum.inl b) = (a == b) := by
 by_cases e : a = b
 ·subst e; simp
 ·have h : ¬ (Sum.inl a : Key) = Sum.inl b := fun q => e (Sum.inl.inj q)
  rw [decide_eq_false h]
  exact (beq_eq_false_iff_ne.mpr e).symm
theorem YiM (a b : Str) : decide ((Sum.inr a : Key) = Sum.inr b) = decide (a = b) := by
 by_cases e : a = b
 ·subst e; simp
 ·have h : ¬ (Sum.inr a : Key) = Sum.inr b := fun q => e (Sum.inr.inj q)
  rw [decide_eq_false h, decide_eq_false e]
theorem Yh5 (a : Int) (b : Str) : decide ((Sum.inl a : Key) = Sum.inr b) = false := decide_eq_false (fun q => nomatch q)
theorem Yi4 (a : Str) (b : Int) : decide ((Sum.inr a : Key) = Sum.inl b) = false := decide_eq_false (fun q => nomatch q)
def mixKind (prog : Program) (w : World) : PySem.KeyKind prog w Key where
 is := keyIs
 hash := keyH w
 inj := fun v a b ha hb => by
  rcases Yw ha with ⟨i, t, rfl, rfl⟩ | ⟨x, t, rfl, rfl⟩
  ·rcases Yw hb with ⟨j, u, rfl, e⟩ | ⟨y, u, rfl, e⟩
   ·injection e with e1 _; rw [e1]
   ·exact nomatch e
  ·rcases Yw hb with ⟨j, u, rfl, e⟩ | ⟨y, u, rfl, e⟩
   ·exact nomatch e
   ·injection e with e1 _; rw [e1]
 byValue := fun k v h => by
  rcases Yw h with ⟨i, t, rfl, rfl⟩ | ⟨x, t, rfl, rfl⟩ <;> rfl
 pyHash := fun hv h => by
  rcases Yw hv with ⟨i, t, rfl, rfl⟩ | ⟨x, t, rfl, rfl⟩
  ·exact wpAny_pyHash_int h
  ·exact wpAny_pyHash_str h
 eqBool := fun hu hv h => by
  rcases Yw hu with ⟨i, t, rfl, rfl⟩ | ⟨x, t, rfl, rfl⟩
  ·rcases Yw hv with ⟨j, u, rfl, rfl⟩ | ⟨y, u, rfl, rfl⟩
   ·rw [YhM] at h; exact wpAny_eqBool_int h
   ·rw [Yh5] at h; exact SeqAt.EqAt.int_str i t y u _ _ _ _ h
  ·rcases Yw hv with ⟨j, u, rfl, rfl⟩ | ⟨y, u, rfl, rfl⟩
   ·rw [Yi4] at h; exact SeqAt.EqAt.str_int x t j u _ _ _ _ h
   ·rw [YiM] at h; exact wpAny_eqBool_str h
 «strs» := fun k x t v h => by
  rcases Yw h with ⟨i, u, rfl, e⟩ | ⟨y, u, rfl, e⟩
  ·exact nomatch e
  ·injection e with e1 _
   subst e1
   cases v <;> rfl
theorem VM (prog : Program) (w : World) (i : Int) (t : Tok) : (mixKind prog w).is (.inl i) (.int i t) = true := Ydy i t
theorem VR (prog : Program) (w : World) (x : Str) (t : Tok) : (mixKind prog w).is (.inr x) (.str x t) = true := Yd0 x t
end L2
namespace L2
open PySem PySem.Spec PyProof.Rows
inductive V where
 | non | bl (b : Bool) | int (i : Int) | str (x : Str) (t : Tok) | byt (b : Array UInt8) | flt (b : UInt64) | ref (a : Addr) | ty (n : String)
 deriving DecidableEq
def RelV : V -> Value -> Prop
 | .non, u => u = Value.none
 | .bl b, u => u = Value.bool b
 | .int i, u => ∃ t, u = Value.int i t
 | .str x t, u => u = Value.str x t
 | .byt b, u => ∃ t, u = Value.bytes b t
 | .flt b, u => ∃ t, u = Value.float b t
 | .ref a, u => u = Value.ref a
 | .ty n, u => u = Value.type n
abbrev Vals : List V -> List Value -> Prop := Paired RelV
theorem Vals.length {xs : List V} {us : List Value} (r : Vals xs us) : xs.length = us.length := Paired.length r
theorem Vals.get : ∀ {xs : List V} {us : List Value} {i : Nat} {x : V}, Vals xs us -> xs[i]? = some x -> ∃ u, us[i]? = some u /\ RelV x u
 | _, _, _, _, .nil, e => by simp at e
 | _, _, 0, _, .cons r _, e => by simp at e; subst e; exact ⟨_, rfl, r⟩
 | _, _, i + 1, x, .cons _ t, e => by
  obtain ⟨u, h1, h2⟩ := Vals.get (i := i) (x := x) t (by simpa using e)
  exact ⟨u, by simpa using h1, h2⟩
theorem Vals.set {x : V} {u : Value} (r : RelV x u) : ∀ {xs : List V} {us : List Value} (i : Nat), Vals xs us -> Vals (xs.set i x) (us.set i u)
 | _, _, _, .nil => .nil
 | _, _, 0, .cons _ t => .cons r t
 | _, _, i + 1, .cons q t => .cons q (Vals.set r i t)
theorem Vals.append : ∀ {xs ys : List V} {us ws : List Value}, Vals xs us -> Vals ys ws -> Vals (xs ++ ys) (us ++ ws)
 | _, _, _, _, .nil, s => s
 | _, _, _, _, .cons r t, s => .cons r (Vals.append t s)
theorem Vals.take : ∀ {xs : List V} {us : List Value} (n : Nat), Vals xs us -> Vals (xs.take n) (us.take n)
 | _, _, 0, _ => .nil
 | _, _, _ + 1, .nil => .nil
 | _, _, n + 1, .cons r t => .cons r (Vals.take n t)
theorem Vals.drop : ∀ {xs : List V} {us : List Value} (n : Nat), Vals xs us -> Vals (xs.drop n) (us.drop n)
 | _, _, 0, r => r
 | _, _, _ + 1, .nil => .nil
 | _, _, n + 1, .cons _ t => Vals.drop n t
def RelO : Option V -> Option Value -> Prop
 | some v, some u => RelV v u
 | none, none => True
 | _, _ => False
def KV {κ : Type} : List (κ × V) -> List (κ × Value) -> Prop := Paired fun (p : κ × V) (q : κ × Value) => p.1 = q.1 /\ RelV p.2 q.2
def kV : Key -> V
 | .inl i => .int i
 | .inr x => .str x 0
def KeyV : Key -> V -> Prop
 | .inl i, v => v = .int i
 | .inr x, v => ∃ t, v = .str x t
inductive HO where
 /-- a list -/
 | lst (xs : List V)
 /-- a tuple (never changes) -/
 | tup (xs : List V)
 /-- a dict whose keys are ints and texts; one whose keys are tuples of ints and texts (the empty one is both) -/
 | dK (kvs : List (Key × V)) | dT (kvs : List (List Key × V))
 /-- a set of ints: its members, its size -/
 | set (S : Int -> Bool) (n : Nat)
 /-- an instance of the class at C, its dict at dx, its attributes -/
 | ins (C dx : Addr) (fs : List (Str × V))
 /-- the dict of the instance at x -/
 | own (x : Addr)
 /-- the dict of an exception -/
 | xd (fs : List (Str × V))
 /-- a bound method, f of x -/
 | met (f x : Addr)
 /-- a range object lo, lo + 1, .. below hi -/
 | rng (lo hi : Int)
 /-- a thing that is known to the object (the script; a dict while a loop walks it): read, never written while it is so -/
 | frz (o : Obj) (u : HO)
 /-- a code object's table -/
 | tbl (ps : Array Value)
 /-- any other thing, by what is true of its one object (a def of one's own: SetO a S n := HO.ext fun h => ..) -/
 | ext (φ : Heap -> Prop)
structure Hp where
 f : Addr -> Option HO
 τ : Tok -> Option Str
instance : CoeFun Hp fun _ => Addr -> Option HO := ⟨Hp.f⟩
def Hp.put (H : Hp) (t : Tok) (x : Str) : Hp := ⟨H.f, fun u => if u = t then some x else H.τ u⟩
def TkOk (H : Hp) (n : Nat) : Prop := 0 < n /\ ∀ t, n <= t -> H.τ t = none
theorem TkOk.mono {H : Hp} {n m : Nat} (h : TkOk H n) (l : n <= m) : TkOk H m := ⟨Nat.lt_of_lt_of_le h.1 l, fun t q => h.2 t (Nat.le_trans l q)⟩
theorem TkOk.put {H : Hp} {n m t : Nat} {x : Str} (h : TkOk H n) (l : n <= t) (k : t < m) : TkOk (H.put t x) m := ⟨Nat.lt_of_le_of_lt (Nat.zero_le _) k, fun u q => by
 show (if u = t then some x else H.τ u) = none
 rw [if_neg (Nat.ne_of_gt (Nat.lt_of_lt_of_le k q)), h.2 u (Nat.le_trans (Nat.le_trans l (Nat.le_of_lt k)) q)]⟩
def upd (H : Hp) (a : Addr) (o : HO) : Hp := ⟨fun b => if b = a then some o else H b, H.τ⟩
theorem Yh {H : Hp} {a : Addr} {o : HO} : upd H a o a = some o := if_pos rfl
theorem Ye {H : Hp} {a b : Addr} {o : HO} (h : b ≠ a) : upd H a o b = H b := if_neg h
theorem Yjz {H : Hp} {a b : Addr} {o u : HO} (h : H a = some o) (h' : H b = some u) (d : o ≠ u) : a ≠ b := by
 intro e; subst e; rw [h] at h'; exact d (Option.some.inj h')
theorem Ym {H : Hp} {a b : Addr} {o : HO} (h : H a = some o) (h' : H b = none) : a ≠ b := by
 intro e; subst e; rw [h] at h'; cases h'
section
variable (P : Program) (w : World)
def ObjOk (H : Hp) (h : Heap) (a : Addr) : HO -> Prop
 | .lst xs => xs.length <= sizeLine /\ ∃ (its : List Value) (n : Nat), Vals xs its /\ h.get? a = some { cls := .type "list", data := .seq its.toArray n }
 | .tup xs => xs.length <= sizeLine /\ ∃ its : List Value, Vals xs its /\ IsTup h a its.toArray
 | .dK kvs => kvs.length <= sizeLine /\ (a == sysModules) = false /\ ∃ vs, KV kvs vs /\ h.DictOf (mixKind P w) a vs
 | .dT kvs => kvs.length <= sizeLine /\ (a == sysModules) = false /\ ∃ xs : List (List Key × Addr × Value),
  Paired (fun (p : List Key × V) (q : List Key × Addr × Value) => p.1 = q.1 /\ H q.2.1 = some (.tup (p.1.map kV)) /\ RelV p.2 q.2.2) kvs xs /\
  ∃ o es ep, h.get? a = some o /\ o.ExactDict /\ o.data = .dict es ep /\ es.toList = xs.map (entryOfKey (tupleKind (mixKind P w))) /\ (xs.map (·.1)).Nodup
 | .set S n => h.SetOf (intKind P w) a S n
 | .ins C dx fs => H dx = some (.own a) /\ fs.length <= 1000 /\ dx ≠ a /\ h.get? a = some (PySem.W.instObj C dx) /\
  ∃ mA, h.Ns1 dx mA /\ (∀ f, RelO (fs.lookup f) (mA f)) /\ PySem.Within mA (fs.map (·.1))
 | .own _ => ∃ o, h.get? a = some o
 | .xd fs => ∃ mA, h.Ns1 a mA /\ ∀ f, RelO (fs.lookup f) (mA f)
 | .rng lo hi => ∃ t u v, h.get? a = some { cls := .type "range", data := .fields #[.int lo t, .int hi u, .int 1 v] }
 | .frz o u => h.get? a = some o /\ ObjOk H h a u
 | .tbl ps => h.get? a = some { cls := .none, data := .fields ps }
 | .met f x => h.get? a = some (PySem.W.methodObj (.ref f) (.ref x))
 | .ext φ => φ h /\ (∃ o, h.get? a = some o) /\ ∀ h1 h2 : Heap, φ h1 -> (∀ o, h1.get? a = some o -> h2.get? a = some o) -> φ h2
def HOk (H : Hp) (h : Heap) : Prop := ∀ a o, H a = some o -> ObjOk P w H h a o
end
section
variable {P : Program} {w : World} {H H' : Hp} {h h' : Heap} {a : Addr} {o : HO}
theorem ObjOk.lt (x : ObjOk P w H h a o) : a < h.objs.size := by
 cases o with
 | lst xs => obtain ⟨_, _, _, _, e⟩ := x; exact Heap.lt_size e
 | tup xs => obtain ⟨_, _, _, p⟩ := x; exact p.lt
 | dK kvs => obtain ⟨_, _, _, _, o, _, _, e, _⟩ := x; exact Heap.lt_size e
 | dT kvs => obtain ⟨_, _, _, _, o, _, _, e, _⟩ := x; exact Heap.lt_size e
 | set S n => obtain ⟨o, _, _, _, e, _⟩ := x; exact Heap.lt_size e
 | ins C dx fs => obtain ⟨_, _, _, e, _⟩ := x; exact Heap.lt_size e
 | own y => obtain ⟨_, e⟩ := x; exact Heap.lt_size e
 | xd fs => obtain ⟨_, ⟨_, _, _, e, _⟩, _⟩ := x; exact Heap.lt_size e
 | rng lo hi => obtain ⟨_, _, _, e⟩ := x; exact Heap.lt_size e
 | frz ob u => obtain ⟨e, _⟩ := x; exact Heap.lt_size e
 | tbl ps => exact Heap.lt_size (show h.get? a = some _ from x)
 | met f y => exact Heap.lt_size (show h.get? a = some _ from x)
 | ext φ => obtain ⟨_, ⟨_, e⟩, _⟩ := x; exact Heap.lt_size e
theorem Paired.mapP {α β : Type} {F G : α -> β -> Prop} : ∀ {l₁ : List α} {l₂ : List β}, Paired F l₁ l₂ -> (∀ a b, F a b -> G a b) -> Paired G l₁ l₂
 | _, _, .nil, _ => .nil
 | _, _, .cons r t, f => .cons (f _ _ r) (Paired.mapP t f)
theorem ObjOk.stay (x : ObjOk P w H h a o) (k : ∀ b u, (b = a \/ H b = some (.own a)) -> h.get? b = some u -> h'.get? b = some u)
 (ho : ∀ b, H b = some (.own a) -> H' b = some (.own a)) (ht : ∀ b xs, H b = some (.tup xs) -> H' b = some (.tup xs)) : ObjOk P w H' h' a o := by
 induction o with
 | lst xs => obtain ⟨z, its, n, r, e⟩ := x; exact ⟨z, its, n, r, k _ _ (.inl rfl) e⟩
 | tup xs => obtain ⟨z, its, r, ob, e, c⟩ := x; exact ⟨z, its, r, ob, k _ _ (.inl rfl) e, c⟩
 | dK kvs => obtain ⟨z, y, vs, r, ob, es, ep, e, c⟩ := x; exact ⟨z, y, vs, r, ob, es, ep, k _ _ (.inl rfl) e, c⟩
 | dT kvs =>
  obtain ⟨z, y, xs, r, ob, es, ep, e, c⟩ := x
  exact ⟨z, y, xs, Paired.mapP r fun p q z => ⟨z.1, ht _ _ z.2.1, z.2.2⟩, ob, es, ep, k _ _ (.inl rfl) e, c⟩
 | set S n => obtain ⟨ob, es, ep, t, e, c⟩ := x; exact ⟨ob, es, ep, t, k _ _ (.inl rfl) e, c⟩
 | ins C dx fs =>
  obtain ⟨d, z, ne, e, mA, ⟨od, es, ep, e2, c⟩, r⟩ := x
  exact ⟨ho _ d, z, ne, k _ _ (.inl rfl) e, mA, ⟨od, es, ep, k _ _ (.inr d) e2, c⟩, r⟩
 | own y => obtain ⟨ob, e⟩ := x; exact ⟨ob, k _ _ (.inl rfl) e⟩
 | xd fs => obtain ⟨mA, ⟨od, es, ep, e, c⟩, r⟩ := x; exact ⟨mA, ⟨od, es, ep, k _ _ (.inl rfl) e, c⟩, r⟩
 | rng lo hi => obtain ⟨t, u, v, e⟩ := x; exact ⟨t, u, v, k _ _ (.inl rfl) e⟩
 | frz ob u ih => obtain ⟨e, q⟩ := x; exact ⟨k _ _ (.inl rfl) e, ih q⟩
 | tbl ps =>
  have e : h.get? a = some { cls := .none, data := .fields ps } := x
  show h'.get? a = some { cls := .none, data := .fields ps }
  exact k a _ (.inl rfl) e
 | met f y =>
  have e : h.get? a = some (PySem.W.methodObj (.ref f) (.ref y)) := x
  show h'.get? a = some (PySem.W.methodObj (.ref f) (.ref y))
  exact k a _ (.inl rfl) e
 | ext φ => obtain ⟨p, ⟨o, e⟩, st⟩ := x; exact ⟨st _ _ p fun o q => k _ _ (.inl rfl) q, ⟨o, k _ _ (.inl rfl) e⟩, st⟩
theorem HOk.lt (x : HOk P w H h) (e : H a = some o) : a < h.objs.size := (x a o e).lt
theorem HOk.fresh (x : HOk P w H h) (e : h.objs.size <= a) : H a = none := by
 cases q : H a with
 | none => rfl
 | some u => exact absurd (Nat.lt_of_lt_of_le (x.lt q) e) (Nat.lt_irrefl _)
theorem HOk.kept (x : HOk P w H h) (k : ∀ b u, h.get? b = some u -> h'.get? b = some u) : HOk P w H h' := fun a o e =>
 (x a o e).stay (fun b u _ q => k b u q) (fun _ q => q) fun _ _ q => q
theorem HOk.put {t : Tok} {x : Str} (k : HOk P w H h) : HOk P w (H.put t x) h := fun a o e => (k a o e).stay (fun _ _ _ q => q) (fun _ q => q) fun _ _ q => q
theorem HOk.laid (x : HOk P w H h) (k : ∀ b u, h.get? b = some u -> h'.get? b = some u) (hp : h.objs.size <= a) (new : ObjOk P w (upd H a o) h' a o) : HOk P w (upd H a o) h' := fun b u e => by
 have hn := x.fresh hp
 by_cases hb : b = a
 ·subst hb; rw [Yh] at e; cases e; exact new
 ·rw [Ye hb] at e
  exact (x b u e).stay (fun c v _ q => k c v q) (fun c q => by rw [Ye (Ym q hn)]; exact q) fun c xs q => by rw [Ye (Ym q hn)]; exact q
end
def Rd (H : Hp) (a : Addr) (u : HO) : Prop := H a = some u \/ ∃ o, H a = some (.frz o u)
theorem Rd.ok {P : Program} {w : World} {H : Hp} {h : Heap} {a : Addr} {u : HO} (r : Rd H a u) (x : HOk P w H h) : ObjOk P w H h a u := by
 rcases r with r | ⟨o, r⟩
 ·exact x a u r
 ·obtain ⟨_, q⟩ := x a _ r
  exact q
def Mut : Option HO -> Prop
 | some (.lst _) => True
 | some (.dK _) => True
 | some (.dT _) => True
 | some (.set _ _) => True
 | some (.ins _ _ _) => True
 | some (.ext _) => True
 | _ => False
section
variable {P : Program} {w : World} {H : Hp} {h h' : Heap} {x e : Addr} {o' : HO}
theorem HOk.write (ok : HOk P w H h) (mu : Mut (H x)) (he : e = x \/ H e = some (.own x)) (k : ∀ b u, b ≠ e -> h.get? b = some u -> h'.get? b = some u) (heo : ∃ u, h'.get? e = some u)
 (new : ObjOk P w (upd H x o') h' x o') : HOk P w (upd H x o') h' := fun b u q => by
 have nown : ∀ c y, H c = some (.own y) -> c ≠ x := fun c y r z => by subst z; rw [r] at mu; exact mu
 have ntup : ∀ c xs, H c = some (.tup xs) -> c ≠ x := fun c xs r z => by subst z; rw [r] at mu; exact mu
 by_cases hb : b = x
 ·subst hb; rw [Yh] at q; cases q; exact new
 ·rw [Ye hb] at q
  by_cases hbe : b = e
  ·have q' : H b = some (.own x) := by
    rcases he with z | z
    ·exact absurd (hbe.trans z) hb
    ·rw [hbe]; exact z
   rw [q] at q'; cases q'
   obtain ⟨v, hv⟩ := heo
   exact ⟨v, by rw [hbe]; exact hv⟩
  ·refine (ok b u q).stay (fun c v hc r => k c v ?_ r) (fun c r => by rw [Ye (nown c b r)]; exact r) fun c xs r => by rw [Ye (ntup c xs r)]; exact r
   rcases hc with rfl | hc
   ·exact hbe
   ·rintro rfl
    rcases he with z | z
    ·exact nown c b hc z
    ·rw [hc] at z; cases z; exact hb rfl
end
structure Un (fs ex : List Addr) (H H' : Hp) (h h' : Heap) : Prop where
 keep : ∀ b o, h.get? b = some o -> H b = none -> b ∉ fs -> b ∉ ex -> h'.get? b = some o
 slot : ∀ b o, h.get? b = some o -> H b = none -> b ∈ fs -> b ∉ ex -> ∃ sl, h'.get? b = some { o with slots := sl }
 free : ∀ b o, h.get? b = some o -> H b = none -> b ∉ ex -> H' b = none
 there : ∀ b o, h.get? b = some o -> b ∉ ex -> ∃ o', h'.get? b = some o'
 tups : ∀ b xs, H b = some (.tup xs) -> H' b = some (.tup xs)
 frzs : ∀ b o u, H b = some (.frz o u) -> H' b = some (.frz o u)
 tbls : ∀ b ps, H b = some (.tbl ps) -> ∃ more, H' b = some (.tbl (ps ++ more))
section
variable {fs fs' ex ex' : List Addr} {H H1 H2 : Hp} {h h1 h2 h' : Heap} {a x e : Addr} {o : HO}
theorem Un.any (u : Un fs ex H H1 h h1) {b : Addr} {ob : Obj} (q : h.get? b = some ob) (n : H b = none) (hx : b ∉ ex) : ∃ sl, h1.get? b = some { ob with slots := sl } := by
 by_cases hb : b ∈ fs
 ·exact u.slot b ob q n hb hx
 ·exact ⟨ob.slots, u.keep b ob q n hb hx⟩
theorem Un.trans (a : Un fs ex H H1 h h1) (b : Un fs ex H1 H2 h1 h2) : Un fs ex H H2 h h2 where
 keep := fun c ob q n hc hx => b.keep c ob (a.keep c ob q n hc hx) (a.free c ob q n hx) hc hx
 slot := fun c ob q n hc hx => by
  obtain ⟨sl, e1⟩ := a.slot c ob q n hc hx
  obtain ⟨sl', e2⟩ := b.slot c _ e1 (a.free c ob q n hx) hc hx
  exact ⟨sl', e2⟩
 free := fun c ob q n hx => by
  obtain ⟨o', e1⟩ := a.there c ob q hx
  exact b.free c o' e1 (a.free c ob q n hx) hx
 there := fun c ob q hx => by
  obtain ⟨o', e1⟩ := a.there c ob q hx
  exact b.there c o' e1 hx
 tups := fun c xs q => b.tups c xs (a.tups c xs q)
 frzs := fun c ob xs q => b.frzs c ob xs (a.frzs c ob xs q)
 tbls := fun c ps q => by
  obtain ⟨m1, e1⟩ := a.tbls c ps q
  obtain ⟨m2, e2⟩ := b.tbls c _ e1
  exact ⟨m1 ++ m2, by rw [e2, Array.append_assoc]⟩
theorem Un.kept (k : ∀ b u, h.get? b = some u -> h'.get? b = some u) : Un fs ex H H h h' :=
 ⟨fun b ob q _ _ _ => k b ob q, fun b ob q _ _ _ => ⟨ob.slots, k b ob q⟩, fun _ _ _ n _ => n, fun b ob q _ => ⟨ob, k b ob q⟩, fun _ _ q => q, fun _ _ _ q => q, fun _ ps q => ⟨#[], by rw [q]; simp⟩⟩
theorem Un.refl : Un fs ex H H h h := Un.kept fun _ _ q => q
theorem Un.put {t : Tok} {x : Str} : Un fs ex H (H.put t x) h h :=
 ⟨fun _ _ q _ _ _ => q, fun _ ob q _ _ _ => ⟨ob.slots, q⟩, fun _ _ _ n _ => n, fun _ ob q _ => ⟨ob, q⟩, fun _ _ q => q, fun _ _ _ q => q, fun _ ps q => ⟨#[], by rw [Array.append_empty]; exact q⟩⟩
theorem Un.laid (k : ∀ b u, h.get? b = some u -> h'.get? b = some u) (hp : h.objs.size <= a) (hn : H a = none) : Un fs ex H (upd H a o) h h' where
 keep := fun b u q _ _ _ => k b u q
 slot := fun b u q _ _ _ => ⟨u.slots, k b u q⟩
 free := fun b u q n _ => by rw [Ye (Nat.ne_of_lt (Nat.lt_of_lt_of_le (Heap.lt_size q) hp))]; exact n
 there := fun b u q _ => ⟨u, k b u q⟩
 tups := fun b xs q => by rw [Ye (Ym q hn)]; exact q
 frzs := fun b u xs q => by rw [Ye (Ym q hn)]; exact q
 tbls := fun b ps q => ⟨#[], by rw [Ye (Ym q hn), q]; simp⟩
theorem Un.write (mu : Mut (H x)) (he : e = x \/ H e = some (.own x)) (k : ∀ b u, b ≠ e -> h.get? b = some u -> h'.get? b = some u) (heo : ∃ u, h'.get? e = some u) : Un fs ex H (upd H x o) h h' := by
 have hx : ∀ b, H b = none -> b ≠ x := fun b n z => by subst z; rw [n] at mu; exact mu
 have hb : ∀ b, H b = none -> b ≠ e := fun b n z => by
  subst z
  rcases he with r | r
  ·exact hx b n r
  ·rw [n] at r; cases r
 have hm : ∀ b u, H b = some u -> ¬ Mut (some u) -> b ≠ x := fun b u q nm z => by subst z; rw [q] at mu; exact nm mu
 refine ⟨fun b u q n _ _ => k b u (hb b n) q, fun b u q n _ _ => ⟨u.slots, k b u (hb b n) q⟩, fun b u q n _ => by rw [Ye (hx b n)]; exact n, fun b u q _ => ?_,
  fun b xs q => by rw [Ye (hm b _ q fun z => z)]; exact q, fun b u xs q => by rw [Ye (hm b _ q fun z => z)]; exact q, fun b ps q => ⟨#[], by rw [Ye (hm b _ q fun z => z), q]; simp⟩⟩
 by_cases hbe : b = e
 ·subst hbe; exact heo
 ·exact ⟨u, k b u hbe q⟩
theorem Un.mono (u : Un fs ex H H1 h h1) (hs : ∀ b ∈ fs, b ∈ fs') (hx : ∀ b ∈ ex, b ∈ ex') : Un fs' ex' H H1 h h1 :=
 ⟨fun b ob q n hb he => u.keep b ob q n (fun z => hb (hs b z)) fun z => he (hx b z), fun _ _ q n _ he => u.any q n fun z => he (hx _ z), fun b ob q n he => u.free b ob q n fun z => he (hx b z), fun b ob q he => u.there b ob q fun z => he (hx b z), u.tups, u.frzs, u.tbls⟩
end
def trk (h : Heap) (H : Hp) : List Addr := (List.range h.objs.size).filter fun a => (H a).isSome
def hidT (h : Heap) (H : Hp) : Heap := PySem.W.hideAll h (trk h H)
theorem Yez (h : Heap) (H : Hp) : (hidT h H).objs.size = h.objs.size := PySem.W.hideAll_size _ _
theorem YfJ {h : Heap} {H : Hp} {b : Addr} {o : Obj} (e : h.get? b = some o) (n : H b = none) : (hidT h H).get? b = some o :=
 PySem.W.hideAll_get _ e fun hm => by
  have q : (H b).isSome = true := (List.mem_filter.mp hm).2
  rw [n] at q; simp at q
theorem Yhd {h : Heap} {H : Hp} {b : Addr} {o : Obj} (e : (hidT h H).get? b = some o) : h.get? b = some o /\ H b = none := by
 have e' : h.get? b = some o := PySem.W.of_hideAll (trk h H) e
 refine ⟨e', ?_⟩
 cases q : H b with
 | none => rfl
 | some x =>
  have hm : b ∈ trk h H := List.mem_filter.mpr ⟨List.mem_range.mpr (Heap.lt_size e'), by simp [q]⟩
  have z : (hidT h H).get? b = none := PySem.W.hideAll_none (trk h H) hm
  rw [z] at e; cases e
def allNews (g h : Heap) (L : Addr) : List (Addr × Obj) := (List.range h.objs.size).filterMap fun a => if a = L \/ (g.get? a).isSome = true then none else (h.get? a).map fun o => (a, o)
def rest (g h : Heap) (L d : Addr) : List (Addr × Obj) := (allNews g h L).filter fun p => decide (p.1 ≠ d)
end L2
namespace L2
open PySem PySem.Spec PyProof.Rows
structure Mod (K : PySem.W.Frag) (mg : Str -> Option Value) (base : Heap) : Prop where
 kin : K.In base
 glob : base.Ns mainGlobals mg
 blt : ∃ mb, base.Ns builtinsNs mb /\ ∀ x : Str, x ≠ "__name__" -> mb x = bootBuiltins x
 nolimit : base.NoLimit
structure Cx where
 prog : Program
 w : World
 K : PySem.W.Frag
 mg : Str -> Option Value
 base : Heap
 A : Around
 N : List Str
 s₀ : Shared
 H₀ : Hp
 env : Env
 outer : List Env
 stack : List Env
 ex : List Addr
 fn : Str -> Bool
 calm : Bool
 pn : List (Addr × Obj)
 xe : Value -> Shared -> Prop
def frs (l : List Env) : List Addr := l.filterMap (·.frame)
abbrev Cx.fs (X : Cx) : List Addr := frs X.outer
def Vis (sc : Scope) (x : Str) : Prop := sc.names.lookup x = some .local \/ sc.names.lookup x = some .cell \/ sc.names.lookup x = some .free
def Loc (sc : Scope) (x : Str) : Prop := sc.names.lookup x = some .local \/ sc.names.lookup x = some .cell
def Look (env : Env) (h : Heap) (m : Str -> Option Value) (x : Str) (u : Value) : Prop :=
 (env.kindOf x = some .local /\ m x = some u) \/ ((env.kindOf x = some .cell \/ env.kindOf x = some .free) /\ ∃ c, env.cells.lookup x = some c /\ h.IsCell c (some u))
structure Cx.Ok (X : Cx) : Prop where
 mod : Mod X.K X.mg X.base
 kind : X.env.scope.kind = .function
 glob : X.env.globals = mainGlobals
 blt : X.env.builtins = builtinsNs
 above : X.s₀.heap.objs.size <= X.env.locals
 inj : ∀ x y c, X.env.cells.lookup x = some c -> X.env.cells.lookup y = some c -> x = y
 has : ∀ x, (X.env.kindOf x = some .cell \/ X.env.kindOf x = some .free) -> ∃ c, X.env.cells.lookup x = some c
 cab : ∀ x c, X.fn x = true -> X.env.cells.lookup x = some c -> X.s₀.heap.objs.size <= c
 hd : X.calm = true -> X.A.handled = none
 frames : X.A.frames = some X.stack
 stk : X.stack = X.outer \/ (X.stack = X.env :: X.outer /\ X.env.frame = some X.env.locals)
 exf : ∀ b ∈ X.ex, b ≠ X.env.locals /\ ∀ x c, X.env.cells.lookup x = some c -> c ≠ b
 bs : ∀ b o, X.base.get? b = some o -> X.s₀.heap.get? b = some o /\ X.H₀ b = none
 bsz : X.base.objs.size <= X.s₀.heap.objs.size
 noex : ∀ b o, X.base.get? b = some o -> b ∉ X.ex
 exfs : ∀ b ∈ X.ex, b ∉ X.fs
 funs : X.s₀.heap.FunFrames X.base X.outer
 frf : ∀ b ∈ X.fs, X.H₀ b = none
structure Inv (X : Cx) (pins : List (Addr × Obj)) (σ : List (Option V)) (H : Hp) (s : Shared) : Prop where
 ok : X.Ok
 os : s.os = X.s₀.os
 bare : AllBare s.gens
 base : Un X.fs X.ex X.H₀ H X.s₀.heap s.heap
 loc : ∃ m, s.heap.Ns X.env.locals m /\ ∀ (i : Nat) (x : Str) (v : V), X.N[i]? = some x -> σ[i]? = some (some v) -> Vis X.env.scope x -> ∃ u, RelV v u /\ Look X.env s.heap m x u
 cell : ∀ x c, X.env.cells.lookup x = some c -> ∃ v, s.heap.IsCell c v
 free : H X.env.locals = none
 freeC : ∀ x c, X.env.cells.lookup x = some c -> H c = none
 pin : ∀ p ∈ X.pn ++ pins, s.heap.get? p.1 = some p.2 /\ H p.1 = none /\ p.1 ≠ X.env.locals /\ p.1 ∉ X.fs /\ ∀ v, p.2.data ≠ .cell v
 hok : HOk X.prog X.w H s.heap
 len : σ.length = X.N.length
 tk : TkOk H s.toks
section
variable {X : Cx} {pins : List (Addr × Obj)} {σ : List (Option V)} {H H' : Hp} {s : Shared} {h' : Heap}
theorem Cx.Ok.nofr (ok : X.Ok) {b : Addr} {o : Obj} (e : X.base.get? b = some o) : b ∉ X.fs := fun hb => by
 have := (ok.funs.mem hb).1
 rw [e] at this; cases this
theorem Inv.bs (I : Inv X pins σ H s) : ∀ b o, X.base.get? b = some o -> s.heap.get? b = some o /\ H b = none := fun b o e =>
 ⟨I.base.keep b o (I.ok.bs b o e).1 (I.ok.bs b o e).2 (I.ok.nofr e) (I.ok.noex b o e), I.base.free b o (I.ok.bs b o e).1 (I.ok.bs b o e).2 (I.ok.noex b o e)⟩
theorem Inv.bk (I : Inv X pins σ H s) : ∀ b o, X.base.get? b = some o -> s.heap.get? b = some o := fun b o e => (I.bs b o e).1
theorem Inv.mod (I : Inv X pins σ H s) : Mod X.K X.mg X.base := I.ok.mod
theorem Inv.kIn (I : Inv X pins σ H s) : X.K.In s.heap := I.ok.mod.kin.keeps I.bk
theorem Inv.nolimit (I : Inv X pins σ H s) : s.heap.NoLimit := I.ok.mod.nolimit.keeps I.bk
theorem Inv.lt (I : Inv X pins σ H s) : X.env.locals < s.heap.objs.size := let ⟨_, hn, _⟩ := I.loc; hn.lt
theorem Inv.sz (I : Inv X pins σ H s) : X.s₀.heap.objs.size <= s.heap.objs.size := Nat.le_trans I.ok.above (Nat.le_of_lt I.lt)
theorem Inv.nofs (I : Inv X pins σ H s) {a : Addr} (h : s.heap.objs.size <= a) : a ∉ X.fs := fun hb => by
 obtain ⟨_, o, ho, _⟩ := I.ok.funs.mem hb
 exact absurd (Nat.lt_of_lt_of_le (Heap.lt_size ho) (Nat.le_trans I.sz h)) (Nat.lt_irrefl _)
theorem Inv.cne (I : Inv X pins σ H s) : ∀ x c, X.env.cells.lookup x = some c -> c ≠ X.env.locals := fun x c e z => by
 obtain ⟨v, o, ho, hd⟩ := I.cell x c e
 obtain ⟨m, ⟨o', es, ep, ho', hd', _⟩, _⟩ := I.loc
 rw [z, ho'] at ho; cases ho; rw [hd'] at hd; cases hd
theorem Inv.funs (I : Inv X pins σ H s) : s.heap.FunFrames X.base X.outer := by
 have all : ∀ (l : List Env), (∀ b ∈ frs l, b ∈ X.fs) -> X.s₀.heap.FunFrames X.base l -> s.heap.FunFrames X.base l := by
  intro l
  induction l with
  | nil => intro _ _; trivial
  | cons env r ih =>
   intro hs hl
   obtain ⟨hk, ⟨L, o, hf, hn, ho, hd⟩, hr⟩ := hl
   have hL : L ∈ X.fs := hs L (by unfold frs; rw [List.filterMap_cons, hf]; exact List.mem_cons_self)
   obtain ⟨sl, e⟩ := I.base.slot L o ho (I.ok.frf L hL) hL fun z => I.ok.exfs L z hL
   exact ⟨hk, ⟨L, _, hf, hn, e, hd⟩, ih (fun b hb => hs b (by unfold frs; rw [List.filterMap_cons, hf]; exact List.mem_cons_of_mem _ hb)) hr⟩
 exact all X.outer (fun _ hb => hb) I.ok.funs
theorem Inv.stack (I : Inv X pins σ H s) : s.heap.FunFrames X.base X.stack := by
 rcases I.ok.stk with e | ⟨e, hf⟩
 ·rw [e]; exact I.funs
 ·rw [e]
  obtain ⟨m, hn, _⟩ := I.loc
  refine .cons (by rw [I.ok.kind]; decide) hf hn ?_ I.funs
  exact Heap.get?_none_of_le (Nat.le_trans I.ok.bsz I.ok.above)
theorem Inv.stkSub (I : Inv X pins σ H s) : ∀ b ∈ frs X.stack, b ∈ X.env.locals :: X.fs := fun b hb => by
 rcases I.ok.stk with e | ⟨e, hf⟩
 ·rw [e] at hb; exact List.mem_cons_of_mem _ hb
 ·rw [e] at hb
  unfold frs at hb
  rw [List.filterMap_cons, hf] at hb
  exact hb
theorem Inv.stkFree (I : Inv X pins σ H s) : ∀ b ∈ frs X.stack, H b = none := fun b hb => by
 rcases List.mem_cons.mp (I.stkSub b hb) with e | hb
 ·rw [e]; exact I.free
 ·obtain ⟨_, o, ho, _⟩ := I.ok.funs.mem hb
  exact I.base.free b o ho (I.ok.frf b hb) fun z => I.ok.exfs b z hb
theorem Inv.step {g' : Array GenState} {t' : Nat} {d' : Drawn} {ch : List Addr} (I : Inv X pins σ H s)
 (hch : ∀ b ∈ ch, (b ∈ X.ex \/ X.s₀.heap.objs.size <= b) /\ b ≠ X.env.locals /\ (∀ x c, X.env.cells.lookup x = some c -> c ≠ b) /\ ∀ p ∈ X.pn ++ pins, p.1 ≠ b)
 (keep : ∀ b o, b ≠ X.env.locals -> b ∉ X.fs -> b ∉ ch -> s.heap.get? b = some o -> H b = none -> h'.get? b = some o)
 (slot : ∀ b o, b ≠ X.env.locals -> b ∈ X.fs -> b ∉ ch -> s.heap.get? b = some o -> H b = none -> ∃ sl, h'.get? b = some { o with slots := sl }) (free : ∀ b o, b ∉ ch -> s.heap.get? b = some o -> H b = none -> H' b = none)
 (there : ∀ b o, b ∉ ch -> s.heap.get? b = some o -> ∃ o', h'.get? b = some o')
 (tups : ∀ b xs, H b = some (.tup xs) -> H' b = some (.tup xs)) (frzs : ∀ b o u, H b = some (.frz o u) -> H' b = some (.frz o u)) (tbls : ∀ b ps, H b = some (.tbl ps) -> ∃ more, H' b = some (.tbl (ps ++ more)))
 (ns : ∀ m, s.heap.Ns X.env.locals m -> h'.Ns X.env.locals m) (hok : HOk X.prog X.w H' h') (hg : AllBare g') (htk : TkOk H' t') :
 Inv X pins σ H' { s with heap := h', gens := g', drawn := d', toks := t' } := by
 have neL : ∀ b o, X.s₀.heap.get? b = some o -> b ≠ X.env.locals := fun b o e => Nat.ne_of_lt (Nat.lt_of_lt_of_le (Heap.lt_size e) I.ok.above)
 have neC : ∀ b o, X.s₀.heap.get? b = some o -> b ∉ X.ex -> b ∉ ch := fun b o e hx hb => by
  rcases (hch b hb).1 with z | z
  ·exact hx z
  ·exact absurd (Nat.lt_of_lt_of_le (Heap.lt_size e) z) (Nat.lt_irrefl _)
 have cellK : ∀ x c, X.env.cells.lookup x = some c -> ∀ v, s.heap.IsCell c v -> h'.IsCell c v := fun x c e v ⟨o, ho, hd⟩ => by
  have nch : c ∉ ch := fun z => (hch c z).2.2.1 x c e rfl
  by_cases hc : c ∈ X.fs
  ·obtain ⟨sl, q⟩ := slot c o (I.cne x c e) hc nch ho (I.freeC x c e)
   exact ⟨_, q, hd⟩
  ·exact ⟨o, keep c o (I.cne x c e) hc nch ho (I.freeC x c e), hd⟩
 refine ⟨I.ok, I.os, hg, ⟨fun b o e n hb hx => ?_, fun b o e n hb hx => ?_, fun b o e n hx => ?_, fun b o e hx => ?_, fun b xs e => tups b xs (I.base.tups b xs e), fun b o xs e => frzs b o xs (I.base.frzs b o xs e), fun b ps e => ?_⟩, ?_, fun x c e => ?_, ?_, fun x c e => ?_, fun p hp => ?_, hok, I.len, htk⟩
 ·exact keep b o (neL b o e) hb (neC b o e hx) (I.base.keep b o e n hb hx) (I.base.free b o e n hx)
 ·obtain ⟨sl, e1⟩ := I.base.slot b o e n hb hx
  obtain ⟨sl', e2⟩ := slot b _ (neL b o e) hb (neC b o e hx) e1 (I.base.free b o e n hx)
  exact ⟨sl', e2⟩
 ·obtain ⟨o', e1⟩ := I.base.there b o e hx
  exact free b o' (neC b o e hx) e1 (I.base.free b o e n hx)
 ·obtain ⟨o', e1⟩ := I.base.there b o e hx
  exact there b o' (neC b o e hx) e1
 ·obtain ⟨m1, e1⟩ := I.base.tbls b ps e
  obtain ⟨m2, e2⟩ := tbls b _ e1
  exact ⟨m1 ++ m2, by rw [e2, Array.append_assoc]⟩
 ·obtain ⟨m, hn, hl⟩ := I.loc
  refine ⟨m, ns m hn, fun i x v e1 e2 e3 => ?_⟩
  obtain ⟨u, r, l⟩ := hl i x v e1 e2 e3
  refine ⟨u, r, ?_⟩
  rcases l with l | ⟨k, c, e, z⟩
  ·exact .inl l
  ·exact .inr ⟨k, c, e, cellK x c e _ z⟩
 ·obtain ⟨v, z⟩ := I.cell x c e
  exact ⟨v, cellK x c e v z⟩
 ·obtain ⟨m, ⟨o, _, _, ho, _⟩, _⟩ := I.loc
  exact free _ o (fun z => (hch _ z).2.1 rfl) ho I.free
 ·obtain ⟨v, o, ho, hd⟩ := I.cell x c e
  exact free c o (fun z => (hch c z).2.2.1 x c e rfl) ho (I.freeC x c e)
 ·obtain ⟨e, n, ne, nf, d⟩ := I.pin p hp
  have nch : p.1 ∉ ch := fun z => (hch p.1 z).2.2.2 p hp rfl
  exact ⟨keep p.1 p.2 ne nf nch e n, free p.1 p.2 nch e n, ne, nf, d⟩
theorem Inv.un {t' : Nat} (I : Inv X pins σ H s) (u : Un X.fs [] H H' s.heap h') (hok : HOk X.prog X.w H' h') (htk : TkOk H' t') : Inv X pins σ H' { s with heap := h', toks := t' } := by
 obtain ⟨m, ⟨o, es, ep, ho, r⟩, _⟩ := id I.loc
 obtain ⟨sl, hL⟩ := u.any ho I.free (by simp)
 exact I.step (g' := s.gens) (d' := s.drawn) (ch := []) (fun _ z => nomatch z) (fun b o _ hb _ e n => u.keep b o e n hb (by simp)) (fun b o _ hb _ e n => u.slot b o e n hb (by simp)) (fun b o _ e n => u.free b o e n (by simp)) (fun b o _ e => u.there b o e (by simp)) u.tups u.frzs u.tbls (fun m' hm => by
  obtain ⟨o', es', ep', ho', r'⟩ := hm
  rw [ho] at ho'; cases ho'
  exact ⟨_, es', ep', hL, r'⟩) hok I.bare htk
theorem Inv.call {g' : Array GenState} {t' : Nat} {d' : Drawn} {ch : List Addr} (I : Inv X pins σ H s) (u : Un (frs X.stack) ch H H' s.heap h') (hok : HOk X.prog X.w H' h') (hg : AllBare g')
 (hch : ∀ b ∈ ch, (b ∈ X.ex \/ X.s₀.heap.objs.size <= b) /\ b ≠ X.env.locals /\ (∀ x c, X.env.cells.lookup x = some c -> c ≠ b) /\ ∀ p ∈ X.pn ++ pins, p.1 ≠ b) (htk : TkOk H' t') :
 Inv X pins σ H' { s with heap := h', gens := g', drawn := d', toks := t' } := by
 obtain ⟨m, ⟨o, es, ep, ho, r⟩, _⟩ := id I.loc
 obtain ⟨sl, hL⟩ := u.any ho I.free fun z => (hch _ z).2.1 rfl
 exact I.step (ch := ch) hch (fun b o hL hb hc e n => u.keep b o e n (fun z => (List.mem_cons.mp (I.stkSub b z)).elim hL hb) hc) (fun b o _ _ hc e n => u.any e n hc) (fun b o hc e n => u.free b o e n hc) (fun b o hc e => u.there b o e hc) u.tups u.frzs u.tbls (fun m' hm => by
  obtain ⟨o', es', ep', ho', r'⟩ := hm
  rw [ho] at ho'; cases ho'
  exact ⟨_, es', ep', hL, r'⟩) hok hg htk
theorem Inv.turned {t' : Nat} {it : Addr} (I : Inv X pins σ H s) (k : ∀ b o, b ≠ it -> s.heap.get? b = some o -> h'.get? b = some o) (hn : H it = none) (hL : it ≠ X.env.locals)
 (h1 : it ∈ X.ex \/ X.s₀.heap.objs.size <= it) (h2 : ∀ x c, X.env.cells.lookup x = some c -> c ≠ it) (h3 : ∀ p ∈ X.pn ++ pins, p.1 ≠ it) (ht : s.toks <= t' := by first | exact Nat.le_refl _ | exact Nat.le_succ _ | exact Nat.le_add_right _ _ | assumption | omega) : Inv X pins σ H { s with heap := h', toks := t' } := by
 have nit : ∀ b u, H b = some u -> b ≠ it := fun b u e z => by rw [z, hn] at e; cases e
 refine I.step (g' := s.gens) (d' := s.drawn) (ch := [it]) (fun b hb => ?_) (fun b o _ _ hc e _ => k b o (fun z => hc (by simp [z])) e) (fun b o _ _ hc e _ => ⟨o.slots, k b o (fun z => hc (by simp [z])) e⟩) (fun _ _ _ _ n => n)
  (fun b o hc e => ⟨o, k b o (fun z => hc (by simp [z])) e⟩) (fun _ _ e => e) (fun _ _ _ e => e) (fun b ps e => ⟨#[], by rw [e]; simp⟩) (fun m hm => ?_) (fun b u e => ?_) I.bare (I.tk.mono ht)
 ·have e : b = it := by simpa using hb
  subst e
  exact ⟨h1, hL, h2, h3⟩
 ·obtain ⟨o, es, ep, ho, r⟩ := hm
  exact ⟨o, es, ep, k _ o (Ne.symm hL) ho, r⟩
 ·refine (I.hok b u e).stay (fun c v hc q => k c v ?_ q) (fun _ q => q) fun _ _ q => q
  rcases hc with z | z
  ·rw [z]; exact nit b u e
  ·exact nit c _ z
theorem Inv.tok (I : Inv X pins σ H s) (t : Nat) (ht : s.toks <= t := by first | exact Nat.le_refl _ | exact Nat.le_succ _ | exact Nat.le_add_right _ _ | assumption | omega) : Inv X pins σ H { s with toks := t } := I.un (h' := s.heap) (t' := t) Un.refl I.hok (I.tk.mono ht)
theorem Inv.txt (I : Inv X pins σ H s) {t m : Nat} {x : Str} (hl : s.toks <= t := by first | exact Nat.le_refl _ | exact Nat.le_succ _ | exact Nat.le_add_right _ _ | assumption | omega) (hm : t < m := by first | exact Nat.lt_succ_self _ | omega) : Inv X pins σ (H.put t x) { s with toks := m } := I.un (h' := s.heap) (t' := m) Un.put I.hok.put (I.tk.put hl hm)
theorem Inv.fresh_tok (I : Inv X pins σ H s) {t : Nat} (hl : s.toks <= t := by first | exact Nat.le_refl _ | exact Nat.le_succ _ | exact Nat.le_add_right _ _ | assumption | omega) : H.τ t = none /\ t ≠ 0 := ⟨I.tk.2 t hl, fun z => absurd (Nat.lt_of_lt_of_le I.tk.1 hl) (by rw [z]; exact Nat.lt_irrefl 0)⟩
theorem Inv.kept {t' : Nat} (I : Inv X pins σ H s) (k : ∀ b u, s.heap.get? b = some u -> h'.get? b = some u) (ht : s.toks <= t' := by first | exact Nat.le_refl _ | exact Nat.le_succ _ | exact Nat.le_add_right _ _ | assumption | omega) : Inv X pins σ H { s with heap := h', toks := t' } := I.un (Un.kept k) (I.hok.kept k) (I.tk.mono ht)
theorem Inv.laid {a : Addr} {o : HO} {t' : Nat} (I : Inv X pins σ H s) (k : ∀ b u, s.heap.get? b = some u -> h'.get? b = some u) (hp : s.heap.objs.size <= a) (new : ObjOk X.prog X.w (upd H a o) h' a o) (ht : s.toks <= t' := by first | exact Nat.le_refl _ | exact Nat.le_succ _ | exact Nat.le_add_right _ _ | assumption | omega) :
 Inv X pins σ (upd H a o) { s with heap := h', toks := t' } := I.un (Un.laid k hp (I.hok.fresh hp)) (I.hok.laid k hp new) (I.tk.mono ht)
theorem Inv.write {x e : Addr} {o : HO} {t' : Nat} (I : Inv X pins σ H s) (mu : Mut (H x)) (he : e = x \/ H e = some (.own x)) (k : ∀ b u, b ≠ e -> s.heap.get? b = some u -> h'.get? b = some u) (heo : ∃ u, h'.get? e = some u)
 (new : ObjOk X.prog X.w (upd H x o) h' x o) (ht : s.toks <= t' := by first | exact Nat.le_refl _ | exact Nat.le_succ _ | exact Nat.le_add_right _ _ | assumption | omega) : Inv X pins σ (upd H x o) { s with heap := h', toks := t' } := I.un (Un.write mu he k heo) (I.hok.write mu he k heo new) (I.tk.mono ht)
theorem Inv.pins_of {pins' : List (Addr × Obj)} (I : Inv X pins σ H s) (h : ∀ p ∈ pins', s.heap.get? p.1 = some p.2 /\ H p.1 = none /\ p.1 ≠ X.env.locals /\ p.1 ∉ X.fs /\ ∀ v, p.2.data ≠ .cell v) : Inv X pins' σ H s :=
 ⟨I.ok, I.os, I.bare, I.base, I.loc, I.cell, I.free, I.freeC, fun p hp => (List.mem_append.mp hp).elim (fun z => I.pin p (List.mem_append_left _ z)) (h p), I.hok, I.len, I.tk⟩
theorem JK {N : List Str} (hN : N.Nodup) {i j : Nat} {x : Str} (a : N[i]? = some x) (b : N[j]? = some x) : i = j := by
 obtain ⟨h1, e1⟩ := List.getElem?_eq_some_iff.mp a
 obtain ⟨h2, e2⟩ := List.getElem?_eq_some_iff.mp b
 exact (List.getElem_inj hN).mp (e1.trans e2.symm)
theorem Yaw {M : Model} {A : Around} {E : Value -> Shared -> Prop} {i : Nat} {x : Str} {v : V} {u : Value} {Q : Unit -> Shared -> Prop} (I : Inv X pins σ H s) (hN : X.N.Nodup) (hi : X.N[i]? = some x) (hx : Loc X.env.scope x) (r : RelV v u)
 (h : ∀ s', Inv X pins (σ.set i (some v)) H s' -> (∃ a, Heap.SameBut a s.heap s'.heap /\ (a = X.env.locals \/ X.env.cells.lookup x = some a)) -> Q () s') (hf : X.fn x = true \/ X.env.scope.names.lookup x = some .local := by first | exact .inl rfl | exact .inr rfl | assumption) : wpAny M A (storeName X.env x u) Q E s := by
 obtain ⟨m, hn, hl⟩ := id I.loc
 have hcls : (X.env.scope.kind == .class || (X.env.scope.kind == .module && X.env.locals != X.env.globals)) = false := by rw [I.ok.kind]; rfl
 have hiσ : i < σ.length := by rw [I.len]; exact (List.getElem?_eq_some_iff.mp hi).1
 have cne := I.cne
 have tracked : ∀ {a : Addr} {h' : Heap}, (∃ o, s.heap.get? a = some o /\ H a = none) -> Heap.SameBut a s.heap h' -> HOk X.prog X.w H h' := fun {a h'} ha hs b ob e => by
  obtain ⟨_, _, hfree⟩ := ha
  refine (I.hok b ob e).stay (fun c w' hc q => (hs.2 c ?_).trans q) (fun _ q => q) fun _ _ q => q
  rintro rfl
  rcases hc with rfl | hc
  ·rw [hfree] at e; cases e
  ·rw [hfree] at hc; cases hc
 rcases hx with hk | hk
 ·refine wpAny_storeName_local hk hn (fun h' hn' hs => ?_) hcls
  obtain ⟨oL, _, _, hoL, _⟩ := id hn
  refine h _ ⟨I.ok, I.os, I.bare, ⟨fun b o e n hb hx => ?_, fun b o e n hb hx => ?_, I.base.free, fun b o e hx => ?_, I.base.tups, I.base.frzs, I.base.tbls⟩, ⟨_, hn', fun j y v' e1 e2 e3 => ?_⟩, fun y c e => ?_, I.free, I.freeC, fun p hp => ?_, tracked ⟨oL, hoL, I.free⟩ hs, by simpa using I.len, I.tk.mono (by first | exact Nat.le_refl _ | exact Nat.le_succ _)⟩ ⟨_, hs, .inl rfl⟩
  ·exact (hs.2 b (Nat.ne_of_lt (Nat.lt_of_lt_of_le (Heap.lt_size e) I.ok.above))).trans (I.base.keep b o e n hb hx)
  ·obtain ⟨sl, e1⟩ := I.base.slot b o e n hb hx
   exact ⟨sl, (hs.2 b (Nat.ne_of_lt (Nat.lt_of_lt_of_le (Heap.lt_size e) I.ok.above))).trans e1⟩
  ·obtain ⟨o', e1⟩ := I.base.there b o e hx
   exact ⟨o', (hs.2 b (Nat.ne_of_lt (Nat.lt_of_lt_of_le (Heap.lt_size e) I.ok.above))).trans e1⟩
  ·by_cases hj : j = i
   ·subst hj
    rw [hi] at e1; cases e1
    rw [List.getElem?_set_self hiσ] at e2
    cases e2
    exact ⟨u, r, .inl ⟨hk, by simp⟩⟩
   ·rw [List.getElem?_set_ne (Ne.symm hj)] at e2
    obtain ⟨u', r', q⟩ := hl j y v' e1 e2 e3
    refine ⟨u', r', ?_⟩
    rcases q with ⟨k, e⟩ | ⟨k, c, e, z⟩
    ·refine .inl ⟨k, ?_⟩
     have : y ≠ x := fun e => hj (JK hN e1 (e ▸ hi))
     simp [this, e]
    ·exact .inr ⟨k, c, e, z.sameBut hs (cne y c e)⟩
  ·obtain ⟨w', z⟩ := I.cell y c e
   exact ⟨w', z.sameBut hs (cne y c e)⟩
  ·obtain ⟨e, n, ne, nf, d⟩ := I.pin p hp
   exact ⟨(hs.2 p.1 ne).trans e, n, ne, nf, d⟩
 ·have hfn : X.fn x = true := by
   rcases hf with z | z
   ·exact z
   ·rw [z] at hk; cases hk
  obtain ⟨c, hc⟩ := I.ok.has x (.inl hk)
  obtain ⟨w', z⟩ := I.cell x c hc
  refine wpAny_storeName_cell I.ok.kind hk hc z (fun h' hc' hs => ?_)
  obtain ⟨oc, hoc, hocd⟩ := id z
  refine h { s with heap := h' } ⟨I.ok, I.os, I.bare, ⟨fun b o e n hb hx => ?_, fun b o e n hb hx => ?_, I.base.free, fun b o e hx => ?_, I.base.tups, I.base.frzs, I.base.tbls⟩, ⟨m, hn.sameBut hs (Ne.symm (cne x c hc)), fun j y v' e1 e2 e3 => ?_⟩, fun y c' e => ?_, I.free, I.freeC, fun p hp => ?_, tracked ⟨oc, hoc, I.freeC x c hc⟩ hs, by simpa using I.len, I.tk.mono (by first | exact Nat.le_refl _ | exact Nat.le_succ _)⟩ ⟨c, hs, .inr hc⟩
  ·exact (hs.2 b (Nat.ne_of_lt (Nat.lt_of_lt_of_le (Heap.lt_size e) (I.ok.cab x c hfn hc)))).trans (I.base.keep b o e n hb hx)
  ·obtain ⟨sl, e1⟩ := I.base.slot b o e n hb hx
   exact ⟨sl, (hs.2 b (Nat.ne_of_lt (Nat.lt_of_lt_of_le (Heap.lt_size e) (I.ok.cab x c hfn hc)))).trans e1⟩
  ·obtain ⟨o', e1⟩ := I.base.there b o e hx
   exact ⟨o', (hs.2 b (Nat.ne_of_lt (Nat.lt_of_lt_of_le (Heap.lt_size e) (I.ok.cab x c hfn hc)))).trans e1⟩
  ·by_cases hj : j = i
   ·subst hj
    rw [hi] at e1; cases e1
    rw [List.getElem?_set_self hiσ] at e2
    cases e2
    exact ⟨u, r, .inr ⟨.inl hk, c, hc, hc'⟩⟩
   ·rw [List.getElem?_set_ne (Ne.symm hj)] at e2
    obtain ⟨u', r', q⟩ := hl j y v' e1 e2 e3
    refine ⟨u', r', ?_⟩
    rcases q with q | ⟨k, c', e, z'⟩
    ·exact .inl q
    ·refine .inr ⟨k, c', e, z'.sameBut hs ?_⟩
     rintro rfl
     exact hj (JK hN e1 (I.ok.inj _ _ _ e hc ▸ hi))
  ·by_cases hcc : c' = c
   ·subst hcc; exact ⟨_, hc'⟩
   ·obtain ⟨w2, z2⟩ := I.cell y c' e
    exact ⟨w2, z2.sameBut hs hcc⟩
  ·obtain ⟨e, n, ne, nf, d⟩ := I.pin p hp
   refine ⟨(hs.2 p.1 ?_).trans e, n, ne, nf, d⟩
   intro q
   rw [q, hoc] at e
   have q' : oc = p.2 := Option.some.inj e
   exact d w' (by rw [<- q']; exact hocd)
theorem Yb8 {M : Model} {A : Around} {E : Value -> Shared -> Prop} {i : Nat} {x : Str} {v : V} {u : Value} {Q : Unit -> Shared -> Prop} (I : Inv X pins σ H s) (hN : X.N.Nodup) (hi : X.N[i]? = some x) (hx : Loc X.env.scope x) (r : RelV v u)
 (h : ∀ s', Inv X pins (σ.set i (some v)) H s' -> Q () s') (hf : X.fn x = true \/ X.env.scope.names.lookup x = some .local := by first | exact .inl rfl | exact .inr rfl | assumption) : wpAny M A (storeName X.env x u) Q E s :=
 Yaw I hN hi hx r (fun s' I' _ => h s' I') hf
theorem Inv.call' {s' : Shared} {ch : List Addr} (I : Inv X pins σ H s) (ho : s'.os = s.os) (u : Un (frs X.stack) ch H H' s.heap s'.heap) (hok : HOk X.prog X.w H' s'.heap) (hg : AllBare s'.gens)
 (hch : ∀ b ∈ ch, (b ∈ X.ex \/ X.s₀.heap.objs.size <= b) /\ b ≠ X.env.locals /\ (∀ x c, X.env.cells.lookup x = some c -> c ≠ b) /\ ∀ p ∈ X.pn ++ pins, p.1 ≠ b) (htk : TkOk H' s'.toks) : Inv X pins σ H' s' := by
 obtain ⟨h', g', d', t', o'⟩ := s'
 have e : o' = s.os := ho
 subst e
 exact I.call (g' := g') (t' := t') (d' := d') u hok hg hch htk
end
abbrev XK := Value -> Option Addr -> Hp -> Prop
abbrev St := List (Option V)
abbrev VK := V -> Hp -> Prop
abbrev TE := St -> Hp -> VK -> Prop
abbrev TT := St -> Hp -> (Bool -> Hp -> Prop) -> Prop
abbrev TA := St -> Hp -> (List V -> Hp -> Prop) -> Prop
structure Ends where
 nx : St -> Hp -> Prop
 rt : VK
 bk : St -> Hp -> Prop := fun _ _ => False
 ct : St -> Hp -> Prop := fun _ _ => False
abbrev TS := Ends -> St -> Hp -> Prop
def EP (X : Cx) (pins : List (Addr × Obj)) (σ : St) (Q : VK) (u : Value) (s' : Shared) : Prop := ∃ v H', Inv X pins σ H' s' /\ RelV v u /\ Q v H'
def TP (X : Cx) (pins : List (Addr × Obj)) (σ : St) (Q : Bool -> Hp -> Prop) (b : Bool) (s' : Shared) : Prop := ∃ H', Inv X pins σ H' s' /\ Q b H'
def AP (X : Cx) (pins : List (Addr × Obj)) (σ : St) (Q : List V -> Hp -> Prop) (us : List Value) (s' : Shared) : Prop := ∃ vs H', Inv X pins σ H' s' /\ Vals vs us /\ Q vs H'
def SP (X : Cx) (pins : List (Addr × Obj)) (D : Ends) (f : Flow) (s' : Shared) : Prop :=
 match f with
 | .next => ∃ σ' H', Inv X pins σ' H' s' /\ D.nx σ' H'
 | .brk => ∃ σ' H', Inv X pins σ' H' s' /\ D.bk σ' H'
 | .cont => ∃ σ' H', Inv X pins σ' H' s' /\ D.ct σ' H'
 | .ret u => ∃ v σ' H', Inv X pins σ' H' s' /\ RelV v u /\ D.rt v H'
def PE (X : Cx) (e : Expr) (t : TE) : Prop :=
 ∀ (pins : List (Addr × Obj)) (s : Shared) (σ : St) (H : Hp) (Q : VK), Inv X pins σ H s -> t σ H Q -> wpAny (model X.prog X.w) X.A (eval e X.env) (EP X pins σ Q) X.xe s
def PT (X : Cx) (e : Expr) (t : TT) : Prop :=
 ∀ (pins : List (Addr × Obj)) (s : Shared) (σ : St) (H : Hp) (Q : Bool -> Hp -> Prop), Inv X pins σ H s -> t σ H Q -> wpAny (model X.prog X.w) X.A (isTrue e X.env (eval e X.env)) (TP X pins σ Q) X.xe s
def PW (X : Cx) (e : Expr) (t : TT) : Prop :=
 ∀ (whole : Sem Value) (pins : List (Addr × Obj)) (s : Shared) (σ : St) (H : Hp) (Q : Bool -> Hp -> Prop), Inv X pins σ H s -> t σ H Q -> wpAny (model X.prog X.w) X.A (isTrue e X.env whole) (TP X pins σ Q) X.xe s
theorem PW.pt {X : Cx} {e : Expr} {t : TT} (h : PW X e t) : PT X e t := h _
def PA (X : Cx) (es : List Expr) (t : TA) : Prop :=
 ∀ (pos : Pos) (pins : List (Addr × Obj)) (s : Shared) (σ : St) (H : Hp) (Q : List V -> Hp -> Prop), Inv X pins σ H s -> t σ H Q -> wpAny (model X.prog X.w) X.A (spliced (backTo pos (starEach es X.env))) (AP X pins σ Q) X.xe s
def PS (X : Cx) (st : Stmt) (t : TS) : Prop :=
 ∀ (pins : List (Addr × Obj)) (s : Shared) (σ : St) (H : Hp) (D : Ends), Inv X pins σ H s -> t D σ H -> wpAny (model X.prog X.w) X.A (exec st X.env) (SP X pins D) X.xe s
def PSs (X : Cx) (st : List Stmt) (t : TS) : Prop :=
 ∀ (pins : List (Addr × Obj)) (s : Shared) (σ : St) (H : Hp) (D : Ends), Inv X pins σ H s -> t D σ H -> wpAny (model X.prog X.w) X.A (execs st X.env) (SP X pins D) X.xe s
theorem thn {α : Type} {t : Sem α} {Q Q' : α -> Shared -> Prop} {M : Model} {A : Around} {E : Value -> Shared -> Prop} {s : Shared} (h : wpAny M A t Q E s) (hQ : ∀ a s, Q a s -> Q' a s) : wpAny M A t Q' E s := wpAny_mono h hQ fun _ _ x => x
end L2
namespace L2
open PySem PySem.Spec PyProof.Rows
section
variable {X : Cx}
theorem bin {a b : Expr} {ta tb : TE} (ha : PE X a ta) (hb : PE X b tb) {pins : List (Addr × Obj)} {s : Shared} {σ : St} {H : Hp} {R : V -> V -> Hp -> Prop} (I : Inv X pins σ H s) (h : ta σ H fun x H1 => tb σ H1 fun y H2 => R x y H2)
 {α : Type} {Q : α -> Shared -> Prop} {f : Value -> Value -> Sem α}
 (hf : ∀ v u s2 x y H2, Inv X pins σ H2 s2 -> RelV x v -> RelV y u -> R x y H2 -> wpAny (model X.prog X.w) X.A (f v u) Q X.xe s2) :
 wpAny (model X.prog X.w) X.A (eval a X.env) (fun v s₁ => wpAny (model X.prog X.w) X.A (eval b X.env) (fun u s₂ => wpAny (model X.prog X.w) X.A (f v u) Q X.xe s₂) X.xe s₁) X.xe s := by
 refine thn (ha pins s σ H _ I h) fun v s1 ⟨x, H1, I1, r1, q1⟩ => ?_
 refine thn (hb pins s1 σ H1 _ I1 q1) fun u s2 ⟨y, H2, I2, r2, q2⟩ => ?_
 exact hf v u s2 x y H2 I2 r1 r2 q2
def tVar (i : Nat) : TE := fun σ H Q => ∃ v, σ[i]? = some (some v) /\ Q v H
def tC (v : V) : TE := fun _ H Q => Q v H
theorem Yf8 {i : Nat} {x : Str} {pos : Pos} (hN : X.N[i]? = some x) (hv : Vis X.env.scope x) (hd : (x == ("__debug__" : Str)) = false := by decide) (hcd : (x == ("__classdict__" : Str)) = false := by decide) : PE X (.Name x pos) (tVar i) := by
 intro pins s σ H Q I h
 obtain ⟨v, e, h⟩ := h
 obtain ⟨m, hn, hl⟩ := I.loc
 obtain ⟨u, r, l⟩ := hl i x v hN e hv
 have fin : EP X pins σ Q u s := ⟨v, H, I, r, h⟩
 rcases l with ⟨hk, hm⟩ | ⟨hk, c, hc, hcell⟩
 ·exact wpAny_Name (wpAny_loadName_local I.ok.kind hk hn hm fin) hd
 ·rcases hk with hk | hk
  ·exact wpAny_Name (wpAny_loadName_cell I.ok.kind hk hc hcell fin) hd
  ·exact wpAny_Name (wpAny_loadName_free I.ok.kind hk hc hcell fin hcd) hd
theorem YiA {i j pos} : PE X (.Constant (.int i) j pos) (tC (.int i)) := fun _ _ _ H _ I h => wpAny_Constant_int ⟨.int i, H, I.tok _, ⟨_, rfl⟩, h⟩
theorem Yjy {b j pos} : PE X (.Constant (.bool b) j pos) (tC (.bl b)) := fun _ _ _ H _ I h => Constant_bool ⟨.bl b, H, I, rfl, h⟩
def MkT (x : Str) (Q : VK) (H : Hp) : Prop := ∀ t, H.τ t = none -> t ≠ 0 -> Q (.str x t) (H.put t x)
theorem YhO {x j pos} : PE X (.Constant (.str x) j pos) (fun _ H Q => MkT x Q H) := fun _ _ s H _ I h => Calls.Constant_str ⟨.str x _, _, I.txt, rfl, h _ I.fresh_tok.1 I.fresh_tok.2⟩
def Gl (X : Cx) (x : Str) : Prop := X.env.kindOf x = some .globalImplicit
theorem Yhf {E : Value -> Shared -> Prop} {pins : List (Addr × Obj)} {s : Shared} {σ : St} {H : Hp} {x : Str} {u : Value} {pos : Pos} {Q : Value -> Shared -> Prop} (I : Inv X pins σ H s) (hg : Gl X x) (hm : X.mg x = some u) (h : Q u s)
 (hd : (x == ("__debug__" : Str)) = false := by decide) : wpAny (model X.prog X.w) X.A (eval (.Name x pos) X.env) Q E s :=
 Calls.Name_function_global I.ok.kind hg (Calls.loadGlobal_global (by rw [I.ok.glob]; exact I.mod.glob.keeps I.bk) hm h) hd
theorem ZT {E : Value -> Shared -> Prop} {pins : List (Addr × Obj)} {s : Shared} {σ : St} {H : Hp} {x : Str} {u : Value} {pos : Pos} {Q : Value -> Shared -> Prop} (I : Inv X pins σ H s) (hg : Gl X x) (hm : X.mg x = none) (hv : bootBuiltins x = some u) (h : Q u s)
 (hn : x ≠ "__name__" := by decide) (hd : (x == ("__debug__" : Str)) = false := by decide) : wpAny (model X.prog X.w) X.A (eval (.Name x pos) X.env) Q E s := by
 obtain ⟨mb, h1, h2⟩ := I.mod.blt
 exact Calls.Name_function_global I.ok.kind hg (Calls.loadGlobal_builtin (by rw [I.ok.glob]; exact I.mod.glob.keeps I.bk) hm (by rw [I.ok.blt]; exact h1.keeps I.bk) ((h2 x hn).trans hv) h) hd
theorem Ygt {x : Str} {v : V} {u : Value} {pos : Pos} (hg : Gl X x) (hm : X.mg x = none) (hv : bootBuiltins x = some u) (r : RelV v u) (hn : x ≠ "__name__" := by decide) (hd : (x == ("__debug__" : Str)) = false := by decide) : PE X (.Name x pos) (tC v) :=
 fun _ _ _ H _ I h => ZT I hg hm hv ⟨v, H, I, r, h⟩ hn hd
variable {a b : Expr} {ta tb : TE} {pos : Pos}
variable {tA tB' : TT} {rest : List Expr}
def tAnd (t u : TT) : TT := fun σ H Q => t σ H fun c H1 => if c = true then u σ H1 Q else Q false H1
def tOr (t u : TT) : TT := fun σ H Q => t σ H fun c H1 => if c = true then Q true H1 else u σ H1 Q
def tNot (t : TT) : TT := fun σ H Q => t σ H fun c H1 => Q (!c) H1
theorem Yhw (ha : PT X a tA) : PW X (.BoolOp .And [a] pos) tA := by
 intro wh pins s σ H Q I h
 refine isTrue_and (thn (ha pins s σ H Q I h) fun c s1 e => ?_)
 cases c with
 | true => exact isTrue_and_nil e
 | false => exact e
theorem Yif (ha : PT X a tA) : PW X (.BoolOp .Or [a] pos) tA := by
 intro wh pins s σ H Q I h
 refine isTrue_or (thn (ha pins s σ H Q I h) fun c s1 e => ?_)
 cases c with
 | false => exact isTrue_or_nil e
 | true => exact e
theorem YiJ (ha : PT X a tA) (hb : PW X (.BoolOp .And (b :: rest) pos) tB') : PW X (.BoolOp .And (a :: b :: rest) pos) (tAnd tA tB') := by
 intro wh pins s σ H Q I h
 refine isTrue_and (thn (ha pins s σ H _ I h) fun c s1 ⟨H1, I1, q1⟩ => ?_)
 cases c with
 | true => exact hb wh pins s1 σ H1 Q I1 q1
 | false => exact ⟨H1, I1, q1⟩
theorem YjE (ha : PT X a tA) (hb : PW X (.BoolOp .Or (b :: rest) pos) tB') : PW X (.BoolOp .Or (a :: b :: rest) pos) (tOr tA tB') := by
 intro wh pins s σ H Q I h
 refine isTrue_or (thn (ha pins s σ H _ I h) fun c s1 ⟨H1, I1, q1⟩ => ?_)
 cases c with
 | true => exact ⟨H1, I1, q1⟩
 | false => exact hb wh pins s1 σ H1 Q I1 q1
theorem YhX (ha : PT X a tA) : PT X (.UnaryOp .Not a pos) (tNot tA) := by
 intro pins s σ H Q I h
 exact isTrue_not (ha pins s σ H (fun c H1 => Q (!c) H1) I h)
def tAndV (ta tb : TE) : TE := fun σ H Q => ta σ H fun x H1 => ∃ c, x = .bl c /\ if c = true then tb σ H1 Q else Q (.bl false) H1
theorem YiK {op} {t : TE} (h : PE X a t) : PE X (.BoolOp op [a] pos) t := fun pins s σ H Q I hw => BoolOp_one (h pins s σ H Q I hw)
theorem YiD (ha : PE X a ta) (hb : PE X (.BoolOp .And (b :: rest) pos) tb) : PE X (.BoolOp .And (a :: b :: rest) pos) (tAndV ta tb) := by
 intro pins s σ H Q I h
 refine BoolOp_and (thn (ha pins s σ H _ I h) fun v s1 ⟨x, H1, I1, r1, q1⟩ => ?_)
 obtain ⟨c, rfl, q1⟩ := q1
 cases r1
 refine wpAny_truthy_bool ?_
 cases c with
 | true => exact hb pins s1 σ H1 Q I1 q1
 | false => exact ⟨.bl false, H1, I1, rfl, q1⟩
end
end L2
namespace L2
open PySem PySem.Spec PyProof.Rows
def SqL (K : PySem.W.Frag) (H : Hp) (a : Addr) (xs : List V) : Prop :=
 Rd H a (.lst xs) \/
  ∃ (o : Obj) (its : Array Value) (n : Nat), K.lookup a = some o /\ o.cls = .type "list" /\ o.dict = none /\ o.data = .seq its n /\ its.size <= sizeLine /\ Vals xs its.toList
def SqT (K : PySem.W.Frag) (H : Hp) (a : Addr) (xs : List V) : Prop :=
 Rd H a (.tup xs) \/
  ∃ (o : Obj) (its : Array Value) (n : Nat), K.lookup a = some o /\ o.cls = .type "tuple" /\ o.data = .seq its n /\ its.size <= sizeLine /\ Vals xs its.toList
def absV : Value -> Option V
 | .none => some .non
 | .bool b => some (.bl b)
 | .int i _ => some (.int i)
 | .str x t => some (.str x t)
 | .bytes b _ => some (.byt b)
 | .float b _ => some (.flt b)
 | .ref a => some (.ref a)
 | .type n => some (.ty n)
 | _ => none
theorem RelV.abs {x : V} {u : Value} (r : RelV x u) : absV u = some x := by
 cases x with
 | non => cases r; rfl
 | bl _ => cases r; rfl
 | int _ => obtain ⟨t, rfl⟩ := r; rfl
 | str _ _ => cases r; rfl
 | byt _ => obtain ⟨t, rfl⟩ := r; rfl
 | flt _ => obtain ⟨t, rfl⟩ := r; rfl
 | ref _ => cases r; rfl
 | ty _ => cases r; rfl
theorem RelV.inj {x y : V} {u : Value} (r : RelV x u) (q : RelV y u) : x = y := Option.some.inj (r.abs.symm.trans q.abs)
theorem Vals.inj : ∀ {xs ys : List V} {us : List Value}, Vals xs us -> Vals ys us -> xs = ys
 | _, _, _, .nil, .nil => rfl
 | _, _, _, .cons r t, .cons r' t' => by rw [r.inj r', Vals.inj t t']
section
variable {X : Cx} {pins : List (Addr × Obj)} {σ : St} {H : Hp} {s : Shared} {a : Addr} {xs ys : List V}
theorem SqL.of {K : PySem.W.Frag} (h : H a = some (.lst xs)) : SqL K H a xs := .inl (.inl h)
theorem SqT.of {K : PySem.W.Frag} (h : H a = some (.tup xs)) : SqT K H a xs := .inl (.inl h)
theorem Inv.list (I : Inv X pins σ H s) (h : SqL X.K H a xs) : ∃ its : List Value, Vals xs its /\ PlainL s.heap a its.toArray /\ xs.length <= sizeLine := by
 rcases h with h | ⟨o, its, n, hk, hc, hd, hs, hz, r⟩
 ·obtain ⟨z, its, n, r, e⟩ := h.ok I.hok
  exact ⟨its, r, ⟨_, n, e, rfl, rfl, rfl⟩, z⟩
 ·refine ⟨its.toList, r, ⟨o, n, I.kIn a o hk, hc, hd, by simpa using hs⟩, ?_⟩
  have e := r.length
  simp only [Array.length_toList] at e
  omega
theorem Inv.tuple (I : Inv X pins σ H s) (h : SqT X.K H a xs) : ∃ its : List Value, Vals xs its /\ IsTup s.heap a its.toArray /\ xs.length <= sizeLine := by
 rcases h with h | ⟨o, its, n, hk, hc, hs, hz, r⟩
 ·obtain ⟨z, its, r, p⟩ := h.ok I.hok
  exact ⟨its, r, p, z⟩
 ·refine ⟨its.toList, r, ⟨o, I.kIn a o hk, hc, n, by simpa using hs⟩, ?_⟩
  have e := r.length
  simp only [Array.length_toList] at e
  omega
theorem Inv.list_inj (I : Inv X pins σ H s) (h : SqL X.K H a xs) (h' : SqL X.K H a ys) : xs = ys := by
 obtain ⟨its, r, ⟨o, n, e, _, _, d⟩, _⟩ := I.list h
 obtain ⟨its', r', ⟨o', n', e', _, _, d'⟩, _⟩ := I.list h'
 rw [e] at e'; cases e'
 rw [d] at d'
 injection d' with d1 _
 have : its = its' := by simpa using congrArg Array.toList d1
 subst this
 exact r.inj r'
theorem Inv.tuple_inj (I : Inv X pins σ H s) (h : SqT X.K H a xs) (h' : SqT X.K H a ys) : xs = ys := by
 obtain ⟨its, r, ⟨o, e, _, n, d⟩, _⟩ := I.tuple h
 obtain ⟨its', r', ⟨o', e', _, n', d'⟩, _⟩ := I.tuple h'
 rw [e] at e'; cases e'
 rw [d] at d'
 injection d' with d1 _
 have : its = its' := by simpa using congrArg Array.toList d1
 subst this
 exact r.inj r'
end
abbrev Cx.wish (X : Cx) (E : Value -> Shared -> Prop) : Cx := { X with xe := E }
abbrev Cx.nox (X : Cx) : Cx := X.wish fun _ _ => False
theorem Cx.Ok.wish {X : Cx} (ok : X.Ok) (E : Value -> Shared -> Prop) : (X.wish E).Ok :=
 ⟨ok.mod, ok.kind, ok.glob, ok.blt, ok.above, ok.inj, ok.has, ok.cab, ok.hd, ok.frames, ok.stk, ok.exf, ok.bs, ok.bsz, ok.noex, ok.exfs, ok.funs, ok.frf⟩
theorem Cx.Ok.unwish {X : Cx} {E : Value -> Shared -> Prop} (ok : (X.wish E).Ok) : X.Ok :=
 ⟨ok.mod, ok.kind, ok.glob, ok.blt, ok.above, ok.inj, ok.has, ok.cab, ok.hd, ok.frames, ok.stk, ok.exf, ok.bs, ok.bsz, ok.noex, ok.exfs, ok.funs, ok.frf⟩
section
variable {X : Cx} {pins : List (Addr × Obj)} {σ : St} {H : Hp} {s : Shared} {E : Value -> Shared -> Prop}
theorem Inv.wish (I : Inv X pins σ H s) (E : Value -> Shared -> Prop) : Inv (X.wish E) pins σ H s := ⟨I.ok.wish E, I.os, I.bare, I.base, I.loc, I.cell, I.free, I.freeC, I.pin, I.hok, I.len, I.tk⟩
theorem Inv.unwish (I : Inv (X.wish E) pins σ H s) : Inv X pins σ H s := ⟨I.ok.unwish, I.os, I.bare, I.base, I.loc, I.cell, I.free, I.freeC, I.pin, I.hok, I.len, I.tk⟩
theorem SP.unwish {D : Ends} {f : Flow} {s' : Shared} (h : SP (X.wish E) pins D f s') : SP X pins D f s' := by
 cases f with
 | next => obtain ⟨σ', H', I, q⟩ := h; exact ⟨σ', H', I.unwish, q⟩
 | brk => obtain ⟨σ', H', I, q⟩ := h; exact ⟨σ', H', I.unwish, q⟩
 | cont => obtain ⟨σ', H', I, q⟩ := h; exact ⟨σ', H', I.unwish, q⟩
 | ret u => obtain ⟨v, σ', H', I, r, q⟩ := h; exact ⟨v, σ', H', I.unwish, r, q⟩
theorem PSs.nox {st : List Stmt} {t : TS} (h : PSs X.nox st t) : PSs X st t := fun pins s σ H D I hw =>
 wpAny_mono (h pins s σ H D (I.wish _) hw) (fun _ _ q => q.unwish) fun _ _ z => False.elim z
end
section
variable {X : Cx} {st : Stmt} {rest : List Stmt} {t u : TS} {e : Expr} {te : TE} {pos : Pos}
def tNext : TS := fun D σ H => D.nx σ H
def tSeq (t u : TS) : TS := fun D σ H => t { D with nx := u D } σ H
theorem YgX : PSs X [] tNext := fun _ _ σ H _ I h => wpAny_execs_nil ⟨σ, H, I, h⟩
theorem Ye1 (h1 : PS X st t) (h2 : PSs X rest u) : PSs X (st :: rest) (tSeq t u) := by
 intro pins s σ H D I h
 refine wpAny_execs_cons (thn (h1 pins s σ H { D with nx := u D } I h) fun f s1 q => ?_)
 cases f with
 | next =>
  obtain ⟨σ', H', I', q⟩ := q
  exact h2 pins s1 σ' H' D I' q
 | ret v => exact q
 | brk => exact q
 | cont => exact q
theorem Ygy (h1 : PS X st t) : PSs X [st] t := by
 intro pins s σ H D I h
 refine wpAny_execs_cons (thn (h1 pins s σ H D I h) fun f s1 q => ?_)
 cases f with
 | next => exact wpAny_execs_nil q
 | ret v => exact q
 | brk => exact q
 | cont => exact q
def tBreak : TS := fun D σ H => D.bk σ H
theorem Ygk : PS X (.Break pos) tBreak := fun _ _ σ H _ I h => wpAny_Break ⟨σ, H, I, h⟩
theorem Inv.quiet {pins : List (Addr × Obj)} {σ : St} {H : Hp} {s : Shared} (I : Inv X pins σ H s) : interactive X.env = false := by simp [interactive, I.ok.kind]
def tDrop (te : TE) : TS := fun D σ H => te σ H fun _ H1 => D.nx σ H1
theorem YgS (he : PE X e te) (hs : swapsWith e none pos.line X.env = pure false := by rfl) : PS X (.Expr e pos) (tDrop te) := by
 intro pins s σ H D I h
 exact wpAny_Expr_any (thn (he pins s σ H _ I h) fun v s1 ⟨x, H1, I1, r1, q1⟩ => ⟨σ, H1, I1, q1⟩) I.quiet hs
def tRet (te : TE) : TS := fun D σ H => te σ H D.rt
theorem Yjb (he : PE X e te) : PS X (.Return (some e) pos) (tRet te) := by
 intro pins s σ H D I h
 exact wpAny_Return_some (thn (he pins s σ H _ I h) fun v s1 ⟨x, H1, I1, r1, q1⟩ => ⟨x, σ, H1, I1, r1, q1⟩)
def tIfS (c : TT) (t u : TS) : TS := fun D σ H => c σ H fun b H1 => if b = true then t D σ H1 else u D σ H1
theorem Yjs {c : Expr} {a b : List Stmt} {tc : TT} (hc : PT X c tc) (ha : PSs X a t) (hb : PSs X b u) : PS X (.If c a b pos) (tIfS tc t u) := by
 intro pins s σ H D I h
 refine wpAny_If (thn (hc pins s σ H _ I h) fun d s1 ⟨H1, I1, q1⟩ => ?_)
 cases d with
 | true => exact ha pins s1 σ H1 D I1 q1
 | false => exact hb pins s1 σ H1 D I1 q1
end
abbrev TG := V -> St -> Hp -> (St -> Hp -> Prop) -> Prop
abbrev TGs := List V -> St -> Hp -> (St -> Hp -> Prop) -> Prop
def PG (X : Cx) (target : Expr) (t : TG) : Prop :=
 ∀ (pins : List (Addr × Obj)) (s : Shared) (σ : St) (H : Hp) (v : V) (u : Value) (Q : St -> Hp -> Prop), Inv X pins σ H s -> RelV v u -> t v σ H Q ->
  wpAny (model X.prog X.w) X.A (assign target X.env u) (fun _ s' => ∃ σ' H', Inv X pins σ' H' s' /\ Q σ' H') X.xe s
def PGs (X : Cx) (ts : List Expr) (t : TGs) : Prop :=
 ∀ (pins : List (Addr × Obj)) (s : Shared) (σ : St) (H : Hp) (vs : List V) (us : List Value) (Q : St -> Hp -> Prop), Inv X pins σ H s -> Vals vs us -> t vs σ H Q ->
  wpAny (model X.prog X.w) X.A (assignInOrder ((assignEach ts X.env).map (·.2)) us) (fun _ s' => ∃ σ' H', Inv X pins σ' H' s' /\ Q σ' H') X.xe s
abbrev TSet := V -> V -> V -> Hp -> (Hp -> Prop) -> Prop
def PSet (X : Cx) (t : TSet) : Prop :=
 ∀ (pins : List (Addr × Obj)) (s : Shared) (σ : St) (H : Hp) (o i v : V) (ov iv u : Value) (Q : Hp -> Prop), Inv X pins σ H s -> RelV o ov -> RelV i iv -> RelV v u -> t o i v H Q ->
  wpAny (model X.prog X.w) X.A (setItem ov iv u) (fun _ s' => ∃ H', Inv X pins σ H' s' /\ Q H') X.xe s
section
variable {X : Cx} {pos : Pos}
def gName (i : Nat) : TG := fun v σ H Q => Q (σ.set i (some v)) H
theorem Yhz {i : Nat} {x : Str} (hN : X.N.Nodup) (hi : X.N[i]? = some x) (hx : Loc X.env.scope x) (hf : X.fn x = true \/ X.env.scope.names.lookup x = some .local := by first | exact .inl rfl | exact .inr rfl | assumption) : PG X (.Name x pos) (gName i) := by
 intro pins s σ H v u Q I r h
 exact wpAny_assign_Name (Yb8 I hN hi hx r (fun s' I' => ⟨_, H, I', h⟩) hf)
def gNil : TGs := fun vs σ H Q => vs = [] /\ Q σ H
def gCons (t : TG) (u : TGs) : TGs := fun vs σ H Q => ∃ v r, vs = v :: r /\ t v σ H fun σ' H' => u r σ' H' Q
theorem Yhv : PGs X [] gNil := by
 intro pins s σ H vs us Q I r h
 obtain ⟨e, h⟩ := h
 subst e
 cases r
 exact assignInOrder_nil ⟨σ, H, I, h⟩
theorem YeS {e : Expr} {es : List Expr} {t : TG} {u : TGs} (h1 : PG X e t) (h2 : PGs X es u)
 (hs : (assignEach (e :: es) X.env).map (·.2) = assign e X.env :: (assignEach es X.env).map (·.2) := by rfl) : PGs X (e :: es) (gCons t u) := by
 intro pins s σ H vs us Q I r h
 obtain ⟨v, vr, e1, h⟩ := h
 subst e1
 cases r with
 | cons r rr =>
  rw [hs]
  refine assignInOrder_cons (thn (h1 pins s σ H _ _ _ I r h) fun _ s1 ⟨σ1, H1, I1, q1⟩ => ?_)
  exact h2 pins s1 σ1 H1 _ _ Q I1 rr q1
def gTup (K : PySem.W.Frag) (n : Nat) (t : TGs) : TG := fun v σ H Q => ∃ a xs, v = .ref a /\ SqT K H a xs /\ xs.length = n /\ t xs σ H Q
theorem Yig {es : List Expr} {k : Nat} {t : TGs} {n : Nat} (hc : X.calm = true) (h : PGs X es t)
 (hn : (assignEach es X.env).length = n := by rfl) (hst : (assignEach es X.env).findIdx? (·.1) = none := by rfl) : PG X (.Tuple es k pos) (gTup X.K n t) := by
 intro pins s σ H v u Q I r hw
 obtain ⟨a, xs, e1, hq, hl, hw⟩ := hw
 subst e1
 cases r
 obtain ⟨its, rv, ht, hz⟩ := I.tuple hq
 refine assign_Tuple_tuple (I.ok.hd hc) ht (by simp [hn, <- hl, rv.length]) hst fun h' hx => ?_
 have I1 : Inv X pins σ H { s with heap := h' } := I.kept (t' := s.toks) fun b o e => hx b o (Nat.ne_of_lt (Heap.lt_size e)) e
 exact h pins _ σ H xs _ Q I1 (by simpa using rv) hw
def tAsg (te : TE) (g : TG) : TS := fun D σ H => te σ H fun x H1 => g x σ H1 D.nx
theorem Yi5 {tg e : Expr} {te : TE} {g : TG} (he : PE X e te) (hg : PG X tg g) (hs : swapsWithSole [tg] e pos.line X.env = pure false := by rfl) (hw : swappedStores [tg] e X.env = pure none := by rfl)
 (h1 : (assignEach [tg] X.env).map (·.2) = [assign tg X.env] := by rfl) : PS X (.Assign [tg] e pos) (tAsg te g) := by
 intro pins s σ H D I h
 refine wpAny_Assign_stores (thn (he pins s σ H _ I h) fun v s1 ⟨x, H1, I1, r1, q1⟩ => ?_) hs hw
 rw [h1]
 exact thn (hg pins s1 σ H1 x v _ I1 r1 q1) fun _ s2 q => q
theorem Yiq {i : Nat} {x : Str} {e : Expr} {te : TE} {pos' : Pos} (hN : X.N.Nodup) (hi : X.N[i]? = some x) (hx : Loc X.env.scope x) (he : PE X e te) (hs : swapsWith e (some (.Name x pos')) pos.line X.env = pure false := by rfl) (hf : X.fn x = true \/ X.env.scope.names.lookup x = some .local := by first | exact .inl rfl | exact .inr rfl | assumption) :
 PS X (.Assign [.Name x pos'] e pos) (tAsg te (gName i)) := by
 intro pins s σ H D I h
 refine wpAny_Assign_Name (thn (he pins s σ H _ I h) fun v s1 ⟨y, H1, I1, r1, q1⟩ => ?_) hs
 exact Yb8 I1 hN hi hx r1 (fun s2 I2 => ⟨_, H1, I2, q1⟩) hf
end
section
variable {X : Cx} {pos : Pos}
def tWhile (c : TT) (tb : TS) : TS := fun D σ H => ∃ W : Nat -> St -> Hp -> Prop, (∃ m, W m σ H) /\ ∀ m σ H, W m σ H ->
 c σ H fun b H1 => if b = true then ∃ N : St -> Hp -> Prop, (∀ σ' H', N σ' H' -> ∃ m', m' < m /\ W m' σ' H') /\ tb { D with nx := N, ct := N, bk := D.nx } σ H1 else D.nx σ H1
theorem Yfz {c : Expr} {body : List Stmt} {tc : TT} {tb : TS} (hp : PassesOwn (model X.prog X.w) X.A X.env X.xe) (hc : PT X c tc) (hb : PSs X body tb) : PS X (.While c body [] pos) (tWhile tc tb) := by
 intro pins s σ H D I h
 obtain ⟨W, ⟨m0, w0⟩, turn⟩ := h
 refine wpAny_While (codeAny_whileLoop (fun n s' => ∃ σ' H', Inv X pins σ' H' s' /\ W n σ' H') ?_ m0 ⟨σ, H, I, w0⟩)
 rintro n s1 ⟨σ1, H1, I1, w1⟩
 refine wpAny_passesOwn hp (thn (hc pins s1 σ1 H1 _ I1 (turn n σ1 H1 w1)) fun b s2 ⟨H2, I2, q2⟩ => ?_)
 cases b with
 | true =>
  obtain ⟨N, hN, q2⟩ := q2
  rw [if_pos rfl]
  refine wpAny_passesOwn hp (thn (hb pins s2 σ1 H2 _ I2 q2) fun f s3 q3 => ?_)
  cases f with
  | next =>
   obtain ⟨σ3, H3, I3, n3⟩ := q3
   obtain ⟨m', hm, w3⟩ := hN σ3 H3 n3
   exact ⟨m', hm, σ3, H3, I3, w3⟩
  | cont =>
   obtain ⟨σ3, H3, I3, n3⟩ := q3
   obtain ⟨m', hm, w3⟩ := hN σ3 H3 n3
   exact ⟨m', hm, σ3, H3, I3, w3⟩
  | brk => exact q3
  | ret v => exact q3
 | false =>
  rw [if_neg Bool.false_ne_true]
  exact wpAny_execs_nil ⟨σ1, H2, I2, q2⟩
end
structure It where
 go : Nat -> Hp -> Prop
 yld : Nat -> Hp -> V -> Hp -> Prop
 stop : Nat -> Hp -> Prop
def FpOk (X : Cx) (pins : List (Addr × Obj)) (H : Hp) (b : Addr) : Prop :=
 H b = none /\ b ≠ X.env.locals /\ b ∉ X.fs /\ (b ∈ X.ex \/ X.s₀.heap.objs.size <= b) /\ (∀ x c, X.env.cells.lookup x = some c -> c ≠ b) /\ ∀ p ∈ X.pn ++ pins, p.1 ≠ b
theorem Inv.fpOk {X : Cx} {pins : List (Addr × Obj)} {σ : St} {H H' : Hp} {s : Shared} {b : Addr} (I : Inv X pins σ H s) (hb : s.heap.objs.size <= b) (hn : H' b = none) : FpOk X pins H' b := by
 refine ⟨hn, Nat.ne_of_gt (Nat.lt_of_lt_of_le I.lt hb), I.nofs hb, .inr (Nat.le_trans I.sz hb), fun x c e z => ?_, fun p hp z => ?_⟩
 ·obtain ⟨v, q⟩ := I.cell x c e
  exact absurd (Nat.lt_of_lt_of_le q.lt (by rw [z]; exact hb)) (Nat.lt_irrefl _)
 ·exact absurd (Nat.lt_of_lt_of_le (Heap.lt_size (I.pin p hp).1) (by rw [z]; exact hb)) (Nat.lt_irrefl _)
structure Turn (P : Program) (w : World) (K : PySem.W.Frag) (tg : Expr) (J : It) (fp : List Addr) (it : Addr) (tn : Nat -> Heap -> Prop) : Prop where
 mem : it ∈ fp
 obj : ∀ i h, tn i h -> ∀ b ∈ fp, ∃ o, h.get? b = some o /\ ∀ v, o.data ≠ .cell v
 keep : ∀ i h h', tn i h -> (∀ b ∈ fp, ∀ o, h.get? b = some o -> h'.get? b = some o) -> tn i h'
 item : ∀ (X : Cx), X.prog = P -> X.w = w -> X.K = K -> X.calm = true -> ∀ (i : Nat) (pins : List (Addr × Obj)) (s : Shared) (σ : St) (H : Hp) (E : Value -> Shared -> Prop), Inv X pins σ H s -> (∀ b ∈ fp, FpOk X pins H b) -> tn i s.heap -> J.go i H ->
  wpAny (model P w) X.A (pyNext (.ref it)) (fun r s1 => ∃ u, r = some u /\
   wpAny (model P w) X.A (letOwnedTupleGo tg (.ref it) u) (fun _ s2 => ∃ x H', Inv X pins σ H' s2 /\ RelV x u /\ J.yld i H x H' /\ tn (i + 1) s2.heap /\ ∀ b ∈ fp, H' b = none) E s1) E s
 done : ∀ (X : Cx), X.prog = P -> X.w = w -> X.K = K -> X.calm = true -> ∀ (i : Nat) (pins : List (Addr × Obj)) (s : Shared) (σ : St) (H : Hp) (E : Value -> Shared -> Prop), Inv X pins σ H s -> (∀ b ∈ fp, FpOk X pins H b) -> tn i s.heap -> J.stop i H ->
  wpAny (model P w) X.A (pyNext (.ref it)) (fun r s1 => r = none /\ Inv X pins σ H s1) E s
 self : ∀ (A : Around) (i : Nat) (s : Shared) (Q : Value -> Shared -> Prop) (E : Value -> Shared -> Prop), tn i s.heap -> Q (.ref it) s -> wpAny (model P w) A (pyIter (.ref it)) Q E s
abbrev TI := St -> Hp -> (It -> Hp -> Prop) -> Prop
def PIE (X : Cx) (pins : List (Addr × Obj)) (σ : St) (tg : Expr) (R : It -> Hp -> Prop) (itv : Value) (s2 : Shared) : Prop :=
 ∃ (it : Addr) (fp : List Addr) (tn : Nat -> Heap -> Prop) (J : It) (H' : Hp), itv = .ref it /\ Inv X pins σ H' s2 /\ Turn X.prog X.w X.K tg J fp it tn /\ tn 0 s2.heap /\ (∀ b ∈ fp, FpOk X pins H' b) /\ R J H'
def PI (X : Cx) (tg iter : Expr) (wi : TI) : Prop :=
 ∀ (pins : List (Addr × Obj)) (s : Shared) (σ : St) (H : Hp) (R : It -> Hp -> Prop), Inv X pins σ H s -> wi σ H R ->
  wpAny (model X.prog X.w) X.A (eval iter X.env) (fun v s1 => wpAny (model X.prog X.w) X.A (pyIter v) (PIE X pins σ tg R) X.xe s1) X.xe s
theorem Ydf {M : Model} {A : Around} {E : Value -> Shared -> Prop} {s : Shared} {tg : Expr} {it : Addr} {u : Value} {o : Obj} {n : String} {vs : Array Value} {Q : Unit -> Shared -> Prop} (ho : s.heap.get? it = some o) (hc : o.cls = .type n) (hd : o.data = .fields vs)
 (hn : ["enumerate", "zip", "dict_itemiterator", "dict_reverseitemiterator", "odict_iterator", "itertools.zip_longest", "itertools.pairwise"].contains n = false) (hQ : Q () s) : wpAny M A (letOwnedTupleGo tg (.ref it) u) Q E s := by
 unfold letOwnedTupleGo
 cases tg <;> first
  | exact wpAny_pure hQ
  | (cases u <;> first
   | exact wpAny_pure hQ
   | (refine wpAny_bind (wpAny_load ho ?_)
      rw [hc, hd]
      show wpAny M A (if (["enumerate", "zip", "dict_itemiterator", "dict_reverseitemiterator", "odict_iterator", "itertools.zip_longest", "itertools.pairwise"].contains n && vs[0]? == some (rawInt _)) = true then _ else _) Q E s
      rw [if_neg (by intro h; rw [hn, Bool.false_and] at h; cases h)]
      exact wpAny_pure hQ))
def Itl (K : PySem.W.Frag) (a : Addr) : It :=
 ⟨fun i H => ∃ xs x, SqL K H a xs /\ xs[i]? = some x, fun i H x H' => H' = H /\ ∀ xs, SqL K H a xs -> xs[i]? = some x, fun i H => ∃ xs, SqL K H a xs /\ xs.length <= i⟩
def Itt (K : PySem.W.Frag) (a : Addr) : It :=
 ⟨fun i H => ∃ xs x, SqT K H a xs /\ xs[i]? = some x, fun i H x H' => H' = H /\ ∀ xs, SqT K H a xs -> xs[i]? = some x, fun i H => ∃ xs, SqT K H a xs /\ xs.length <= i⟩
def Itr (lo : Int) (n : Nat) : It := ⟨fun i _ => i < n, fun i H x H' => H' = H /\ x = .int (lo + i), fun i _ => n <= i⟩
theorem YdD {P : Program} {w : World} {K : PySem.W.Frag} {tg : Expr} (a it : Addr) : Turn P w K tg (Itl K a) [it] it (fun i h => h.IsListIter it a i) where
 mem := by simp
 obj := fun i h st b hb => by
  have e : b = it := by simpa using hb
  subst e
  obtain ⟨o, e, c, d⟩ := st
  exact ⟨o, e, fun v z => by rw [d] at z; cases z⟩
 keep := fun i h h' st k => st.at fun o e => k it (by simp) o e
 item := by
  intro X hP hw hK hc i pins s σ H E I hf st hg
  subst hP hw hK
  obtain ⟨xs, x, hq, hx⟩ := hg
  obtain ⟨its, rv, p, hz⟩ := I.list hq
  obtain ⟨u, hu, ru⟩ := rv.get hx
  obtain ⟨f0, f1, f2, f3, f4, f5⟩ := hf it (by simp)
  refine wpAny_pyNext_list_item st p.isList (x := u) (by simpa using hu) fun h' st' sb => ?_
  have I1 : Inv X pins σ H { s with heap := h' } := I.turned (t' := s.toks) (fun b o hb e => (sb.2 b hb).trans e) f0 f1 f3 f4 f5
  obtain ⟨o, e, c, d⟩ := id st'
  exact ⟨u, rfl, Ydf (s := { s with heap := h' }) e c d (by decide) ⟨x, H, I1, ru, ⟨rfl, fun ys hy => by rw [I.list_inj hy hq]; exact hx⟩, st', fun b hb => (hf b hb).1⟩⟩
 done := by
  intro X hP hw hK hc i pins s σ H E I hf st hg
  subst hP hw hK
  obtain ⟨xs, hq, hx⟩ := hg
  obtain ⟨its, rv, p, hz⟩ := I.list hq
  obtain ⟨f0, f1, f2, f3, f4, f5⟩ := hf it (by simp)
  have hl := rv.length
  exact wpAny_pyNext_list_end (I.ok.hd hc) st p.isList (by simp; omega) fun h' eb => ⟨rfl, I.turned (t' := s.toks) (fun b o hb e => eb b o hb e) f0 f1 f3 f4 f5⟩
 self := fun _ _ _ _ _ st h => wpAny_pyIter_listiter st h
theorem YcM {P : Program} {w : World} {K : PySem.W.Frag} {tg : Expr} (a it : Addr) : Turn P w K tg (Itt K a) [it] it (fun i h => h.IsTupleIter it a i) where
 mem := by simp
 obj := fun i h st b hb => by
  have e : b = it := by simpa using hb
  subst e
  obtain ⟨o, e, c, d⟩ := st
  exact ⟨o, e, fun v z => by rw [d] at z; cases z⟩
 keep := fun i h h' st k => st.at fun o e => k it (by simp) o e
 item := by
  intro X hP hw hK hc i pins s σ H E I hf st hg
  subst hP hw hK
  obtain ⟨xs, x, hq, hx⟩ := hg
  obtain ⟨its, rv, p, hz⟩ := I.tuple hq
  obtain ⟨u, hu, ru⟩ := rv.get hx
  obtain ⟨f0, f1, f2, f3, f4, f5⟩ := hf it (by simp)
  refine wpAny_pyNext_tuple_item st (show s.heap.IsTuple a its.toArray from p) (x := u) (by simpa using hu) fun h' st' sb => ?_
  have I1 : Inv X pins σ H { s with heap := h' } := I.turned (t' := s.toks) (fun b o hb e => (sb.2 b hb).trans e) f0 f1 f3 f4 f5
  obtain ⟨o, e, c, d⟩ := id st'
  exact ⟨u, rfl, Ydf (s := { s with heap := h' }) e c d (by decide) ⟨x, H, I1, ru, ⟨rfl, fun ys hy => by rw [I.tuple_inj hy hq]; exact hx⟩, st', fun b hb => (hf b hb).1⟩⟩
 done := by
  intro X hP hw hK hc i pins s σ H E I hf st hg
  subst hP hw hK
  obtain ⟨xs, hq, hx⟩ := hg
  obtain ⟨its, rv, p, hz⟩ := I.tuple hq
  obtain ⟨f0, f1, f2, f3, f4, f5⟩ := hf it (by simp)
  have hl := rv.length
  exact wpAny_pyNext_tuple_end (I.ok.hd hc) st (show s.heap.IsTuple a its.toArray from p) (by simp; omega) fun h' eb => ⟨rfl, I.turned (t' := s.toks) (fun b o hb e => eb b o hb e) f0 f1 f3 f4 f5⟩
 self := fun _ _ _ _ _ st h => wpAny_pyIter_tupleiter st h
theorem Yct {P : Program} {w : World} {K : PySem.W.Frag} {tg : Expr} (it : Addr) (lo : Int) (n : Nat) : Turn P w K tg (Itr lo n) [it] it (fun i h => IsRangeIter h it (lo + (i : Nat) * 1) ((n : Int) - (i : Nat)) 1) where
 mem := by simp
 obj := fun i h st b hb => by
  have e : b = it := by simpa using hb
  subst e
  exact ⟨_, st, fun v z => by
   have z' : Data.fields _ = Data.cell v := z
   cases z'⟩
 keep := fun i h h' st k => k it (by simp) _ st
 item := by
  intro X hP hw hK hc i pins s σ H E I hf st hg
  subst hP hw hK
  obtain ⟨f0, f1, f2, f3, f4, f5⟩ := hf it (by simp)
  have W := Walks.range (prog := X.prog) (w := X.w) (I.ok.hd hc) it lo 1 n
  refine Tk.wpAny_le (W.item i s _ _ hg st fun v h' tk hv st' kk le => ?_)
  obtain ⟨t, rfl⟩ := hv
  have I1 : Inv X pins σ H { s with heap := h', toks := tk } := I.turned (fun b o hb e => kk b o (by simpa using hb) e) f0 f1 f3 f4 f5 le
  refine ⟨_, rfl, Ydf (s := { s with heap := h', toks := tk }) (n := "range_iterator") st' rfl rfl (by decide) ⟨.int (lo + i), H, I1, ⟨t, ?_⟩, ⟨rfl, rfl⟩, st', fun b hb => (hf b hb).1⟩⟩
  rw [Int.mul_one]
 done := by
  intro X hP hw hK hc i pins s σ H E I hf st hg
  subst hP hw hK
  obtain ⟨f0, f1, f2, f3, f4, f5⟩ := hf it (by simp)
  exact wpAny_pyNext_range_end (I.ok.hd hc) st (by have : n <= i := hg; omega) fun h' eb => ⟨rfl, I.turned (t' := s.toks) (fun b o hb e => eb b o hb e) f0 f1 f3 f4 f5⟩
 self := fun _ _ _ _ _ st h => wpAny_pyIter_rangeiter st h
end L2
namespace L2
open PySem PySem.Spec PyProof.Rows
section
variable {X : Cx} {tg : Expr}
theorem Ye2 {pins : List (Addr × Obj)} {σ : St} {H : Hp} {s : Shared} {R : It -> Hp -> Prop} {E : Value -> Shared -> Prop} {lo hi : Int} {t u v : Tok} {tk : Nat} (I : Inv X pins σ H s) (htk : s.toks <= tk) (h1 : -(2 ^ 62) <= lo) (h2 : lo < 2 ^ 62) (h3 : -(2 ^ 62) <= hi) (h4 : hi < 2 ^ 62)
 (q : R (Itr lo (hi - lo).toNat) H) : wpAny (model X.prog X.w) X.A (pyIter (.ref s.heap.objs.size)) (PIE X pins σ tg R) E { s with heap := s.heap.push { cls := .type "range", data := .fields #[.int lo t, .int hi u, .int 1 v] }, toks := tk } := by
 refine wpAny_pyIter_range (IsRange.new ..) (small_one h1 h2 h3 h4) ?_
 have I1 : Inv X pins σ H { s with heap := s.heap.push { cls := .type "range", data := .fields #[.int lo t, .int hi u, .int 1 v] }, toks := tk } := I.kept fun b o e => Heap.get?_push_of_some _ e
 refine ⟨(s.heap.push { cls := .type "range", data := .fields #[.int lo t, .int hi u, .int 1 v] }).objs.size, [(s.heap.push { cls := .type "range", data := .fields #[.int lo t, .int hi u, .int 1 v] }).objs.size], _, _, H, rfl,
  I1.kept (t' := tk) fun b o e => Heap.get?_push_of_some _ e, Yct _ lo (hi - lo).toNat, ?_, fun b hb => ?_, q⟩
 ·have e1 : lo + ((0 : Nat) : Int) * 1 = lo := by simp
  have e2 : (((hi - lo).toNat : Nat) : Int) - ((0 : Nat) : Int) = Builtin.Range.rangeSize lo hi 1 := by rw [rangeSize_one]; split <;> omega
  show IsRangeIter _ _ (lo + ((0 : Nat) : Int) * 1) ((((hi - lo).toNat : Nat) : Int) - ((0 : Nat) : Int)) 1
  rw [e1, e2]
  exact Heap.get?_push_size _ rfl
 ·have e : b = (s.heap.push { cls := .type "range", data := .fields #[.int lo t, .int hi u, .int 1 v] }).objs.size := by simpa using hb
  subst e
  exact I1.fpOk (Nat.le_refl _) (I1.hok.fresh (Nat.le_refl _))
def iRng1 (ta : TA) : TI := fun σ H R => ta σ H fun vs H1 => ∃ j : Int, vs = [.int j] /\ -(2 ^ 62) <= j /\ j < 2 ^ 62 /\ R (Itr 0 j.toNat) H1
theorem Yex {a : Expr} {ta : TA} {p pos : Pos} (hg : Gl X "range") (hm : X.mg "range" = none) (ha : PA X [a] ta) (hs : starEach [a] X.env = [(false, eval a X.env)] := by rfl) : PI X tg (.Call (.Name "range" p) [a] [] pos) (iRng1 ta) := by
 intro pins s σ H R I h
 refine Call_ (ZT I hg hm boot_range (PyProof.Rows.callWith_type1 (thn (ha pos pins s σ H _ I h) fun us s1 ⟨vs, H1, I1, r1, q1⟩ => ?_) hs rfl))
 obtain ⟨j, e, q1, q2, q⟩ := q1
 subst e
 cases r1 with
 | cons r rr =>
  cases rr
  obtain ⟨t, rfl⟩ := r
  exact call_range_1 (Ye2 I1 (by omega) (by omega) (by omega) q1 q2 (by simpa using q))
def tFor (wi : TI) (g : TG) (tb : TS) : TS := fun D σ H => wi σ H fun J H1 => ∃ W : Nat -> Nat -> St -> Hp -> Prop, (∃ m, W 0 m σ H1) /\ ∀ i m σ H, W i m σ H ->
 (J.stop i H /\ D.nx σ H) \/ (J.go i H /\ ∃ N : St -> Hp -> Prop, (∀ σ' H', N σ' H' -> ∃ m', m' < m /\ W (i + 1) m' σ' H') /\ ∀ x H', J.yld i H x H' -> g x σ H' fun σ2 H2 => tb { D with nx := N, ct := N, bk := D.nx } σ2 H2)
def pinsAt (fp : List Addr) (h : Heap) : List (Addr × Obj) := fp.filterMap fun b => (h.get? b).map fun o => (b, o)
theorem ZU {fp : List Addr} {h : Heap} {b : Addr} {o : Obj} (hb : b ∈ fp) (e : h.get? b = some o) : (b, o) ∈ pinsAt fp h := List.mem_filterMap.mpr ⟨b, hb, by rw [e]; rfl⟩
theorem Yd8 {fp : List Addr} {h : Heap} {p : Addr × Obj} (hp : p ∈ pinsAt fp h) : p.1 ∈ fp /\ h.get? p.1 = some p.2 := by
 obtain ⟨b, hb, e⟩ := List.mem_filterMap.mp hp
 cases q : h.get? b with
 | none => rw [q] at e; cases e
 | some o =>
  rw [q] at e
  have e' : (b, o) = p := Option.some.inj e
  subst e'
  exact ⟨hb, q⟩
theorem Inv.pinned {pins : List (Addr × Obj)} {σ : St} {H : Hp} {s : Shared} {fp : List Addr} (I : Inv X pins σ H s) (hf : ∀ b ∈ fp, FpOk X pins H b) (ho : ∀ b ∈ fp, ∃ o, s.heap.get? b = some o /\ ∀ v, o.data ≠ .cell v) : Inv X (pins ++ pinsAt fp s.heap) σ H s :=
 I.pins_of fun p hp => (List.mem_append.mp hp).elim (fun z => I.pin p (List.mem_append_right _ z)) fun z => by
  obtain ⟨hb, e⟩ := Yd8 z
  obtain ⟨f0, f1, f2, _⟩ := hf p.1 hb
  obtain ⟨o, e', d⟩ := ho p.1 hb
  rw [e] at e'; cases e'
  exact ⟨e, f0, f1, f2, d⟩
theorem Inv.unpinned {pins pl : List (Addr × Obj)} {σ : St} {H : Hp} {s : Shared} (I : Inv X (pins ++ pl) σ H s) : Inv X pins σ H s := I.pins_of fun p hp => I.pin p (List.mem_append_right _ (List.mem_append_left _ hp))
theorem YiS {iter : Expr} {body : List Stmt} {wi : TI} {g : TG} {tb : TS} {pos : Pos} (hp : PassesOwn (model X.prog X.w) X.A X.env X.xe) (hc : X.calm = true) (hi : PI X tg iter wi) (hg : PG X tg g) (hb : PSs X body tb)
 (hs : ∀ x, foldedSetIterable iter X.env x = pure x := by intro _; rfl) : PS X (.For tg iter body [] pos) (tFor wi g tb) := by
 intro pins s σ H D I h
 refine wpAny_For (thn (hi pins s σ H _ I h) fun v s1 h1 => thn h1 fun itv s2 h2 => ?_) hs
 obtain ⟨it, fp, tn, J, H2, e, I2, T, st2, f2, W, ⟨m0, w0⟩, turn⟩ := h2
 subst e
 have stat : ∀ {H' : Hp}, (∀ b ∈ fp, H' b = none) -> ∀ b ∈ fp, FpOk X pins H' b := fun hn b hb => ⟨hn b hb, (f2 b hb).2⟩
 refine codeAny_forLoop_any (fun n s' => ∃ i σ' H', Inv X pins σ' H' s' /\ tn i s'.heap /\ (∀ b ∈ fp, H' b = none) /\ W i n σ' H') ?_ m0 ⟨0, σ, H2, I2, st2, fun b hb => (f2 b hb).1, w0⟩
 rintro n s3 ⟨i, σ3, H3, I3, st3, fr3, w3⟩
 rcases turn i n σ3 H3 w3 with ⟨stop, qn⟩ | ⟨go, N, hN, step⟩
 ·refine wpAny_passesOwn hp (thn (T.done X rfl rfl rfl hc i pins s3 σ3 H3 X.xe I3 (stat fr3) st3 stop) fun r s4 ⟨hr, I4⟩ => ?_)
  subst hr
  exact wpAny_execs_nil ⟨σ3, H3, I4, qn⟩
 ·refine wpAny_passesOwn hp (thn (T.item X rfl rfl rfl hc i pins s3 σ3 H3 X.xe I3 (stat fr3) st3 go) fun r s4 ⟨u, hr, h4⟩ => ?_)
  subst hr
  refine wpAny_passesOwn hp (thn h4 fun _ s5 ⟨x, H5, I5, r5, y5, st5, fr5⟩ => ?_)
  have I5' := I5.pinned (stat fr5) (T.obj _ _ st5)
  refine wpAny_passesOwn hp (thn (hg _ s5 σ3 H5 x u _ I5' r5 (step x H5 y5)) fun _ s6 ⟨σ6, H6, I6, q6⟩ => ?_)
  refine wpAny_passesOwn hp (thn (hb _ s6 σ6 H6 _ I6 q6) fun f s7 q7 => ?_)
  have again : ∀ {σ7 : St} {H7 : Hp}, Inv X (pins ++ pinsAt fp s5.heap) σ7 H7 s7 -> N σ7 H7 -> ∃ m, m < n /\ ∃ i σ' H', Inv X pins σ' H' s7 /\ tn i s7.heap /\ (∀ b ∈ fp, H' b = none) /\ W i m σ' H' := fun {σ7 H7} I7 n7 => by
   obtain ⟨m', hm, w7⟩ := hN σ7 H7 n7
   refine ⟨m', hm, i + 1, σ7, H7, I7.unpinned, T.keep _ _ _ st5 fun b hb o e => (I7.pin (b, o) (List.mem_append_right _ (List.mem_append_right _ (ZU hb e)))).1, fun b hb => ?_, w7⟩
   obtain ⟨o, e, d⟩ := T.obj _ _ st5 b hb
   exact (I7.pin (b, o) (List.mem_append_right _ (List.mem_append_right _ (ZU hb e)))).2.1
  cases f with
  | next => obtain ⟨σ7, H7, I7, n7⟩ := q7; exact again I7 n7
  | cont => obtain ⟨σ7, H7, I7, n7⟩ := q7; exact again I7 n7
  | brk => obtain ⟨σ7, H7, I7, q7⟩ := q7; exact ⟨σ7, H7, I7.unpinned, q7⟩
  | ret v => obtain ⟨x7, σ7, H7, I7, r7, q7⟩ := q7; exact ⟨x7, σ7, H7, I7.unpinned, r7, q7⟩
end
end L2
namespace L2
open PySem PySem.Spec PyProof.Rows
abbrev R2 := V -> V -> Hp -> VK -> Prop
def OpR (X : Cx) (f : Value -> Value -> Sem Value) (r : R2) : Prop :=
 ∀ (pins : List (Addr × Obj)) (s : Shared) (σ : St) (H : Hp) (x y : V) (v u : Value) (Q : VK), Inv X pins σ H s -> RelV x v -> RelV y u -> r x y H Q ->
  wpAny (model X.prog X.w) X.A (f v u) (EP X pins σ Q) X.xe s
def CallR (X : Cx) (f : Value) (r : List V -> Hp -> VK -> Prop) : Prop :=
 ∀ (pins : List (Addr × Obj)) (s : Shared) (σ : St) (H : Hp) (xs : List V) (us : List Value) (Q : VK), Inv X pins σ H s -> Vals xs us -> r xs H Q ->
  wpAny (model X.prog X.w) X.A (call f us) (EP X pins σ Q) X.xe s
def TruR (X : Cx) (r : V -> Hp -> (Bool -> Hp -> Prop) -> Prop) : Prop :=
 ∀ (pins : List (Addr × Obj)) (s : Shared) (σ : St) (H : Hp) (x : V) (v : Value) (Q : Bool -> Hp -> Prop), Inv X pins σ H s -> RelV x v -> r x H Q ->
  wpAny (model X.prog X.w) X.A (truthy v) (TP X pins σ Q) X.xe s
def tOp (r : R2) (ta tb : TE) : TE := fun σ H Q => ta σ H fun x H1 => tb σ H1 fun y H2 => r x y H2 Q
def rI (C : Int -> Int -> Prop) (g : Int -> Int -> V) : R2 := fun x y H Q => ∃ i j, x = .int i /\ y = .int j /\ C i j /\ Q (g i j) H
def rI0 (g : Int -> Int -> V) : R2 := fun x y H Q => ∃ i j, x = .int i /\ y = .int j /\ Q (g i j) H
section
variable {X : Cx} {a b c : Expr} {ta tb tc : TE} {pos : Pos}
theorem binT (ha : PE X a ta) (hb : PE X b tb) {pins : List (Addr × Obj)} {s : Shared} {σ : St} {H : Hp} {R : V -> V -> Hp -> Prop} (I : Inv X pins σ H s)
 (h : ta σ H fun x H1 => tb σ H1 fun y H2 => R x y H2) {Q : Value -> Shared -> Prop} {f : Value -> Value -> Sem Value}
 (hf : ∀ v u s2 x y H2, Inv X pins σ H2 s2 -> RelV x v -> RelV y u -> R x y H2 -> wpAny (model X.prog X.w) X.A (f v u) Q X.xe s2) :
 wpAny (model X.prog X.w) X.A (eval a X.env) (fun v s₁ => wpAny (model X.prog X.w) X.A (eval b X.env) (fun u s₂ => wpAny (model X.prog X.w) X.A (f v u) Q X.xe s₂) X.xe s₁) X.xe s := by
 refine thn (ha pins s σ H _ I h) fun v s1 ⟨x, H1, I1, r1, q1⟩ => ?_
 refine thn (hb pins s1 σ H1 _ I1 q1) fun u s2 ⟨y, H2, I2, r2, q2⟩ => ?_
 exact hf v u s2 x y H2 I2 r1 r2 q2
theorem Yjh {op : Operator} {r : R2} (ho : OpR X (binaryOp op) r) (ha : PE X a ta) (hb : PE X b tb) : PE X (.BinOp a op b pos) (tOp r ta tb) := by
 intro pins s σ H Q I h
 exact wpAny_BinOp (binT ha hb I h fun v u s2 x y H2 I2 rx ry q => ho pins s2 σ H2 x y v u Q I2 rx ry q)
theorem opI {f : Value -> Value -> Sem Value} {C : Int -> Int -> Prop} {g : Int -> Int -> Int}
 (rule : ∀ (i j : Int) (t u : Tok) (s : Shared) (Q : Value -> Shared -> Prop) (E : Value -> Shared -> Prop), C i j -> Q (.int (g i j) s.toks) { s with toks := s.toks + 1 } -> wpAny (model X.prog X.w) X.A (f (.int i t) (.int j u)) Q E s) :
 OpR X f (rI C fun i j => .int (g i j)) := by
 intro pins s σ H x y v u Q I rx ry h
 obtain ⟨i, j, rfl, rfl, hc, q⟩ := h
 obtain ⟨t, rfl⟩ := rx
 obtain ⟨t', rfl⟩ := ry
 exact rule i j t t' s _ _ hc ⟨.int (g i j), H, I.tok _, ⟨_, rfl⟩, q⟩
theorem opI0 {f : Value -> Value -> Sem Value} {g : Int -> Int -> Int}
 (rule : ∀ (i j : Int) (t u : Tok) (s : Shared) (Q : Value -> Shared -> Prop) (E : Value -> Shared -> Prop), Q (.int (g i j) s.toks) { s with toks := s.toks + 1 } -> wpAny (model X.prog X.w) X.A (f (.int i t) (.int j u)) Q E s) :
 OpR X f (rI0 fun i j => .int (g i j)) := by
 intro pins s σ H x y v u Q I rx ry h
 obtain ⟨i, j, rfl, rfl, q⟩ := h
 obtain ⟨t, rfl⟩ := rx
 obtain ⟨t', rfl⟩ := ry
 exact rule i j t t' s _ _ ⟨.int (g i j), H, I.tok _, ⟨_, rfl⟩, q⟩
theorem opB0 {f : Value -> Value -> Sem Value} {g : Int -> Int -> Bool}
 (rule : ∀ (i j : Int) (t u : Tok) (s : Shared) (Q : Value -> Shared -> Prop) (E : Value -> Shared -> Prop), Q (.bool (g i j)) s -> wpAny (model X.prog X.w) X.A (f (.int i t) (.int j u)) Q E s) :
 OpR X f (rI0 fun i j => .bl (g i j)) := by
 intro pins s σ H x y v u Q I rx ry h
 obtain ⟨i, j, rfl, rfl, q⟩ := h
 obtain ⟨t, rfl⟩ := rx
 obtain ⟨t', rfl⟩ := ry
 exact rule i j t t' s _ _ ⟨.bl (g i j), H, I, rfl, q⟩
def CDiv (i j : Int) : Prop := 0 < j /\ j < 1073741824
def CMul (i j : Int) : Prop := (-(2 ^ 64) < i /\ i < 2 ^ 64) \/ (-(2 ^ 64) < j /\ j < 2 ^ 64)
theorem CMul.ok {i j : Int} (h : CMul i j) : IntMulOk i j := by
 rcases h with ⟨h1, h2⟩ | ⟨h1, h2⟩
 ·exact .of_left (intBits_le_64 h1 h2)
 ·exact .of_right (intBits_le_64 h1 h2)
theorem YiY : OpR X (binaryOp .Add) (rI0 fun i j => .int (i + j)) := opI0 fun _ _ _ _ _ _ _ q => add_int q
theorem YhQ : OpR X (binaryOp .Sub) (rI0 fun i j => .int (i - j)) := opI0 fun _ _ _ _ _ _ _ q => sub_int q
theorem YiR : OpR X (binaryOp .Mult) (rI CMul fun i j => .int (i * j)) := opI fun _ _ _ _ _ _ _ hc q => mul_int q hc.ok
theorem YgU : OpR X (binaryOp .FloorDiv) (rI CDiv fun i j => .int (i / j)) := opI fun i j _ _ _ _ _ hc q => by
 have h1 : (0 : Int) < j := hc.1
 have h2 : j < 1073741824 := hc.2
 exact floordiv_int (by omega) (by rw [Int.fdiv_eq_ediv_of_nonneg i (by omega)]; exact q) (.inl (PyProof.noPylong_small (by omega)))
theorem Yh0 : OpR X (binaryOp .Mod) (rI (fun _ j => 0 < j) fun i j => .int (i % j)) := opI fun i j _ _ _ _ _ hc q => by
 have h1 : (0 : Int) < j := hc
 exact mod_int' (by omega) (by rw [Int.fmod_eq_emod_of_nonneg i (by omega)]; exact q)
end
section
variable {X : Cx} {a b c : Expr} {ta tb tc : TE} {pos : Pos}
theorem YcV {pins : List (Addr × Obj)} {σ : St} {H : Hp} {s : Shared} {Q : VK} {k k' : Bool} (I : Inv X pins σ H s) (q : Q (.bl k) H) (e : k = k') : EP X pins σ Q (.bool k') s := by
 subst e
 exact ⟨.bl k, H, I, rfl, q⟩
theorem YjN : OpR X (compareOp .Lt) (rI0 fun i j => .bl (decide (i < j))) := opB0 fun _ _ _ _ _ _ _ q => lt_int q
theorem Yjm : OpR X (compareOp .LtE) (rI0 fun i j => .bl (decide (i <= j))) := opB0 fun _ _ _ _ _ _ _ q => le_int q
theorem Yjx : OpR X (compareOp .Gt) (rI0 fun i j => .bl (decide (j < i))) := opB0 fun _ _ _ _ _ _ _ q => gt_int q
theorem Yed : OpR X (compareOp .Lt) (fun x y H Q => ∃ i ti j tj, x = .str i ti /\ y = .str j tj /\ Q (.bl (decide (i.cps.toList < j.cps.toList))) H) := by
 intro pins s σ H x y v u Q I rx ry h
 obtain ⟨i, ti, j, tj, rfl, rfl, q⟩ := h
 cases rx
 cases ry
 exact lt_str (YcV I q rfl)
theorem Yec : OpR X (compareOp .In) (fun x y H Q => ∃ i ti j tj, x = .str i ti /\ y = .str j tj /\ Q (.bl (!(Builtin.Str.occurrences j i 0 j.length 1).isEmpty)) H) := by
 intro pins s σ H x y v u Q I rx ry h
 obtain ⟨i, ti, j, tj, rfl, rfl, q⟩ := h
 cases rx
 cases ry
 exact in_str (YcV I q rfl)
theorem Ybj : OpR X (compareOp .NotIn) (fun x y H Q => ∃ i ti j tj, x = .str i ti /\ y = .str j tj /\ Q (.bl (!(!(Builtin.Str.occurrences j i 0 j.length 1).isEmpty))) H) := by
 intro pins s σ H x y v u Q I rx ry h
 obtain ⟨i, ti, j, tj, rfl, rfl, q⟩ := h
 cases rx
 cases ry
 exact notIn_str (YcV I q rfl)
theorem nomark (b : Expr) {op : CmpOp} (h : op ≠ .In := by decide) (h2 : op ≠ .NotIn := by decide) : behindInMarks op b = false := by
 have e1 : (op == CmpOp.In) = false := by cases op <;> first | rfl | exact absurd rfl h
 have e2 : (op == CmpOp.NotIn) = false := by cases op <;> first | rfl | exact absurd rfl h2
 cases b <;> simp [behindInMarks, e1, e2]
theorem YgR {op : CmpOp} {r : R2} (ho : OpR X (compareOp op) r) (ha : PE X a ta) (hb : PE X b tb) (hm : behindInMarks op b = false) : PE X (.Compare a [op] [b] pos) (tOp r ta tb) := by
 intro pins s σ H Q I h
 exact wpAny_Compare1 (binT ha hb I h fun v u s2 x y H2 I2 rx ry q => ho pins s2 σ H2 x y v u Q I2 rx ry q) hm
def tTest (t : TE) : TT := fun σ H Q => t σ H fun x H' => ∃ k, x = .bl k /\ Q k H'
theorem YgN {op : CmpOp} {r : R2} (ho : OpR X (compareOp op) r) (ha : PE X a ta) (hb : PE X b tb) (hm : behindInMarks op b = false) : PT X (.Compare a [op] [b] pos) (tTest (tOp r ta tb)) := by
 intro pins s σ H Q I h
 refine wpAny_isTrue_Compare1 (thn (ha pins s σ H _ I h) fun v s1 ⟨x, H1, I1, r1, q1⟩ => thn (hb pins s1 σ H1 _ I1 q1) fun u s2 ⟨y, H2, I2, r2, q2⟩ =>
  thn (ho pins s2 σ H2 x y v u _ I2 r1 r2 q2) fun c s3 ⟨z, H3, I3, r3, k, e, q3⟩ => ?_) hm
 subst e
 cases r3
 exact wpAny_truthy_bool ⟨H3, I3, q3⟩
def tChain (r r' : R2) (ta tb tc : TE) : TE := fun σ H Q => ta σ H fun x H1 => tb σ H1 fun y H2 => r x y H2 fun z H3 => ∃ k, z = .bl k /\
 (if k = true then tc σ H3 fun w' H4 => r' y w' H4 Q else Q (.bl false) H3)
theorem YfB {op op' : CmpOp} {r r' : R2} (ho : OpR X (compareOp op) r) (ho' : OpR X (compareOp op') r') (ha : PE X a ta) (hb : PE X b tb) (hc : PE X c tc)
 (hm : lastMarks [op, op'] [b, c] = false := by with_unfolding_all rfl) : PE X (.Compare a [op, op'] [b, c] pos) (tChain r r' ta tb tc) := by
 intro pins s σ H Q I h
 refine Compare_chain (thn (ha pins s σ H _ I h) fun v s1 ⟨x, H1, I1, r1, q1⟩ => chain_link (thn (hb pins s1 σ H1 _ I1 q1) fun u s2 ⟨y, H2, I2, r2, q2⟩ =>
  thn (ho pins s2 σ H2 x y v u _ I2 r1 r2 q2) fun d s3 ⟨z, H3, I3, r3, k, e, q3⟩ => ?_)) hm
 subst e
 cases r3
 refine wpAny_truthy_bool ?_
 cases k with
 | false => exact ite_ff ⟨.bl false, H3, I3, rfl, q3⟩
 | true => exact ite_tt (chain_last (thn (hc pins s3 σ H3 _ I3 q3) fun w' s4 ⟨z', H4, I4, r4, q4⟩ => ho' pins s4 σ H4 y z' u w' Q I4 r2 r4 q4))
def TruV (K : PySem.W.Frag) (x : V) (H : Hp) (k : Bool) : Prop :=
 match x with
 | .non => k = false
 | .bl b => k = b
 | .int i => k = (i != 0)
 | .str y _ => y.length <= sizeLine /\ k = ((y.length : Int) != 0)
 | .byt y => y.size <= sizeLine /\ k = ((y.size : Int) != 0)
 | .ref p => (∃ xs, SqL K H p xs /\ k = !xs.isEmpty) \/ (∃ xs, SqT K H p xs /\ k = !xs.isEmpty) \/ ∃ kvs, H p = some (.dK kvs) /\ k = !kvs.isEmpty
 | _ => False
theorem Yc5 {κ : Type} {kvs : List (κ × V)} {vs : List (κ × Value)} (r : KV kvs vs) : (!vs.isEmpty) = !kvs.isEmpty := by
 cases r <;> rfl
theorem Jv {xs : List V} {its : List Value} (r : Vals xs its) : (!its.toArray.isEmpty) = !xs.isEmpty := by
 cases r <;> simp
theorem line63 : (sizeLine : Nat) < 2 ^ 63 := by rw [sizeLine_eq]; decide
theorem YhL : TruR X (fun x H Q => ∃ k, TruV X.K x H k /\ Q k H) := by
 intro pins s σ H x v Q I rx h
 obtain ⟨k, e, q⟩ := h
 have hl := line63
 have hs : sizeLine = 16777216 := sizeLine_eq
 cases x with
 | non =>
  cases rx
  have e' : k = false := e
  subst e'
  exact truthy_none ⟨H, I, q⟩
 | bl b =>
  cases rx
  have e' : k = b := e
  subst e'
  exact wpAny_truthy_bool ⟨H, I, q⟩
 | int i =>
  obtain ⟨t, rfl⟩ := rx
  have e' : k = (i != 0) := e
  subst e'
  exact PySem.P.truthy_int ⟨H, I, q⟩
 | str y t =>
  cases rx
  obtain ⟨hy, e'⟩ : y.length <= sizeLine /\ k = ((y.length : Int) != 0) := e
  subst e'
  exact PySem.P.truthy_str (by omega) ⟨H, I.tok _, q⟩
 | byt y =>
  obtain ⟨t, rfl⟩ := rx
  obtain ⟨hy, e'⟩ : y.size <= sizeLine /\ k = ((y.size : Int) != 0) := e
  subst e'
  exact PySem.W.truthy_bytes (by omega) ⟨H, I.tok _, q⟩
 | ref p =>
  cases rx
  have e' : (∃ xs, SqL X.K H p xs /\ k = !xs.isEmpty) \/ (∃ xs, SqT X.K H p xs /\ k = !xs.isEmpty) \/ ∃ kvs, H p = some (.dK kvs) /\ k = !kvs.isEmpty := e
  rcases e' with ⟨xs, hx, e'⟩ | ⟨xs, hx, e'⟩ | ⟨kvs, hx, e'⟩
  ·subst e'
   obtain ⟨its, r, pl, hz⟩ := I.list hx
   have hlen := r.length
   exact wpAny_truthy_list pl.isList (by simp only [List.size_toArray]; omega) ⟨H, I.tok _, by rw [Jv r]; exact q⟩
  ·subst e'
   obtain ⟨its, r, pl, hz⟩ := I.tuple hx
   have hlen := r.length
   exact truthy_tuple pl (by simp only [List.size_toArray]; omega) ⟨H, I.tok _, by rw [Jv r]; exact q⟩
  ·subst e'
   obtain ⟨hz, hS, vs, r, m⟩ : kvs.length <= sizeLine /\ (p == sysModules) = false /\ ∃ vs, KV kvs vs /\ s.heap.DictOf (mixKind X.prog X.w) p vs := I.hok p _ hx
   have hlen : kvs.length = vs.length := Paired.length r
   exact wpAny_truthy_dict hS m (by omega) ⟨H, I.tok _, by rw [Yc5 r]; exact q⟩
 | _ => exact (show False from e).elim
theorem Yf1 (ha : PE X a ta) (he : ∀ whole, isTrue a X.env whole = (do let v <- whole; standAt a.pos; holding [v] (truthy v))) :
 PT X a (fun σ H Q => ta σ H fun x H' => ∃ k, TruV X.K x H' k /\ Q k H') := by
 intro pins s σ H Q I h
 exact isTrue_plain (thn (ha pins s σ H _ I h) fun v s1 ⟨x, H1, I1, r1, q1⟩ => YhL pins s1 σ H1 x v Q I1 r1 q1) (he _)
theorem Ycx : OpR X (binaryOp .Add) (fun x y H Q => ∃ i ti j tj, x = .str i ti /\ y = .str j tj /\ i.length + j.length <= sizeLine /\ (i.length = 0 -> Q (.str j tj) H) /\ (j.length = 0 -> Q (.str i ti) H) /\ MkT (i ++ j) Q H) := by
 intro pins s σ H x y v u Q I rx ry h
 obtain ⟨i, ti, j, tj, rfl, rfl, hz, q1, q2, q3⟩ := h
 cases rx
 cases ry
 refine PySem.P.add_str ?_
 by_cases h1 : (i.length == 0) = true
 ·rw [if_pos h1]; exact ⟨.str j tj, H, I, rfl, q1 (by simpa using h1)⟩
 ·rw [if_neg h1]
  by_cases h2 : (j.length == 0) = true
  ·rw [if_pos h2]; exact ⟨.str i ti, H, I, rfl, q2 (by simpa using h2)⟩
  ·rw [if_neg h2]
   exact ⟨by have : (i ++ j).length = i.length + j.length := Str.length_append i j; omega, .str (i ++ j) _, _, I.txt, rfl, q3 _ I.fresh_tok.1 I.fresh_tok.2⟩
theorem vals1 {x : V} {us : List Value} (r : Vals [x] us) : ∃ u, us = [u] /\ RelV x u := by
 cases r with
 | cons r1 r2 => cases r2; exact ⟨_, rfl, r1⟩
theorem vals2 {x y : V} {us : List Value} (r : Vals [x, y] us) : ∃ u w', us = [u, w'] /\ RelV x u /\ RelV y w' := by
 cases r with
 | cons r1 r2 =>
  cases r2 with
  | cons r3 r4 => cases r4; exact ⟨_, _, rfl, r1, r3⟩
theorem Yd5 (hc : X.calm = true) : CallR X (.builtin "max") (fun xs H Q => ∃ i j, xs = [.int i, .int j] /\ Q (.int (if j > i then j else i)) H) := by
 intro pins s σ H xs us Q I r h
 obtain ⟨i, j, rfl, q⟩ := h
 obtain ⟨u, w', rfl, ⟨t, rfl⟩, ⟨t', rfl⟩⟩ := vals2 r
 refine Tk.wpAny_le (max_two_ints (I.ok.hd hc) fun h' tk k le => ⟨_, H, I.kept k le, ?_, q⟩)
 by_cases hj : j > i
 ·rw [if_pos hj, if_pos hj]; exact ⟨_, rfl⟩
 ·rw [if_neg hj, if_neg hj]; exact ⟨_, rfl⟩
end
end L2
namespace L2
open PySem PySem.Spec PyProof.Rows
structure ObjM (h : Heap) (x dx C : Addr) (mA : Str -> Option Value) : Prop where
 obj : h.get? x = some (PySem.W.instObj C dx)
 ns : h.Ns1 dx mA
 ne : dx ≠ x
section
variable {prog : Program} {w : World} {A : Around} {E : Value -> Shared -> Prop} {s : Shared} {K : PySem.W.Frag} {x dx C f : Addr} {mA : Str -> Option Value} {name : Str} {v : Value}
end
theorem RelO.some_of {v : V} {o : Option Value} (r : RelO (some v) o) : ∃ u, o = some u /\ RelV v u := by
 cases o with
 | none => exact (show False from r).elim
 | some u => exact ⟨u, rfl, r⟩
section
variable {P : Program} {w : World} {H H' : Hp} {h h' : Heap} {a C dx : Addr} {fs fs' : List (Str × V)}
end
structure Cls (K : PySem.W.Frag) (C : Addr) : Prop where
 pg : PySem.W.plainGet K C Str.empty = true
 hd : PySem.W.hasDictIn K C = true
 po : PySem.W.plainOver K C = true
 sa : PySem.W.findIn K (.ref C) "__setattr__" = some (some (.builtin "object.__setattr__"))
structure Con (K : PySem.W.Frag) (C : Addr) (f : Str) (v : V) (u : Value) : Prop where
 at_ : PySem.W.findIn K (.ref C) f = some (some u)
 rel : RelV v u
 get : PySem.W.specialIn K u "__get__" = some none
 cp : PySem.W.copiedNames.contains f = false
structure Meth (K : PySem.W.Frag) (C : Addr) (m : Str) (f : Addr) : Prop where
 at_ : PySem.W.findIn K (.ref C) m = some (some (.ref f))
 fn : PySem.W.isFn K (.ref f) = true
 kp : PySem.W.keepIn K (.ref f) = true
section
variable {X : Cx} {pins : List (Addr × Obj)} {σ : St} {H : Hp} {s : Shared} {a C dx : Addr} {fs : List (Str × V)} {f : Str} {v : V} {A : Around} {E : Value -> Shared -> Prop}
theorem Inv.made (I : Inv X pins σ H s) : Inv X pins σ (upd (upd H s.heap.objs.size (.own (s.heap.objs.size + 1))) (s.heap.objs.size + 1) (.ins C s.heap.objs.size []))
 { s with heap := (s.heap.push PySem.W.emptyDict).push (PySem.W.instObj C s.heap.objs.size) } := by
 have e1 : (s.heap.push PySem.W.emptyDict).get? s.heap.objs.size = some PySem.W.emptyDict := Heap.get?_push_size s.heap rfl
 have e2 : ((s.heap.push PySem.W.emptyDict).push (PySem.W.instObj C s.heap.objs.size)).get? (s.heap.objs.size + 1) = some (PySem.W.instObj C s.heap.objs.size) := by
  have := Heap.get?_push_size (s.heap.push PySem.W.emptyDict) (o := PySem.W.instObj C s.heap.objs.size) rfl
  rwa [Heap.size_push] at this
 have e3 : (s.heap.push PySem.W.emptyDict).Ns s.heap.objs.size (fun _ => none) := ⟨PySem.W.emptyDict, #[], _, e1, rfl, (fun e he => absurd he (by simp)), fun _ => rfl⟩
 have I1 := I.laid (a := s.heap.objs.size) (o := .own (s.heap.objs.size + 1)) (h' := s.heap.push PySem.W.emptyDict) (t' := s.toks) (fun b u q => Heap.get?_push_of_some _ q) (Nat.le_refl _) ⟨_, e1⟩
 refine I1.laid (a := s.heap.objs.size + 1) (o := .ins C s.heap.objs.size []) (t' := s.toks) (fun b u q => Heap.get?_push_of_some _ q) (Nat.le_of_eq (Heap.size_push _ _)) ?_
 have ne : s.heap.objs.size ≠ s.heap.objs.size + 1 := Nat.ne_of_lt (Nat.lt_succ_self _)
 refine ⟨by rw [Ye ne, Yh], Nat.zero_le _, ne, e2, fun _ => none, (Heap.Ns1.of_empty e3).at fun o q => Heap.get?_push_of_some _ q, fun _ => True.intro, fun y hy => absurd rfl hy⟩
end
section
variable {X : Cx} {o e value : Expr} {f : Str} {pos pos' tpos : Pos} {ta tv : TE}
end
section
variable {X : Cx} {pins : List (Addr × Obj)} {σ : St} {H : Hp} {s : Shared} {A : Around} {E : Value -> Shared -> Prop} {Q : Value -> Shared -> Prop} {c : Value} {b : Bool}
inductive TyOf (K : PySem.W.Frag) (H : Hp) : V -> Value -> Prop where
 | non : TyOf K H .non (.type "NoneType")
 | bl (x : Bool) : TyOf K H (.bl x) (.type "bool")
 | int (i : Int) : TyOf K H (.int i) (.type "int")
 | str (x : Str) (t : Tok) : TyOf K H (.str x t) (.type "str")
 | flt (x : UInt64) : TyOf K H (.flt x) (.type "float")
 | lst {a : Addr} {xs : List V} (e : H a = some (.lst xs)) : TyOf K H (.ref a) (.type "list")
 | frz {a : Addr} {o : Obj} {xs : List V} (e : H a = some (.frz o (.lst xs))) : TyOf K H (.ref a) (.type "list")
 | tup {a : Addr} {xs : List V} (e : H a = some (.tup xs)) : TyOf K H (.ref a) (.type "tuple")
 | dK {a : Addr} {kvs : List (Key × V)} (e : H a = some (.dK kvs)) : TyOf K H (.ref a) (.type "dict")
 | dT {a : Addr} {kvs : List (List Key × V)} (e : H a = some (.dT kvs)) : TyOf K H (.ref a) (.type "dict")
 | ins {a C dx : Addr} {fs : List (Str × V)} (e : H a = some (.ins C dx fs)) (cl : Cls K C) (ha : PySem.W.findIn K (.ref C) "__class__" = some (some (.builtin "object.__class__")))
  (hn : PySem.W.specialIn K (.builtin "object.__class__") "__get__" = some (some (.builtin "getset_descriptor.__get__"))) (htk : PySem.W.takesIn K (.builtin "object.__class__") = some true)
  (hm : PySem.W.mroIn K C (.type "object") = some true) : TyOf K H (.ref a) (.ref C)
end
end L2
namespace L2
open PySem PySem.Spec PyProof.Rows
structure Room (k : Nat) (A : Around) : Prop where
 hd : A.handled = none
 dp : A.depth + 3 * k + 5 < recursionLimit
 un : A.units + 16 * k + 200 < cLine
theorem Room.mono {j k : Nat} {A : Around} (r : Room k A) (h : j <= k) : Room j A := ⟨r.hd, by have := r.dp; omega, by have := r.un; omega⟩
theorem Room.deeper {k : Nat} {A : Around} (r : Room (k + 1) A) (env : Env) : Room k (A.deeper env) :=
 ⟨r.hd, by have := r.dp; show A.depth + 1 + 3 * k + 5 < _; omega, by have := r.un; show A.units + 3 + 16 * k + 200 < _; omega⟩
theorem Room.depth {k : Nat} {A : Around} (r : Room k A) : A.depth < recursionLimit := by have := r.dp; omega
theorem Room.units {k : Nat} {A : Around} (r : Room k A) : A.units + 64 < cLine := by have := r.un; omega
def tNil : TA := fun _ H Q => Q [] H
def tCons (ta : TE) (tr : TA) : TA := fun σ H Q => ta σ H fun x H1 => tr σ H1 fun xs H2 => Q (x :: xs) H2
section
variable {X : Cx} {e : Expr} {es : List Expr} {te : TE} {t : TA} {pos : Pos}
theorem JF : PA X [] tNil := fun _ _ _ _ H Q I h => Calls.spliced_nil ⟨[], H, I, .nil, h⟩
theorem Wu (ha : PE X e te) (hr : PA X es t) (hs : starEach (e :: es) X.env = (false, eval e X.env) :: starEach es X.env := by rfl) : PA X (e :: es) (tCons te t) := by
 intro pos pins s σ H Q I h
 rw [hs]
 show wpAny _ _ (spliced ((false, eval e X.env) :: backTo pos (starEach es X.env))) _ _ s
 refine Calls.spliced_cons (thn (ha pins s σ H _ I h) fun u s1 ⟨x, H1, I1, r1, q1⟩ => ?_)
 exact thn (hr pos pins s1 σ H1 _ I1 q1) fun us s2 ⟨xs, H2, I2, r2, q2⟩ => ⟨x :: xs, H2, I2, .cons r1 r2, q2⟩
def tTup (t : TA) : TE := fun σ H Q => t σ H fun xs H1 => xs.length <= sizeLine /\ ∀ p, H1 p = none -> Q (.ref p) (upd H1 p (.tup xs))
def tLst (t : TA) : TE := fun σ H Q => t σ H fun xs H1 => xs.length <= sizeLine /\ ∀ p, H1 p = none -> Q (.ref p) (upd H1 p (.lst xs))
theorem YiW {x1} (h : PA X es t) : PE X (.Tuple es x1 pos) (tTup t) := by
 intro pins s σ H Q I hq
 refine wpAny_Tuple_spliced (thn (h pos pins s σ H _ I hq) fun us s1 ⟨xs, H1, I1, r, z, q⟩ => ⟨by rw [<- r.length]; exact z, ?_⟩)
 have hf : H1 s1.heap.objs.size = none := I1.hok.fresh (Nat.le_refl _)
 refine ⟨.ref s1.heap.objs.size, upd H1 s1.heap.objs.size (.tup xs), I1.laid (t' := s1.toks) (fun b u e => Heap.get?_push_of_some _ e) (Nat.le_refl _) ?_, rfl, q _ hf⟩
 exact ⟨z, us, r, ⟨_, Heap.get?_push_size _ rfl, rfl, _, rfl⟩⟩
theorem YhR (h : PA X es t) : PE X (.List es pos) (tLst t) := by
 intro pins s σ H Q I hq
 refine wpAny_List_spliced (thn (h pos pins s σ H _ I hq) fun us s1 ⟨xs, H1, I1, r, z, q⟩ => ⟨by rw [<- r.length]; exact z, ?_⟩)
 have hf : H1 s1.heap.objs.size = none := I1.hok.fresh (Nat.le_refl _)
 refine ⟨.ref s1.heap.objs.size, upd H1 s1.heap.objs.size (.lst xs), I1.laid (t' := s1.toks) (fun b u e => Heap.get?_push_of_some _ e) (Nat.le_refl _) ?_, rfl, q _ hf⟩
 exact ⟨z, us, 0, r, Heap.get?_push_size _ rfl⟩
end
abbrev Sp := List V -> Hp -> VK -> XK -> Prop
abbrev CXT := List Env -> Hp -> Shared -> XK -> Value -> Shared -> Prop
structure Env0 (P : Program) (w : World) (K : PySem.W.Frag) (mg : Str -> Option Value) (base : Heap) (A : Around) (outer : List Env) (s : Shared) (H : Hp) : Prop where
 frames : A.frames = some outer
 mod : Mod K mg base
 bs : ∀ b o, base.get? b = some o -> s.heap.get? b = some o /\ H b = none
 bsz : base.objs.size <= s.heap.objs.size
 funs : s.heap.FunFrames base outer
 frf : ∀ b ∈ frs outer, H b = none
 hok : HOk P w H s.heap
 bare : AllBare s.gens
 tk : ∀ t, s.toks <= t -> H.τ t = none
def CE (outer : List Env) (P : Program) (w : World) (H : Hp) (s : Shared) (Q : VK) (u : Value) (s' : Shared) : Prop :=
 ∃ v H', s'.os = s.os /\ AllBare s'.gens /\ Un (frs outer) [] H H' s.heap s'.heap /\ HOk P w H' s'.heap /\ TkOk H' s'.toks /\ RelV v u /\ Q v H'
def CR (CX : CXT) (outer : List Env) (P : Program) (w : World) (H : Hp) (s : Shared) (Q : VK) (E : XK) (r : Result) (s' : Shared) : Prop :=
 match r with
 | .ok (.ret u) => CE outer P w H s Q u s'
 | .ok _ => False
 | .error e => CX outer H s E e s'
def LocF (fd : FuncData) (ps : List Str) (s : Shared) : Prop := 0 < s.toks \/ ∃ y r, ps = y :: r /\ fd.scope.names.lookup y = some .local
structure FnOk (P : Program) (w : World) (K : PySem.W.Frag) (mg : Str -> Option Value) (base : Heap) (CX : CXT) (k : Nat) (f : Addr) (fd : FuncData) (ps : List Str) (sp : Sp) : Prop where
 len : ∀ vs H Q E, sp vs H Q E -> vs.length = ps.length
 run : ∀ (A : Around) (outer : List Env) (s : Shared) (H : Hp) (args : Args) (us : List Value) (vs : List V) (Q : VK) (E : XK), Room k A -> Env0 P w K mg base A outer s H -> LocF fd ps s -> BindsTo s fd args (ps.zip us) -> Vals vs us -> sp vs H Q E ->
  codeAny (model P w) A (.call (.ref f) args) (CR CX outer P w H s Q E) s
theorem FnOk.mono {P : Program} {w : World} {K : PySem.W.Frag} {mg : Str -> Option Value} {base : Heap} {CX : CXT} {j k : Nat} {f : Addr} {fd : FuncData} {ps : List Str} {sp : Sp} (F : FnOk P w K mg base CX j f fd ps sp) (h : j <= k) :
 FnOk P w K mg base CX k f fd ps sp := ⟨F.len, fun A outer s H args us vs Q E hr => F.run A outer s H args us vs Q E (hr.mono h)⟩
theorem FnOk.imp {P : Program} {w : World} {K : PySem.W.Frag} {mg : Str -> Option Value} {base : Heap} {CX : CXT} {k : Nat} {f : Addr} {fd : FuncData} {ps : List Str} {sp sp' : Sp} (F : FnOk P w K mg base CX k f fd ps sp)
 (h : ∀ vs H Q E, sp' vs H Q E -> sp vs H Q E) : FnOk P w K mg base CX k f fd ps sp' :=
 ⟨fun vs H Q E q => F.len vs H Q E (h _ _ _ _ q), fun A outer s H args us vs Q E hr he hp hb hv hs => F.run A outer s H args us vs Q E hr he hp hb hv (h _ _ _ _ hs)⟩
section
variable {X : Cx} {pins : List (Addr × Obj)} {σ : St} {H : Hp} {s s' : Shared}
theorem Inv.env0 (I : Inv X pins σ H s) : Env0 X.prog X.w X.K X.mg X.base X.A X.stack s H :=
 ⟨I.ok.frames, I.ok.mod, I.bs, Nat.le_trans I.ok.bsz I.sz, I.stack, I.stkFree, I.hok, I.bare, I.tk.2⟩
theorem Inv.after {Q : VK} {u : Value} (I : Inv X pins σ H s) (h : CE X.stack X.prog X.w H s Q u s') : EP X pins σ Q u s' := by
 obtain ⟨v, H', os, bare, un, hok, tk, r, q⟩ := h
 obtain ⟨hh, g, d, t, os'⟩ := s'
 obtain rfl : os' = s.os := os
 exact ⟨v, H', I.call (h' := hh) (g' := g) (d' := d) (t' := t) (ch := []) un hok bare (fun b z => absurd z (by simp)) tk, r, q⟩
end
def tCall (sp : Sp) (dvs : List V) (E : XK) (t : TA) : TE := fun σ H Q => t σ H fun vs H1 => sp (vs ++ dvs) H1 Q E
def Binds (K : PySem.W.Frag) (fd : FuncData) (ps : List Str) (ds : List Value) : Prop :=
 ∀ (s : Shared) (us : List Value), K.In s.heap -> (us ++ ds).length = ps.length -> BindsTo s fd ⟨us, []⟩ (ps.zip (us ++ ds))
theorem Binds.all {K : PySem.W.Frag} {fd : FuncData} {ps : List Str} (h : ∀ us : List Value, us.length = ps.length -> bindArgs fd ⟨us, []⟩ = pure (ps.zip us)) : Binds K fd ps [] := fun s us _ hl => by
 rw [List.append_nil] at hl ⊢
 exact .of_eq (h us hl)
def Passes (CX : CXT) (X : Cx) (E : XK) : Prop := ∀ (pins : List (Addr × Obj)) (σ : St) (H : Hp) (s : Shared) (e : Value) (s' : Shared), Inv X pins σ H s -> CX X.stack H s E e s' -> X.xe e s'
section
variable {X : Cx} {CX : CXT} {k : Nat} {f C : Addr} {fd : FuncData} {ps : List Str} {sp : Sp} {dvs : List V} {ds : List Value} {E : XK} {x m : Str} {p pos apos : Pos} {e o : Expr} {es : List Expr} {ta : TE} {t : TA}
theorem YiP {pins : List (Addr × Obj)} {σ : St} {H : Hp} {s : Shared} {Q : VK} {us : List Value} {vs : List V} (F : FnOk X.prog X.w X.K X.mg X.base CX k f fd ps sp) (hr : Room k X.A) (hb : Binds X.K fd ps ds) (hd : Vals dvs ds) (hx : Passes CX X E)
 (I : Inv X pins σ H s) (r : Vals vs us) (h : sp (vs ++ dvs) H Q E) : wpAny (model X.prog X.w) X.A (call (.ref f) us) (EP X pins σ Q) X.xe s := by
 have r2 : Vals (vs ++ dvs) (us ++ ds) := r.append hd
 have hl : (us ++ ds).length = ps.length := by rw [<- r2.length]; exact F.len _ _ _ _ h
 refine wpAny_call (codeAny_mono (F.run X.A X.stack s H ⟨us, []⟩ (us ++ ds) (vs ++ dvs) Q E hr I.env0 (.inl I.tk.1) (hb s us I.kIn hl) r2 h) fun r s' hq => ?_)
 cases r with
 | error e => exact hx pins σ H s e s' I hq
 | ok fl =>
  cases fl with
  | ret u => exact I.after hq
  | next => exact False.elim hq
  | brk => exact False.elim hq
  | cont => exact False.elim hq
theorem YgK (F : FnOk X.prog X.w X.K X.mg X.base CX k f fd ps sp) (hr : Room k X.A) (hg : Gl X x) (hm : X.mg x = some (.ref f)) (hk : PySem.W.keepIn X.K (.ref f) = true) (hb : Binds X.K fd ps ds) (hd : Vals dvs ds) (hx : Passes CX X E)
 (ha : PA X (e :: es) t) (hdb : (x == ("__debug__" : Str)) = false := by decide) (he : starEach (e :: es) X.env = (false, eval e X.env) :: starEach es X.env := by rfl) (hpl : (backTo pos (starEach es X.env)).any (·.1) = false := by rfl) :
 PE X (.Call (.Name x p) (e :: es) [] pos) (tCall sp dvs E t) := by
 intro pins s σ H Q I h
 refine wpAny_Call_Name_kw (Yhf I hg hm ?_ hdb)
 refine PySem.W.callWith_K (h₀ := X.base) I.ok.mod.kin hk (thn (ha pos pins s σ H _ I h) fun us s1 ⟨vs, H1, I1, r, q⟩ => ⟨I1.kIn, ?_⟩) he hpl
 exact YiP F hr hb hd hx I1 r q
structure Mk (K : PySem.W.Frag) (C f : Addr) : Prop where
 makes : PySem.W.makesIn K C = true
 init : PySem.W.findIn K (.ref C) "__init__" = some (some (.ref f))
 fn : PySem.W.isFn K (.ref f) = true
 kp : PySem.W.keepIn K (.ref C) = true
end
section
variable {X : Cx} {CX : CXT} {k : Nat} {f C : Addr} {fd : FuncData} {ps ks : List Str} {sp : Sp} {E : XK} {x m : Str} {p pos apos kpos : Pos} {e o : Expr} {es : List Expr} {kws : List Keyword} {te ta : TE} {t tk : TA} {nm : Option Str}
structure KBinds (K : PySem.W.Frag) (fd : FuncData) (ps ks : List Str) (g : List Value -> List Value -> List Value) (gV : List V -> List V -> List V) : Prop where
 to : ∀ (s : Shared) (us ws : List Value), K.In s.heap -> (g us ws).length = ps.length -> BindsTo s fd ⟨us, ks.zip ws⟩ (ps.zip (g us ws))
 rel : ∀ {vs : List V} {us : List Value} {zs : List V} {ws : List Value}, Vals vs us -> Vals zs ws -> Vals (gV vs zs) (g us ws)
variable {g : List Value -> List Value -> List Value} {gV : List V -> List V -> List V}
end
structure FnScope (N P : List Str) (sc : Scope) : Prop where
 kind : sc.kind = .function
 co : sc.isCoroutine = false
 gen : sc.isGenerator = false
 nd : N.Nodup
 pre : N.take P.length = P
 par : ∀ x ∈ P, sc.names.lookup x = some .local \/ sc.names.lookup x = some .cell
 nofree : ∀ y ∈ sc.names, y.2 ≠ .free
theorem YaM {kindOf : Str -> Option NameKind} {x : Str} : ∀ {binds : List (Str × Value)} {m : Str -> Option Value}, (∀ v, (x, v) ∉ binds) -> bindL kindOf binds m x = m x
 | [], _, _ => rfl
 | (n, v) :: r, m, h => by
  unfold bindL
  rw [YaM fun w hw => h w (List.mem_cons_of_mem _ hw)]
  split
  ·have : x ≠ n := by rintro rfl; exact h v List.mem_cons_self
   simp [this]
  ·rfl
theorem Yay {kindOf : Str -> Option NameKind} {x : Str} : ∀ {binds : List (Str × Value)} {m : Str -> Option Value}, (∀ v, (x, v) ∉ binds) -> bindC kindOf binds m x = m x
 | [], _, _ => rfl
 | (n, v) :: r, m, h => by
  unfold bindC
  rw [Yay fun w hw => h w (List.mem_cons_of_mem _ hw)]
  split
  ·rfl
  ·have : x ≠ n := by rintro rfl; exact h v List.mem_cons_self
   simp [this]
theorem YaA {kindOf : Str -> Option NameKind} {x : Str} {v : Value} : ∀ {P : List Str} {vs : List Value} {i : Nat} {m : Str -> Option Value}, P.Nodup -> P[i]? = some x -> vs[i]? = some v -> kindOf x = some .local ->
 bindL kindOf (P.zip vs) m x = some v
 | [], _, _, _, _, h, _, _ => by simp at h
 | _ :: _, [], _, _, _, _, h, _ => by simp at h
 | p :: P, w :: vs, 0, m, nd, h1, h2, hk => by
  simp at h1 h2; subst h1; subst h2
  show bindL kindOf ((p, w) :: P.zip vs) m p = _
  unfold bindL
  rw [YaM fun v hv => (List.nodup_cons.mp nd).1 (List.of_mem_zip hv).1, if_pos hk]
  simp
 | p :: P, w :: vs, i + 1, m, nd, h1, h2, hk => by
  show bindL kindOf ((p, w) :: P.zip vs) m x = _
  unfold bindL
  exact YaA (i := i) (List.nodup_cons.mp nd).2 (by simpa using h1) (by simpa using h2) hk
theorem Yaq {kindOf : Str -> Option NameKind} {x : Str} {v : Value} : ∀ {P : List Str} {vs : List Value} {i : Nat} {m : Str -> Option Value}, P.Nodup -> P[i]? = some x -> vs[i]? = some v -> kindOf x ≠ some .local ->
 bindC kindOf (P.zip vs) m x = some v
 | [], _, _, _, _, h, _, _ => by simp at h
 | _ :: _, [], _, _, _, _, h, _ => by simp at h
 | p :: P, w :: vs, 0, m, nd, h1, h2, hk => by
  simp at h1 h2; subst h1; subst h2
  show bindC kindOf ((p, w) :: P.zip vs) m p = _
  unfold bindC
  rw [Yay fun v hv => (List.nodup_cons.mp nd).1 (List.of_mem_zip hv).1, if_neg hk]
  simp
 | p :: P, w :: vs, i + 1, m, nd, h1, h2, hk => by
  show bindC kindOf ((p, w) :: P.zip vs) m x = _
  unfold bindC
  exact Yaq (i := i) (List.nodup_cons.mp nd).2 (by simpa using h1) (by simpa using h2) hk
def start (N : List Str) (vs : List V) : St := vs.map some ++ List.replicate (N.length - vs.length) none
def cxOf (CX : CXT) (P : Program) (w : World) (K : PySem.W.Frag) (mg : Str -> Option Value) (base : Heap) (N : List Str) (qual : Str) (scope : Scope) (f : Addr) (cd : Value) (A : Around) (outer : List Env) (s : Shared) (H : Hp) (E : XK) : Cx where
 prog := P
 w := w
 K := K
 mg := mg
 base := base
 A := A.deeper (envOfC qual scope s.heap.objs.size f cd)
 N := N
 s₀ := s
 H₀ := H
 env := envOfC qual scope s.heap.objs.size f cd
 outer := outer
 stack := envOfC qual scope s.heap.objs.size f cd :: outer
 ex := []
 calm := true
 fn := fun _ => true
 pn := []
 xe := fun e s' => wpAny (model P w) (A.deeper (envOfC qual scope s.heap.objs.size f cd)) (leaving (envOfC qual scope s.heap.objs.size f cd) e) (fun _ s'' => CX outer H s E e s'') (fun e' s'' => CX outer H s E e' s'') s'
theorem Ybv {sc : Scope} {n : Nat} {x : Str} (h : sc.names.lookup x = some .cell) : ∃ c, (cellsFrom n sc.names []).lookup x = some c := by
 have q := PySem.W.cellsFrom_some sc.names n [] (.inl h)
 exact Option.isSome_iff_exists.mp q
theorem YdJ {CX : CXT} {P : Program} {w : World} {K : PySem.W.Frag} {mg : Str -> Option Value} {base : Heap} {N ps : List Str} {qual : Str} {scope : Scope} {f : Addr} {cd : Value} {A : Around} {outer : List Env} {s s1 : Shared} {H : Hp} {E : XK} {us : List Value} {vs : List V}
 (S : FnScope N ps scope) (hd : A.handled = none) (e0 : Env0 P w K mg base A outer s H) (hl : vs.length = ps.length) (r : Vals vs us)
 (x : InCallC s s.heap.objs.size (bindL (envOfC qual scope s.heap.objs.size f cd).kindOf (ps.zip us) fun _ => none) (cellsFrom (s.heap.objs.size + 1) scope.names []) (bindC (envOfC qual scope s.heap.objs.size f cd).kindOf (ps.zip us) fun _ => none) s1) (htk : TkOk H s1.toks) :
 Inv (cxOf CX P w K mg base N qual scope f cd A outer s H E) [] (start N vs) H s1 := by
 have hpl : ps.length <= N.length := by have := congrArg List.length S.pre; rw [List.length_take] at this; omega
 obtain ⟨h1, tk, rfl, hk⟩ := x.done
 have noA : ∀ b : Addr, b ∉ (cxOf CX P w K mg base N qual scope f cd A outer s H E).ex := fun b z => absurd (show b ∈ ([] : List Addr) from z) (by simp)
 refine ⟨⟨e0.mod, S.kind, rfl, rfl, Nat.le_refl _, fun y z c h1 h2 => ?_, fun y hy => ?_, fun y c _ h => ?_, fun _ => hd, Around.frames_deeper e0.frames, .inr ⟨rfl, rfl⟩, fun b z => absurd z (noA b), e0.bs, e0.bsz, fun b _ _ => noA b, fun b z => absurd z (noA b), e0.funs, e0.frf⟩,
  rfl, e0.bare, Un.kept hk, ⟨_, x.toInCall.ns, fun i y v h1 h2 h3 => ?_⟩, fun y c h => ⟨_, x.cell y c h⟩, e0.hok.fresh (Nat.le_refl _), fun y c h => ?_, fun p hp => absurd (show p ∈ ([] : List (Addr × Obj)) from hp) (by simp), e0.hok.kept hk, ?_, htk⟩
 ·exact name_of_addr x.apart (PySem.mem_of_lookup h1) (PySem.mem_of_lookup h2)
 ·have hy : scope.names.lookup y = some .cell \/ scope.names.lookup y = some .free := hy
  rcases hy with hy | hy
  ·exact Ybv hy
  ·exact absurd rfl (S.nofree _ (PySem.mem_of_lookup hy))
 ·exact Nat.le_of_lt (x.above y c (PySem.mem_of_lookup h))
 ·have hi : i < vs.length := by
   unfold start at h2
   by_cases hi : i < vs.length
   ·exact hi
   ·rw [List.getElem?_append_right (by simpa using hi)] at h2
    rw [List.getElem?_replicate] at h2
    split at h2 <;> cases h2
  have ha : vs[i]? = some v := by
   unfold start at h2
   rw [List.getElem?_append_left (by simpa using hi), List.getElem?_map] at h2
   cases e : vs[i]? with
   | none => rw [e] at h2; cases h2
   | some a => rw [e] at h2; cases h2; rfl
  obtain ⟨u, hu, rv⟩ := r.get ha
  have hp : ps[i]? = some y := by
   rw [<- S.pre, List.getElem?_take_of_lt (by omega)]; exact h1
  have ndP : ps.Nodup := by rw [<- S.pre]; exact S.nd.sublist (List.take_sublist _ _)
  refine ⟨u, rv, ?_⟩
  rcases S.par y (List.mem_of_getElem? hp) with k | k
  ·exact .inl ⟨k, YaA ndP hp hu k⟩
  ·obtain ⟨c, e⟩ := Ybv (n := s.heap.objs.size + 1) k
   refine .inr ⟨.inl k, c, e, ?_⟩
   have q := x.cell y c e
   rw [Yaq ndP hp hu (by show scope.names.lookup y ≠ _; rw [k]; decide)] at q
   exact q
 ·exact e0.hok.fresh (Nat.le_of_lt (x.above y c (PySem.mem_of_lookup h)))
 ·unfold start
  show _ = N.length
  rw [List.length_append, List.length_map, List.length_replicate]
  omega
theorem YjJ {CX : CXT} {P : Program} {w : World} {K : PySem.W.Frag} {mg : Str -> Option Value} {base : Heap} {k : Nat} {f : Addr} {name qual : Str} {params : Arguments} {body : List Stmt} {scope : Scope} {dV kV doc pm cdv ct oc : Value} {an od : Option Addr}
 {osl : Array (Option Value)} {N ps : List Str} {sp : Sp} (lk : K.lookup f = some ⟨oc, od, .func (PySem.W.fnOf name qual params body scope dV kV doc pm an cdv ct), osl⟩) (hcd : PySem.W.codeIn K cdv qual = true) (S : FnScope N ps scope)
 (len : ∀ vs H Q E, sp vs H Q E -> vs.length = ps.length)
 (hbody : ∀ (A : Around) (outer : List Env) (s : Shared) (H : Hp) (vs : List V) (Q : VK) (E : XK), Room k (A.deeper (envOfC qual scope s.heap.objs.size f cdv)) -> sp vs H Q E ->
  ∃ t, PSs (cxOf CX P w K mg base N qual scope f cdv A outer s H E) body t /\ t { nx := fun _ H' => Q .non H', rt := Q } (start N vs) H) :
 FnOk P w K mg base CX (k + 1) f (PySem.W.fnOf name qual params body scope dV kV doc pm an cdv ct) ps sp := by
 refine ⟨len, fun A outer s H args us vs Q E hr e0 hp hb r hsp => ?_⟩
 have hl := len _ _ _ _ hsp
 have hpos : 0 < s.toks \/ ∃ x v q, ps.zip us = (x, v) :: q /\ scope.names.lookup x = some .local := by
  rcases hp with z | ⟨y, q, rfl, z⟩
  ·exact .inl z
  ·have lu := r.length
   rw [hl] at lu
   cases us with
   | nil => simp at lu
   | cons u us => exact .inr ⟨y, u, _, rfl, z⟩
 have KX : K.In s.heap := e0.mod.kin.keeps fun b o e => (e0.bs b o e).1
 have lim : s.heap.NoLimit := e0.mod.nolimit.keeps fun b o e => (e0.bs b o e).1
 have hkind : ∀ y ∈ ps.zip us, scope.names.lookup y.1 = some .local \/ (scope.names.lookup y.1 = some .cell /\ ((cellsFrom (s.heap.objs.size + 1) scope.names []).lookup y.1).isSome = true) := fun ⟨n, v⟩ hy => by
  rcases S.par n (List.of_mem_zip hy).1 with q | q
  ·exact .inl q
  ·exact .inr ⟨q, PySem.W.cellsFrom_some _ _ _ (.inl q)⟩
 refine codeAny_call_function hr.depth (KX _ _ lk) rfl S.co S.gen rfl (PySem.W.codeRec_of KX hcd) (hb _ _ _ _ ?_)
 refine Tk.wpAny_env S.kind hpos (wpAny_newFunctionEnv_cells S.kind hkind fun env he s1 x le pos => ?_)
 subst he
 refine ⟨lim.keeps x.toInCall.keep, codeAny_func ?_⟩
 obtain ⟨t, ht, hq⟩ := hbody A outer s H vs Q E (hr.deeper _) hsp
 have I : Inv (cxOf CX P w K mg base N qual scope f cdv A outer s H E) [] (start N vs) H s1 := YdJ S hr.hd e0 hl r x ⟨pos, fun t q => e0.tk t (Nat.le_trans le q)⟩
 refine wpAny_mono (ht [] s1 (start N vs) H _ I hq) (fun fl s' hs => ?_) fun e s' hs => hs
 have fin : ∀ {σ' : St} {H' : Hp} {v : V} {u : Value}, Inv (cxOf CX P w K mg base N qual scope f cdv A outer s H E) [] σ' H' s' -> RelV v u -> Q v H' -> CE outer P w H s Q u s' :=
  fun {σ' H' v u} J rv q => ⟨v, H', J.os, J.bare, J.base, J.hok, J.tk, rv, q⟩
 cases fl with
 | ret u =>
  obtain ⟨v, σ', H', J, rv, q⟩ := hs
  exact fin J rv q
 | next =>
  obtain ⟨σ', H', J, q⟩ := hs
  exact fin (v := V.non) (u := Value.none) J rfl q
 | brk =>
  obtain ⟨_, _, _, q⟩ := hs
  exact False.elim q
 | cont =>
  obtain ⟨_, _, _, q⟩ := hs
  exact False.elim q
end L2
namespace L2
open PySem PySem.Spec PyProof.Rows
section
variable {X : Cx} {x : Str} {p pos : Pos} {e : Expr} {es : List Expr} {t : TA} {id T : String} {r : List V -> Hp -> VK -> Prop}
def tCB (r : List V -> Hp -> VK -> Prop) (t : TA) : TE := fun σ H Q => t σ H fun vs H1 => r vs H1 Q
theorem Je (hc : CallR X (.builtin id) r) (hg : Gl X x) (hm : X.mg x = none) (hv : bootBuiltins x = some (.builtin id)) (ha : PA X (e :: es) t) (hn : x ≠ "__name__" := by decide) (hdb : (x == ("__debug__" : Str)) = false := by decide)
 (he : starEach (e :: es) X.env = (false, eval e X.env) :: starEach es X.env := by rfl) (hpl : (backTo pos (starEach es X.env)).any (·.1) = false := by rfl) : PE X (.Call (.Name x p) (e :: es) [] pos) (tCB r t) := by
 intro pins s σ H Q I h
 refine wpAny_Call_Name_kw (ZT I hg hm hv ?_ hn hdb)
 exact PyProof.Rows.callWith_builtin1 (thn (ha pos pins s σ H _ I h) fun us s1 ⟨vs, H1, I1, r1, q1⟩ => hc pins s1 σ H1 vs us Q I1 r1 q1) he hpl
theorem Yal (hc : CallR X (.type T) r) (hg : Gl X x) (hm : X.mg x = none) (hv : bootBuiltins x = some (.type T)) (ha : PA X (e :: es) t) (hn : x ≠ "__name__" := by decide) (hdb : (x == ("__debug__" : Str)) = false := by decide)
 (he : starEach (e :: es) X.env = (false, eval e X.env) :: starEach es X.env := by rfl) (hpl : (backTo pos (starEach es X.env)).any (·.1) = false := by rfl) : PE X (.Call (.Name x p) (e :: es) [] pos) (tCB r t) := by
 intro pins s σ H Q I h
 refine wpAny_Call_Name_kw (ZT I hg hm hv ?_ hn hdb)
 exact PyProof.Rows.callWith_type1 (thn (ha pos pins s σ H _ I h) fun us s1 ⟨vs, H1, I1, r1, q1⟩ => hc pins s1 σ H1 vs us Q I1 r1 q1) he hpl
end
end L2
namespace HT
open PySem PyProof.Rows
section
open PySem.SeqAt
open PySem.AutoSeq1 (wpAny_loadPart')
open PySem.MeetsSeq PySem.MeetsSeq2 PySem.MeetsSeq3
end
section
variable {prog : Program} {w : World} {A : Around} {E : Value -> Shared -> Prop} {s : Shared}
theorem cat_tup {t b : Addr} {vs ws : List Value} {Q : Value -> Shared -> Prop} (ht : IsTup s.heap t vs.toArray) (hb : IsTup s.heap b ws.toArray) (hv : vs ≠ [])
 (h1 : ws = [] -> Q (.ref t) s) (h2 : ws ≠ [] -> Q (.ref s.heap.objs.size) { s with heap := s.heap.push { cls := .type "tuple", data := .seq (vs ++ ws).toArray } })
 (hsz : vs.length + ws.length <= sizeLine) : wpAny (model prog w) A (binaryOp .Add (.ref t) (.ref b)) Q E s := by
 obtain ⟨⟨cls, dd, data, sl⟩, ho, hc, n, hd⟩ := id ht
 obtain ⟨⟨cls2, dd2, data2, sl2⟩, ho2, hc2, n2, hd2⟩ := id hb
 simp only at hc hd hc2 hd2
 subst hc hd hc2 hd2
 have e : vs.toArray ++ ws.toArray = (vs ++ ws).toArray := by simp
 by_cases hw : ws = []
 ·exact concat_meets ⟨_, ho, rfl⟩ ⟨_, ho2, rfl⟩ noFill_tuple_add seq_tuple_add PySem.F.slot_tuple_add PySem.F.entry_tuple_add (PySem.F.args_tuple_add_2 _ _)
   (tuple_addW1 t b vs.toArray ws.toArray n n2 dd dd2 sl sl2 (by simpa using hv) (by simp [hw])) ⟨ho, ho2, h1 hw⟩
 ·refine concat_meets ⟨_, ho, rfl⟩ ⟨_, ho2, rfl⟩ noFill_tuple_add seq_tuple_add PySem.F.slot_tuple_add PySem.F.entry_tuple_add (PySem.F.args_tuple_add_2 _ _)
   (tuple_addW2 t b vs.toArray ws.toArray n n2 dd dd2 sl sl2 (by simpa using hv) (by simpa using hw) (by rw [List.size_toArray, List.size_toArray]; exact hsz)) ⟨ho, ho2, ?_⟩
  rw [e]
  exact h2 hw
def sIx (n d : Nat) : Option Int -> Nat
 | none => d
 | some v => if v < 0 then (v + (n : Int)).toNat else min v.toNat n
theorem sIx_nat (n d k : Nat) : sIx n d (some (k : Int)) = min k n := by
 show (if (k : Int) < 0 then ((k : Int) + (n : Int)).toNat else min (k : Int).toNat n) = min k n
 rw [if_neg (by omega), Int.toNat_natCast]
theorem Yio (n d : Nat) (hd : d <= n) (o : Option Int) : sIx n d o <= n := by
 cases o with
 | none => exact hd
 | some v =>
  show (if v < 0 then (v + (n : Int)).toNat else min v.toNat n) <= n
  by_cases hv : v < 0
  ·rw [if_pos hv]; omega
  ·rw [if_neg hv]; exact Nat.min_le_right _ _
theorem Ydl (v : Int) (n d : Nat) : (if v < 0 then max (v + (n : Int)) 0 else min v (n : Int)) = ((sIx n d (some v) : Nat) : Int) := by
 show (if v < 0 then max (v + (n : Int)) 0 else min v (n : Int)) = (((if v < 0 then (v + (n : Int)).toNat else min v.toNat n) : Nat) : Int)
 by_cases hv : v < 0
 ·simp only [if_pos hv]; omega
 ·simp only [if_neg hv]; omega
theorem YcQ (lo hi : Option Int) (n : Nat) : Builtin.Slice.sliceAdjust lo hi 1 (n : Int) = (((sIx n 0 lo : Nat) : Int), ((sIx n n hi : Nat) : Int)) := by
 have h1 : ¬ ((1 : Int) < 0) := by omega
 unfold Builtin.Slice.sliceAdjust
 simp only [h1, if_false]
 refine Prod.ext ?_ ?_
 ·cases lo with
  | none => rfl
  | some v => exact Ydl v n 0
 ·cases hi with
  | none => rfl
  | some v => exact Ydl v n n
theorem YcN (i j : Nat) : Builtin.Slice.slicePlaces (i : Int) (j : Int) 1 = j - i := by
 unfold Builtin.Slice.slicePlaces
 have h1 : (1 : Int) > 0 := by omega
 simp only [h1, if_true, Int.ediv_one]
 split <;> omega
theorem Jg {v : Value} {o : Option Int} {Q : Option Int -> Shared -> Prop} (p : IsPart v o) (h : Q o s) : wpAny (model prog w) A (Builtin.Slice.slicePartIndex v) Q E s := by
 cases p with
 | none => exact slicePart_none h
 | int i t => exact slicePart_int h
theorem sliceApplied_gen {sl : Addr} {vl vu : Value} {lo hi : Option Int} {n : Nat} {Q : Int × Int × Nat -> Shared -> Prop} (hs : s.heap.IsSliceOf sl vl vu .none) (pl : IsPart vl lo) (pu : IsPart vu hi)
 (h : Q (((sIx n 0 lo : Nat) : Int), 1, sIx n n hi - sIx n 0 lo) s) : wpAny (model prog w) A (Builtin.Slice.sliceApplied (.ref sl) (pure (n : Int))) Q E s := by
 obtain ⟨os, hos, hcs, hds⟩ := id hs
 unfold Builtin.Slice.sliceApplied Builtin.Slice.sliceFields
 refine wpAny_bind (wpAny_bind (wpAny_field hos hds (x := vl) rfl (wpAny_bind (wpAny_field hos hds (x := vu) rfl (wpAny_bind (wpAny_field hos hds (x := .none) rfl (wpAny_pure ?_)))))))
 refine wpAny_bind (slicePart_none ?_)
 show wpAny _ _ (if ((1 : Int) == 0) = true then _ else _) _ _ s
 rw [if_neg (by decide)]
 refine wpAny_bind (Jg pl (wpAny_bind (Jg pu (wpAny_bind (wpAny_pure ?_)))))
 show wpAny _ _ (match Builtin.Slice.sliceAdjust lo hi 1 (n : Int) with | (lo, hi) => pure (lo, (1 : Int), Builtin.Slice.slicePlaces lo hi 1)) _ _ s
 rw [YcQ lo hi n]
 show wpAny _ _ (pure (((sIx n 0 lo : Nat) : Int), (1 : Int), Builtin.Slice.slicePlaces ((sIx n 0 lo : Nat) : Int) ((sIx n n hi : Nat) : Int) 1)) _ _ s
 rw [YcN]
 exact wpAny_pure h
theorem YfZ (xs : Array Value) (i k : Nat) : ((List.range k).filterMap fun (m : Nat) => xs[((i : Int) + (m : Int) * 1).toNat]?).toArray = ((xs.toList.drop i).take k).toArray := by
 have e : (fun (m : Nat) => xs[((i : Int) + (m : Int) * 1).toNat]?) = fun m => xs[i + m]? := by
  funext m
  have : ((i : Int) + (m : Int) * 1).toNat = i + m := by omega
  rw [this]
 rw [e]
 have := pick_run xs i k
 rw [List.filterMap_map] at this
 have e2 : ((fun x => xs[x]?) ∘ fun x => i + x) = fun m => xs[i + m]? := rfl
 rw [e2] at this
 rw [this]
theorem getItem_tuple_cut {t sl : Addr} {items : Array Value} {vl vu : Value} {lo hi : Option Int} {Q : Value -> Shared -> Prop} (ht : IsTup s.heap t items) (hs : s.heap.IsSliceOf sl vl vu .none) (pl : IsPart vl lo) (pu : IsPart vu hi)
 (hw : ¬ (sIx items.size 0 lo = 0 /\ sIx items.size items.size hi = items.size))
 (h : Q (.ref s.heap.objs.size) { s with heap := s.heap.push { cls := .type "tuple", data := .seq ((items.toList.drop (sIx items.size 0 lo)).take (sIx items.size items.size hi - sIx items.size 0 lo)).toArray } })
 (hsz : items.size <= sizeLine) : wpAny (model prog w) A (getItem (.ref t) (.ref sl)) Q E s := by
 have htake : sizeOk (.seq ((items.toList.drop (sIx items.size 0 lo)).take (sIx items.size items.size hi - sIx items.size 0 lo)).toArray) := by
  show ((items.toList.drop (sIx items.size 0 lo)).take (sIx items.size items.size hi - sIx items.size 0 lo)).toArray.size <= sizeLine
  rw [List.size_toArray, List.length_take, List.length_drop, Array.length_toList]
  omega
 have hj : sIx items.size items.size hi <= items.size := Yio _ _ (Nat.le_refl _) hi
 obtain ⟨os, hos, hcs, hds⟩ := id hs
 have hTs : s.TypeIs (.ref sl) "slice" := ⟨os, hos, hcs⟩
 unfold getItem
 try with_reducible refine wpAny_holding ?_
 first | refine wpAny_bind (wpAny_pure ?_) | skip
 refine wpAny_bind (wpAny_sequenceKey ht.typeIs (by decide) ?_)
 refine wpAny_bind (wpAny_callSpecial?_slot (name := Str.ofString "__getitem__") ht.typeIs PyProof.Rows.slot_tuple_getitem
  (wpAny_call_entry PyProof.Rows.slot_tuple_getitem ht.typeIs entry_tuple_getitem ?_ (args_tuple_getitem _ _)))
 show wpAny _ _ (Builtin.Tuple.tupleItemsOf (.ref t) >>= _) _ _ s
 refine wpAny_bind (tupleItemsOf_ ht ?_)
 refine wpAny_bind (wpAny_typeOf hTs ?_)
 rw [if_pos (by decide)]
 refine wpAny_bind (sliceApplied_gen hs pl pu ?_)
 have hno : ¬ ((((sIx items.size 0 lo : Nat) : Int) == 0 && (1 : Int) == 1 && (sIx items.size items.size hi - sIx items.size 0 lo) == items.size) = true) := by
  intro q
  rw [Bool.and_eq_true, Bool.and_eq_true] at q
  have q1 : ((sIx items.size 0 lo : Nat) : Int) = 0 := eq_of_beq q.1.1
  have q2 : sIx items.size items.size hi - sIx items.size 0 lo = items.size := eq_of_beq q.2
  exact hw ⟨by omega, by omega⟩
 show wpAny _ _ (if (((sIx items.size 0 lo : Nat) : Int) == 0 && (1 : Int) == 1 && (sIx items.size items.size hi - sIx items.size 0 lo) == items.size) = true then _ else _) _ _ s
 rw [if_neg hno, YfZ]
 first
  | exact wpAny_bind (m := Builtin.Tuple.tupleExact _) (wpAny_newObj_type (wpAny_pure ⟨_, rfl, wpAny_pure h⟩) htake)
  | exact wpAny_bind (m := Builtin.Tuple.tupleExact _) (wpAny_newObj_type (wpAny_bind (wpAny_pure (wpAny_pure ⟨_, rfl, wpAny_pure h⟩))) htake)
  | exact wpAny_bind (wpAny_bind (m := Builtin.Tuple.tupleExact _) (wpAny_newObj_type (wpAny_pure (wpAny_pure ⟨_, rfl, wpAny_pure h⟩)) htake))
  | exact wpAny_bind (wpAny_bind (m := Builtin.Tuple.tupleExact _) (wpAny_newObj_type (wpAny_pure ⟨_, rfl, wpAny_pure h⟩) htake))
end
end HT
namespace L2
open PySem PySem.Spec PyProof.Rows
abbrev TO := St -> Hp -> (Option Int -> Hp -> Prop) -> Prop
def PO (X : Cx) (e : Option Expr) (t : TO) : Prop :=
 ∀ (pins : List (Addr × Obj)) (s : Shared) (σ : St) (H : Hp) (Q : Option Int -> Hp -> Prop), Inv X pins σ H s -> t σ H Q ->
  wpAny (model X.prog X.w) X.A (evalPart e X.env) (fun u s' => ∃ o H', Inv X pins σ H' s' /\ IsPart u o /\ Q o H') X.xe s
def tNoPart : TO := fun _ H Q => Q none H
def tPart (t : TE) : TO := fun σ H Q => t σ H fun x H1 => ∃ i, x = .int i /\ Q (some i) H1
section
variable {X : Cx} {e : Expr} {te : TE} {lo hi : Option Expr} {tl th : TO} {pos p2 : Pos}
theorem Yg1 : PO X none tNoPart := by
 intro pins s σ H Q I h
 rw [evalPart_none]
 exact wpAny_pure ⟨none, H, I, .none, h⟩
theorem Yg6 (h : PE X e te) : PO X (some e) (tPart te) := by
 intro pins s σ H Q I hw
 rw [evalPart_some]
 refine thn (h pins s σ H _ I hw) fun u s1 ⟨x, H1, I1, r1, q1⟩ => ?_
 obtain ⟨i, rfl, q⟩ := q1
 obtain ⟨t, rfl⟩ := r1
 exact ⟨some i, H1, I1, .int i t, q⟩
def SlR (X : Cx) (r : V -> Option Int -> Option Int -> Hp -> VK -> Prop) : Prop :=
 ∀ (pins : List (Addr × Obj)) (s : Shared) (σ : St) (H : Hp) (x : V) (v vl vu : Value) (lo hi : Option Int) (sl : Addr) (Q : VK), Inv X pins σ H s -> RelV x v -> s.heap.IsSliceOf sl vl vu .none -> IsPart vl lo -> IsPart vu hi -> r x lo hi H Q ->
  ∃ T id, typeLookup (.type T) "__getitem__" = pure (some (.builtin id)) /\ s.TypeIs v T /\ wpAny (model X.prog X.w) X.A (getItem v (.ref sl)) (EP X pins σ Q) X.xe s
theorem SlR.or {r r' : V -> Option Int -> Option Int -> Hp -> VK -> Prop} (h : SlR X r) (h' : SlR X r') : SlR X (fun x lo hi H Q => r x lo hi H Q \/ r' x lo hi H Q) := by
 intro pins s σ H x v vl vu lo hi sl Q I rx hs pl pu q
 rcases q with q | q
 ·exact h pins s σ H x v vl vu lo hi sl Q I rx hs pl pu q
 ·exact h' pins s σ H x v vl vu lo hi sl Q I rx hs pl pu q
def tSl (r : V -> Option Int -> Option Int -> Hp -> VK -> Prop) (te : TE) (tl th : TO) : TE := fun σ H Q => te σ H fun x H1 => tl σ H1 fun l H2 => th σ H2 fun u H3 => r x l u H3 Q
theorem YeK {r : V -> Option Int -> Option Int -> Hp -> VK -> Prop} (hr : SlR X r) (he : PE X e te) (hl : PO X lo tl) (hu : PO X hi th) : PE X (.Subscript e (.Slice lo hi none p2) pos) (tSl r te tl th) := by
 intro pins s σ H Q I h
 refine Subscript_ (thn (he pins s σ H _ I h) fun v s1 ⟨x, H1, I1, r1, q1⟩ => ?_)
 refine wpAny_Slice (thn (hl pins s1 σ H1 _ I1 q1) fun vl s2 ⟨l, H2, I2, pl, q2⟩ => thn (hu pins s2 σ H2 _ I2 q2) fun vu s3 ⟨u, H3, I3, pu, q3⟩ => ?_)
 rw [evalPart_none]
 refine wpAny_pure ?_
 have I4 : Inv X pins σ H3 { s3 with heap := s3.heap.push { cls := .type "slice", data := .fields #[vl, vu, .none] } } := I3.kept (t' := s3.toks) fun b ob q => Heap.get?_push_of_some _ q
 obtain ⟨T, id, hT, ht, hg⟩ := hr pins { s3 with heap := s3.heap.push { cls := .type "slice", data := .fields #[vl, vu, .none] } } σ H3 x v vl vu l u s3.heap.objs.size Q I4 r1 (Heap.IsSliceOf.new ..) pl pu q3
 show wpAny (model X.prog X.w) X.A (subscriptTail e (.Slice lo hi none p2) v (.ref s3.heap.objs.size)) (EP X pins σ Q) X.xe { s3 with heap := s3.heap.push { cls := .type "slice", data := .fields #[vl, vu, .none] } }
 exact tail_any (ops := [.ref s3.heap.objs.size, v]) ht hT hg (by with_unfolding_all rfl)
def cutV (xs : List V) (lo hi : Option Int) : List V := (xs.drop (HT.sIx xs.length 0 lo)).take (HT.sIx xs.length xs.length hi - HT.sIx xs.length 0 lo)
theorem VP (xs : List V) (lo hi : Option Int) : (cutV xs lo hi).length <= xs.length := by
 unfold cutV
 rw [List.length_take, List.length_drop]
 omega
def rSlT (K : PySem.W.Frag) : V -> Option Int -> Option Int -> Hp -> VK -> Prop := fun x lo hi H Q => ∃ a xs, x = .ref a /\ SqT K H a xs /\
 ¬ (HT.sIx xs.length 0 lo = 0 /\ HT.sIx xs.length xs.length hi = xs.length) /\ ∀ p, H p = none -> Q (.ref p) (upd H p (.tup (cutV xs lo hi)))
theorem Yii : SlR X (rSlT X.K) := by
 intro pins s σ H x v vl vu lo hi sl Q I rx hs pl pu h
 obtain ⟨a, xs, rfl, hx, hw, q⟩ := h
 cases rx
 obtain ⟨its, r, ht, hz⟩ := I.tuple hx
 have hlen : its.toArray.size = xs.length := by rw [List.size_toArray]; exact r.length.symm
 refine ⟨"tuple", _, PyProof.Rows.slot_tuple_getitem.lookup, ht.typeIs, ?_⟩
 refine HT.getItem_tuple_cut ht hs pl pu (by rw [hlen]; exact hw) ?_ (by rw [hlen]; exact hz)
 rw [hlen]
 refine ⟨.ref s.heap.objs.size, _, I.laid (t' := s.toks) (o := .tup (cutV xs lo hi)) (fun b ob q => Heap.get?_push_of_some _ q) (Nat.le_refl _) ?_, rfl, q _ (I.hok.fresh (Nat.le_refl _))⟩
 exact ⟨Nat.le_trans (VP xs lo hi) hz, _, (r.drop (HT.sIx xs.length 0 lo)).take (HT.sIx xs.length xs.length hi - HT.sIx xs.length 0 lo), IsTup.new _ _⟩
def rCatT (K : PySem.W.Frag) : R2 := fun x y H Q => ∃ a b xs ys, x = .ref a /\ y = .ref b /\ SqT K H a xs /\ SqT K H b ys /\ xs ≠ [] /\ xs.length + ys.length <= sizeLine /\
 (ys = [] -> Q (.ref a) H) /\ (ys ≠ [] -> ∀ p, H p = none -> Q (.ref p) (upd H p (.tup (xs ++ ys))))
theorem Vals.nil_iff {xs : List V} {us : List Value} (r : Vals xs us) : us = [] ↔ xs = [] := by
 cases r with
 | nil => simp
 | cons _ _ => simp
theorem Yhe : OpR X (binaryOp .Add) (rCatT X.K) := by
 intro pins s σ H x y v u Q I rx ry h
 obtain ⟨a, b, xs, ys, rfl, rfl, ha, hb, hx, hz, q1, q2⟩ := h
 cases rx
 cases ry
 obtain ⟨its, r1, p1, _⟩ := I.tuple ha
 obtain ⟨its2, r2, p2, _⟩ := I.tuple hb
 refine HT.cat_tup p1 p2 (fun z => hx (r1.nil_iff.mp z)) (fun z => ⟨.ref a, H, I, rfl, q1 (r2.nil_iff.mp z)⟩) (fun z => ?_) (by rw [<- r1.length, <- r2.length]; exact hz)
 refine ⟨.ref s.heap.objs.size, _, I.laid (t' := s.toks) (o := .tup (xs ++ ys)) (fun b ob q => Heap.get?_push_of_some _ q) (Nat.le_refl _) ?_, rfl, q2 (fun w => z (r2.nil_iff.mpr w)) _ (I.hok.fresh (Nat.le_refl _))⟩
 exact ⟨by rw [List.length_append]; exact hz, _, r1.append r2, IsTup.new _ _⟩
end
end L2
namespace L2
open PySem PySem.Spec PyProof.Rows
def ixN (n : Nat) (i : Int) : Option Nat := if 0 <= i then (if i < n then some i.toNat else none) else if -(n : Int) <= i then some (i + n).toNat else none
def atI {α : Type} (xs : List α) (i : Int) : Option α := (ixN xs.length i).bind fun j => xs[j]?
theorem Ydq {n : Nat} {i : Int} {j : Nat} (h : ixN n i = some j) : seqIndex? i n = some j /\ j < n /\ -(n : Int) <= i /\ i < n := by
 unfold ixN at h
 by_cases h0 : 0 <= i
 ·rw [if_pos h0] at h
  by_cases h1 : i < n
  ·rw [if_pos h1] at h
   have e : i.toNat = j := Option.some.inj h
   exact ⟨by rw [seqIndex_of h0 h1, e], by omega, by omega, h1⟩
  ·rw [if_neg h1] at h; cases h
 ·rw [if_neg h0] at h
  by_cases h1 : -(n : Int) <= i
  ·rw [if_pos h1] at h
   have e : (i + n).toNat = j := Option.some.inj h
   exact ⟨by rw [seqIndex_neg (by omega) h1, e], by omega, h1, by omega⟩
  ·rw [if_neg h1] at h; cases h
theorem YaZ {α : Type} {xs : List α} {i : Int} {v : α} (h : atI xs i = some v) : ∃ j, seqIndex? i xs.length = some j /\ xs[j]? = some v /\ j < xs.length /\ -(xs.length : Int) <= i /\ i < xs.length := by
 unfold atI at h
 cases e : ixN xs.length i with
 | none => rw [e] at h; cases h
 | some j =>
  rw [e] at h
  obtain ⟨h1, h2, h3, h4⟩ := Ydq e
  exact ⟨j, h1, h, h2, h3, h4⟩
def PlainIx (b : Expr) : Prop := ∀ o i, subscripted b false o i = operate [o, i] (getItem o i)
def IxR (X : Cx) (r : R2) : Prop :=
 ∀ (value slice : Expr) (pins : List (Addr × Obj)) (s : Shared) (σ : St) (H : Hp) (x y : V) (v u : Value) (Q : VK), Inv X pins σ H s -> RelV x v -> RelV y u -> r x y H Q ->
  subscripted slice false v u = operate [v, u] (getItem v u) -> wpAny (model X.prog X.w) X.A (subscriptTail value slice v u) (EP X pins σ Q) X.xe s
def MtR (X : Cx) (id : String) (r : V -> List V -> Hp -> VK -> Prop) : Prop :=
 ∀ (pins : List (Addr × Obj)) (s : Shared) (σ : St) (H : Hp) (x : V) (xs : List V) (v : Value) (us : List Value) (Q : VK), Inv X pins σ H s -> RelV x v -> Vals xs us -> r x xs H Q ->
  wpAny (model X.prog X.w) X.A (call (.builtin id) (v :: us)) (EP X pins σ Q) X.xe s
section
variable {X : Cx} {a b : Expr} {ta tb : TE} {pos : Pos}
theorem IxR.or {r r' : R2} (h : IxR X r) (h' : IxR X r') : IxR X (fun x y H Q => r x y H Q \/ r' x y H Q) := by
 intro value slice pins s σ H x y v u Q I rx ry q hs
 rcases q with q | q
 ·exact h value slice pins s σ H x y v u Q I rx ry q hs
 ·exact h' value slice pins s σ H x y v u Q I rx ry q hs
theorem Yjk {r : R2} (hr : IxR X r) (ha : PE X a ta) (hb : PE X b tb) (hs : PlainIx b) : PE X (.Subscript a b pos) (tOp r ta tb) := by
 intro pins s σ H Q I h
 exact Subscript_ (binT ha hb I h fun v u s2 x y H2 I2 rx ry q => hr a b pins s2 σ H2 x y v u Q I2 rx ry q (hs _ _))
def rIxL (K : PySem.W.Frag) : R2 := fun x y H Q => ∃ p xs i v, x = .ref p /\ y = .int i /\ SqL K H p xs /\ atI xs i = some v /\ Q v H
def rIxT (K : PySem.W.Frag) : R2 := fun x y H Q => ∃ p xs i v, x = .ref p /\ y = .int i /\ SqT K H p xs /\ atI xs i = some v /\ Q v H
def rIxS : R2 := fun x y H Q => ∃ z tz i c, x = .str z tz /\ y = .int i /\ z.length <= sizeLine /\ atI z.cps.toList i = some c /\ MkT ⟨#[c]⟩ Q H
theorem ix_list : IxR X (rIxL X.K) := by
 intro value slice pins s σ H x y v u Q I rx ry h hs
 obtain ⟨p, xs, i, z, rfl, rfl, hq, he, q⟩ := h
 cases rx
 obtain ⟨t, rfl⟩ := ry
 obtain ⟨its, r, pl, hz⟩ := I.list hq
 obtain ⟨j, h1, h2, h3, h4, h5⟩ := YaZ he
 obtain ⟨w, ew, rw'⟩ := r.get h2
 have hl := r.length
 have hn := line63
 have fin : EP X pins σ Q w s := ⟨z, H, I, rw', q⟩
 by_cases h0 : 0 <= i
 ·have hj : i.toNat = j := by
   rw [seqIndex_of h0 h5] at h1
   exact Option.some.inj h1
  exact item_listR pl.isList h0 (by omega) (by rw [hj]; simpa using ew) fin hs
 ·have hj : (i + (its.toArray.size : Int)).toNat = j := by
   rw [seqIndex_neg (by omega) h4] at h1
   rw [List.size_toArray, <- hl]
   exact Option.some.inj h1
  exact subscriptTail_builtinR (x := w) pl.isList.typeIs slot_list_getitem.lookup
   (wpAny_getItem_list_neg (Q := fun r s' => r = w /\ EP X pins σ Q r s') pl.isList (by omega) (by rw [List.size_toArray] <;> omega) (by omega) (by rw [hj]; simpa using ew) ⟨rfl, fin⟩) hs
theorem ix_tup : IxR X (rIxT X.K) := by
 intro value slice pins s σ H x y v u Q I rx ry h hs
 obtain ⟨p, xs, i, z, rfl, rfl, hq, he, q⟩ := h
 cases rx
 obtain ⟨t, rfl⟩ := ry
 obtain ⟨its, r, pl, hz⟩ := I.tuple hq
 obtain ⟨j, h1, h2, h3, h4, h5⟩ := YaZ he
 obtain ⟨w, ew, rw'⟩ := r.get h2
 have hl := r.length
 have hn := line63
 have fin : EP X pins σ Q w s := ⟨z, H, I, rw', q⟩
 exact subscriptTail_builtinR (x := w) pl.typeIs slot_tuple_getitem.lookup
  (getItem_tuple (j := j) (Q := fun r s' => r = w /\ EP X pins σ Q r s') pl (by omega) (by omega) (by rw [List.size_toArray, <- hl]; exact h1) (by simpa using ew) ⟨rfl, fin⟩) hs
theorem YiX : IxR X rIxS := by
 intro value slice pins s σ H x y v u Q I rx ry h hs
 obtain ⟨z, t, i, c, rfl, rfl, hz, he, q⟩ := h
 cases rx
 obtain ⟨t', rfl⟩ := ry
 obtain ⟨j, h1, h2, h3, h4, h5⟩ := YaZ he
 have hl : z.cps.toList.length = z.length := by simp [Str.length]
 rw [hl] at h1 h4 h5
 have hn := line63
 exact tail_any (typeIs_str s z t) slot_str_getitem.lookup (getItem_str (c := c) (by
  have e1 : decide (i < -(2 ^ 63 : Int)) = false := decide_eq_false (by omega)
  have e2 : decide (i >= 2 ^ 63) = false := decide_eq_false (by omega)
  rw [e1, e2, Bool.or_false]) (by rw [h1]; simpa using h2) ⟨.str ⟨#[c]⟩ _, _, I.txt, rfl, q _ I.fresh_tok.1 I.fresh_tok.2⟩) hs
def rIx (K : PySem.W.Frag) : R2 := fun x y H Q => rIxL K x y H Q \/ rIxT K x y H Q \/ rIxS x y H Q
theorem YhT : IxR X (rIx X.K) := ix_list.or (ix_tup.or YiX)
theorem YcL (its : List Value) (n j : Nat) (u : Value) : Obj.mapSeq (·.setIfInBounds j u) { cls := .type "list", data := .seq its.toArray n } = { cls := .type "list", data := .seq (its.set j u).toArray n } := by
 simp [Obj.mapSeq]
theorem Inv.lst {pins : List (Addr × Obj)} {σ : St} {H : Hp} {s : Shared} {p : Addr} {xs : List V} (I : Inv X pins σ H s) (h : H p = some (.lst xs)) :
 ∃ (its : List Value) (n : Nat), Vals xs its /\ s.heap.get? p = some { cls := .type "list", data := .seq its.toArray n } /\ xs.length <= sizeLine := by
 obtain ⟨z, its, n, r, e⟩ := I.hok p _ h
 exact ⟨its, n, r, e, z⟩
theorem Inv.lstUpd {pins : List (Addr × Obj)} {σ : St} {H : Hp} {s : Shared} {p : Addr} {xs ys : List V} {its its' : List Value} {n n' : Nat} {f : Obj -> Obj} (I : Inv X pins σ H s) (h : H p = some (.lst xs))
 (ho : s.heap.get? p = some { cls := .type "list", data := .seq its.toArray n }) (hf : f { cls := .type "list", data := .seq its.toArray n } = { cls := .type "list", data := .seq its'.toArray n' }) (r : Vals ys its') (hz : ys.length <= sizeLine) (t : Nat) (ht : s.toks <= t := by first | exact Nat.le_refl _ | exact Nat.le_succ _ | exact Nat.le_add_right _ _ | assumption | omega) :
 Inv X pins σ (upd H p (.lst ys)) { s with heap := s.heap.update p f, toks := t } := by
 have e : (s.heap.update p f).get? p = some { cls := .type "list", data := .seq its'.toArray n' } := by
  rw [Heap.get?_update_self f ho (by rw [hf] <;> rfl), hf]
 refine I.write (x := p) (e := p) (by rw [h]; trivial) (.inl rfl) (fun b u hb q => (Heap.get?_update_other _ _ (Ne.symm hb)).trans q) ⟨_, e⟩ ?_
 exact ⟨hz, its', n', r, e⟩
def rSetL : V -> V -> V -> Hp -> (Hp -> Prop) -> Prop := fun o i v H Q => ∃ p xs k j, o = .ref p /\ i = .int k /\ H p = some (.lst xs) /\ ixN xs.length k = some j /\ Q (upd H p (.lst (xs.set j v)))
theorem Yf4 : PSet X rSetL := by
 intro pins s σ H o i v ov iv u Q I ro ri rv h
 obtain ⟨p, xs, k, j, rfl, rfl, hp, hj, q⟩ := h
 cases ro
 obtain ⟨t, rfl⟩ := ri
 obtain ⟨its, n, r, ho, hz⟩ := I.lst hp
 obtain ⟨h1, h2, h3, h4⟩ := Ydq hj
 have hl := r.length
 have hn := line63
 have I' : Inv X pins σ (upd H p (.lst (xs.set j v))) { s with heap := s.heap.update p (Obj.mapSeq (·.setIfInBounds j u)) } :=
  I.lstUpd hp ho (YcL its n j u) (r.set rv j) (by rw [List.length_set]; exact hz) s.toks
 by_cases h0 : 0 <= k
 ·have hk : k.toNat = j := by
   rw [seqIndex_of h0 h4] at h1
   exact Option.some.inj h1
  exact PySem.W.ki_setAt ho h0 (by omega) (by rw [List.size_toArray, <- hl]; exact h4) (by rw [hk]; exact ⟨_, I', q⟩)
 ·have hk : (k + (its.toArray.size : Int)).toNat = j := by
   rw [seqIndex_neg (by omega) h3] at h1
   rw [List.size_toArray, <- hl]
   exact Option.some.inj h1
  exact PySem.W.ki_setBack ho (by omega) (by rw [List.size_toArray, <- hl]; exact h3) (by omega) (by rw [hk]; exact ⟨_, I', q⟩)
theorem Ya9 (lo hi : Option Int) (n : Nat) : (sliceBounds lo hi none n).1 = ((HT.sIx n 0 lo : Nat) : Int) /\ (sliceBounds lo hi none n).2.1 = ((HT.sIx n n hi : Nat) : Int) /\ (sliceBounds lo hi none n).2.2 = 1 := by
 refine ⟨?_, ?_, rfl⟩
 ·cases lo with
  | none => simp [sliceBounds, HT.sIx]
  | some i =>
   simp only [sliceBounds, HT.sIx, Option.getD_none, show (1 : Int) > 0 by decide, if_true]
   by_cases h : i < 0
   ·simp only [h, if_true] <;> omega
   ·simp only [h, if_false] <;> omega
 ·cases hi with
  | none => simp [sliceBounds, HT.sIx]
  | some i =>
   simp only [sliceBounds, HT.sIx, Option.getD_none, show (1 : Int) > 0 by decide, if_true]
   by_cases h : i < 0
   ·simp only [h, if_true] <;> omega
   ·simp only [h, if_false] <;> omega
theorem Yaa (its : List Value) (lo hi : Option Int) : slicePick its.toArray lo hi none = ((its.drop (HT.sIx its.length 0 lo)).take (HT.sIx its.length its.length hi - HT.sIx its.length 0 lo)).toArray := by
 obtain ⟨h1, h2, h3⟩ := Ya9 lo hi its.toArray.size
 unfold slicePick
 rw [h1, h2, h3]
 simp only [sliceRange_one, pick_run, List.size_toArray] <;> rfl
def rSlL (K : PySem.W.Frag) : V -> Option Int -> Option Int -> Hp -> VK -> Prop := fun x lo hi H Q => ∃ a xs, x = .ref a /\ SqL K H a xs /\ ∀ p, H p = none -> Q (.ref p) (upd H p (.lst (cutV xs lo hi)))
theorem Yha : SlR X (rSlL X.K) := by
 intro pins s σ H x v vl vu lo hi sl Q I rx hs pl pu h
 obtain ⟨a, xs, rfl, hx, q⟩ := h
 cases rx
 obtain ⟨its, r, ht, hz⟩ := I.list hx
 have hlen := r.length
 refine ⟨"list", _, slot_list_getitem.lookup, ht.isList.typeIs, ?_⟩
 refine wpAny_getItem_list_slice ht.isList hs pl pu .none (by simp) ?_ (by rw [List.size_toArray] <;> omega)
 rw [Yaa, <- hlen]
 refine ⟨.ref s.heap.objs.size, _, I.laid (t' := s.toks) (o := .lst (cutV xs lo hi)) (fun b ob q => Heap.get?_push_of_some _ q) (Nat.le_refl _) ?_, rfl, q _ (I.hok.fresh (Nat.le_refl _))⟩
 exact ⟨Nat.le_trans (VP xs lo hi) hz, _, 0, (r.drop (HT.sIx xs.length 0 lo)).take (HT.sIx xs.length xs.length hi - HT.sIx xs.length 0 lo), Heap.get?_push_size _ rfl⟩
def flatV : V -> Bool
 | .non => true
 | .bl _ => true
 | .int _ => true
 | .str _ _ => true
 | _ => false
def eqV : V -> V -> Bool
 | .non, .non => true
 | .bl a, .bl b => a == b
 | .bl a, .int b => (if a then 1 else 0) == b
 | .int a, .bl b => a == (if b then 1 else 0)
 | .int a, .int b => a == b
 | .str a _, .str b _ => a == b
 | _, _ => false
theorem YiQ {A : Around} {s : Shared} {y x : V} {u v : Value} (ry : RelV y u) (rx : RelV x v) (fy : flatV y = true) (fx : flatV x = true) : SeqAt.EqAt A s u v (eqV y x) := by
 cases y with
 | non =>
  cases ry
  cases x with
  | non => cases rx; exact SeqAt.EqAt.same _
  | bl b => cases rx; exact SeqAt.EqAt.none_bool b
  | int b => obtain ⟨t, rfl⟩ := rx; exact SeqAt.EqAt.none_int b t
  | str b t => cases rx; exact SeqAt.EqAt.none_str b t
  | _ => exact absurd (show false = true from fx) Bool.false_ne_true
 | bl a =>
  cases ry
  cases x with
  | non => cases rx; exact SeqAt.EqAt.bool_none a
  | bl b => cases rx; exact SeqAt.EqAt.bool_bool a b
  | int b => obtain ⟨t, rfl⟩ := rx; exact SeqAt.EqAt.bool_int a b t
  | str b t => cases rx; exact SeqAt.EqAt.bool_str a b t
  | _ => exact absurd (show false = true from fx) Bool.false_ne_true
 | int a =>
  obtain ⟨t', rfl⟩ := ry
  cases x with
  | non => cases rx; exact SeqAt.EqAt.int_none a t'
  | bl b => cases rx; exact SeqAt.EqAt.int_bool a t' b
  | int b => obtain ⟨t, rfl⟩ := rx; exact SeqAt.EqAt.int_int a t' b t
  | str b t => cases rx; exact SeqAt.EqAt.int_str a t' b t
  | _ => exact absurd (show false = true from fx) Bool.false_ne_true
 | str a t' =>
  cases ry
  cases x with
  | non => cases rx; exact SeqAt.EqAt.str_none a t'
  | bl b => cases rx; exact SeqAt.EqAt.str_bool a t' b
  | int b => obtain ⟨t, rfl⟩ := rx; exact SeqAt.EqAt.str_int a t' b t
  | str b t => cases rx; exact SeqAt.EqAt.str_str a t' b t
  | _ => exact absurd (show false = true from fx) Bool.false_ne_true
 | _ => exact absurd (show false = true from fy) Bool.false_ne_true
def eqU (x : V) (u : Value) : Bool := match u with
 | .none => eqV .non x
 | .bool b => eqV (.bl b) x
 | .int i _ => eqV (.int i) x
 | .str z t => eqV (.str z t) x
 | _ => false
theorem YfX {x y : V} {u : Value} (r : RelV y u) (f : flatV y = true) : eqU x u = eqV y x := by
 cases y with
 | non => cases r; rfl
 | bl b => cases r; rfl
 | int i => obtain ⟨t, rfl⟩ := r; rfl
 | str z t => cases r; rfl
 | _ => exact absurd (show false = true from f) Bool.false_ne_true
theorem Vg {x : V} : ∀ {xs : List V} {us : List Value}, Vals xs us -> xs.all flatV = true -> us.any (eqU x) = xs.any fun y => eqV y x
 | _, _, .nil, _ => rfl
 | y :: xs, u :: us, .cons r t, f => by
  rw [List.all_cons, Bool.and_eq_true] at f
  rw [List.any_cons, List.any_cons, YfX r f.1, Vg t f.2]
theorem Z5 {A : Around} {s : Shared} {x : V} {v : Value} (rx : RelV x v) (fx : flatV x = true) : ∀ {xs : List V} {us : List Value}, Vals xs us -> xs.all flatV = true -> ∀ u ∈ us, SeqAt.EqAt A s u v (eqU x u)
 | _, _, .nil, _ => fun u hu => by cases hu
 | y :: xs, u :: us, .cons r t, f => fun u' hu => by
  rw [List.all_cons, Bool.and_eq_true] at f
  rcases List.mem_cons.mp hu with rfl | hu
  ·rw [YfX r f.1]; exact YiQ r rx f.1 fx
  ·exact Z5 rx fx t f.2 u' hu
def inV (x : V) (xs : List V) : Bool := xs.any fun y => eqV y x
def rIn (K : PySem.W.Frag) (neg : Bool) : R2 := fun x y H Q => ∃ p xs, y = .ref p /\ (SqL K H p xs \/ SqT K H p xs) /\ flatV x = true /\ xs.all flatV = true /\ Q (.bl (if neg then !inV x xs else inV x xs)) H
theorem Ydz : OpR X (compareOp .In) (rIn X.K false) := by
 intro pins s σ H x y v u Q I rx ry h
 obtain ⟨p, xs, rfl, hq, fx, fs, q⟩ := h
 cases ry
 rcases hq with hq | hq
 ·obtain ⟨its, r, pl, hz⟩ := I.list hq
  refine SeqAt.in_listAt (eqU x) pl.isList (fun w hw => Z5 rx fx r fs w (by simpa using hw)) ⟨.bl _, H, I, rfl, ?_⟩
  rw [show its.toArray.any (eqU x) = its.any (eqU x) by simp, Vg r fs]
  exact q
 ·obtain ⟨its, r, pl, hz⟩ := I.tuple hq
  refine SeqAt.in_tupleAt (eqU x) pl (fun w hw => Z5 rx fx r fs w (by simpa using hw)) ⟨.bl _, H, I, rfl, ?_⟩
  rw [show its.toArray.any (eqU x) = its.any (eqU x) by simp, Vg r fs]
  exact q
theorem YaV : OpR X (compareOp .NotIn) (rIn X.K true) := by
 intro pins s σ H x y v u Q I rx ry h
 obtain ⟨p, xs, rfl, hq, fx, fs, q⟩ := h
 cases ry
 rcases hq with hq | hq
 ·obtain ⟨its, r, pl, hz⟩ := I.list hq
  refine SeqAt.notIn_listAt (eqU x) pl.isList (fun w hw => Z5 rx fx r fs w (by simpa using hw)) ⟨.bl _, H, I, rfl, ?_⟩
  rw [show its.toArray.any (eqU x) = its.any (eqU x) by simp, Vg r fs]
  exact q
 ·obtain ⟨its, r, pl, hz⟩ := I.tuple hq
  refine SeqAt.notIn_tupleAt (eqU x) pl (fun w hw => Z5 rx fx r fs w (by simpa using hw)) ⟨.bl _, H, I, rfl, ?_⟩
  rw [show its.toArray.any (eqU x) = its.any (eqU x) by simp, Vg r fs]
  exact q
theorem ZW : CallR X (.builtin "len") (fun xs H Q => ∃ p ys, xs = [.ref p] /\ (SqL X.K H p ys \/ SqT X.K H p ys) /\ Q (.int ys.length) H) := by
 intro pins s σ H xs us Q I r h
 obtain ⟨p, ys, rfl, hq, q⟩ := h
 obtain ⟨u, rfl, rx⟩ := vals1 r
 cases rx
 have hn := line63
 rcases hq with hq | hq
 ·obtain ⟨its, r', pl, hz⟩ := I.list hq
  have hlen := r'.length
  exact Calls.call_len_list pl.isList (by simp only [List.size_toArray] <;> omega) ⟨.int ys.length, H, I.tok _, ⟨s.toks + 1, by rw [List.size_toArray, hlen]⟩, q⟩
 ·obtain ⟨its, r', pl, hz⟩ := I.tuple hq
  have hlen := r'.length
  exact len_tuple pl (by simp only [List.size_toArray] <;> omega) ⟨.int ys.length, H, I.tok _, ⟨s.toks + 1, by rw [List.size_toArray, hlen]⟩, q⟩
theorem Ya8 : CallR X (.builtin "len") (fun xs H Q => ∃ z t, xs = [.str z t] /\ z.length <= sizeLine /\ Q (.int z.length) H) := by
 intro pins s σ H xs us Q I r h
 obtain ⟨z, t, rfl, hz, q⟩ := h
 obtain ⟨u, rfl, rx⟩ := vals1 r
 cases rx
 have hn := line63
 exact len_str (by omega) ⟨.int z.length, H, I.tok _, ⟨_, rfl⟩, q⟩
theorem WD : CallR X (.type "tuple") (fun xs H Q => ∃ p ys, xs = [.ref p] /\ ((SqL X.K H p ys /\ ∀ l, H l = none -> Q (.ref l) (upd H l (.tup ys))) \/ (SqT X.K H p ys /\ Q (.ref p) H))) := by
 intro pins s σ H xs us Q I r h
 obtain ⟨p, ys, rfl, h⟩ := h
 obtain ⟨u, rfl, rx⟩ := vals1 r
 cases rx
 rcases h with ⟨hq, q⟩ | ⟨hq, q⟩
 ·obtain ⟨its, r', pl, hz⟩ := I.list hq
  have hlen := r'.length
  refine call_tuple_list pl.isList (fun h' kp => ?_) (by simp only [List.size_toArray] <;> omega)
  have I1 : Inv X pins σ H { s with heap := h' } := I.kept (t' := s.toks) kp
  have I2 : Inv X pins σ (upd H h'.objs.size (.tup ys)) { s with heap := h'.push { cls := .type "tuple", data := .seq its.toArray } } :=
   I1.laid (t' := s.toks) (fun b o e => Heap.get?_push_of_some _ e) (Nat.le_refl _) (show ObjOk X.prog X.w _ _ _ (.tup ys) from ⟨hz, its, r', IsTup.new _ _⟩)
  exact ⟨.ref h'.objs.size, _, I2, rfl, q _ (I1.hok.fresh (Nat.le_refl _))⟩
 ·obtain ⟨its, r', pl, hz⟩ := I.tuple hq
  exact call_tuple_same pl ⟨.ref p, H, I, rfl, q⟩
def tyV (K : PySem.W.Frag) (T : String) (x : V) (H : Hp) : Prop := match x with
 | .str _ _ => T = "str"
 | .int _ => T = "int"
 | .ref p => (T = "list" /\ ∃ xs, SqL K H p xs) \/ (T = "tuple" /\ ∃ o, K.lookup p = some o /\ o.cls = .type "tuple" /\ o.dict = none) \/
  (T = "dict" /\ ((∃ kvs, H p = some (.dK kvs)) \/ ∃ kvs, H p = some (.dT kvs))) \/ (T = "set" /\ ∃ S n, H p = some (.set S n))
 | _ => False
theorem YiZ {pins : List (Addr × Obj)} {σ : St} {H : Hp} {s : Shared} {T : String} {x : V} {v : Value} (I : Inv X pins σ H s) (r : RelV x v) (ty : tyV X.K T x H) :
 s.TypeIs v T /\ ∀ a, v = .ref a -> ∃ ob, s.heap.get? a = some ob /\ ob.dict = none := by
 cases x with
 | str z t =>
  cases r
  cases (show T = "str" from ty)
  exact ⟨typeIs_str s z t, fun _ e => nomatch e⟩
 | int i =>
  obtain ⟨t, rfl⟩ := r
  cases (show T = "int" from ty)
  exact ⟨typeIs_int s i t, fun _ e => nomatch e⟩
 | ref p =>
  cases r
  rcases ty with ⟨rfl, xs, hq⟩ | ⟨rfl, o, hk, hc, hd⟩ | ⟨rfl, hk⟩ | ⟨rfl, S, n, hk⟩
  ·obtain ⟨its, _, pl, _⟩ := I.list hq
   refine ⟨pl.isList.typeIs, fun a e => ?_⟩
   cases e
   obtain ⟨o, n, e, c, hd, _⟩ := pl
   exact ⟨o, e, hd⟩
  ·refine ⟨⟨o, I.kIn p o hk, hc⟩, fun a e => ?_⟩
   cases e
   exact ⟨o, I.kIn _ o hk, hd⟩
  ·have z : ∃ o, s.heap.get? p = some o /\ o.ExactDict := by
    rcases hk with ⟨kvs, hk⟩ | ⟨kvs, hk⟩
    ·obtain ⟨_, _, _, _, o, _, _, e, ex, _⟩ := I.hok p _ hk
     exact ⟨o, e, ex⟩
    ·obtain ⟨_, _, _, _, o, _, _, e, ex, _⟩ := I.hok p _ hk
     exact ⟨o, e, ex⟩
   obtain ⟨o, e, ex⟩ := z
   refine ⟨⟨o, e, ex.1⟩, fun a e2 => ?_⟩
   cases e2
   exact ⟨o, e, ex.2.1⟩
  ·obtain ⟨o, _, _, _, e, ex, _⟩ := I.hok p _ hk
   refine ⟨⟨o, e, ex.1⟩, fun a e2 => ?_⟩
   cases e2
   exact ⟨o, e, ex.2.1⟩
 | _ => exact False.elim ty
def tBM (K : PySem.W.Frag) (T : String) (r : V -> List V -> Hp -> VK -> Prop) (to : TE) (t : TA) : TE := fun σ H Q => to σ H fun x H1 => tyV K T x H1 /\ t σ H1 fun xs H2 => r x xs H2 Q
variable {o e : Expr} {es : List Expr} {to : TE} {t : TA} {name : Str} {apos cpos : Pos} {T id : String} {r : V -> List V -> Hp -> VK -> Prop}
theorem YhE (pa : PlainAttrs T) (slot : Slot T name id) (hty : typeOf (.builtin id) = pure (.type "method_descriptor")) (hm : MtR X id r) (ho : PE X o to) (ha : PA X (e :: es) t)
 (hbase : attributeBase o name X.env (eval o X.env) = eval o X.env := by rfl)
 (hfew : ((backTo cpos (starEach (e :: es) X.env)).all (fun x => !x.1) && (backToKw cpos (keywordEach [] X.env)).all (fun x => x.1.isSome)
  && decide ((e :: es).length + ([] : List Keyword).length + (if ([] : List Keyword).isEmpty then 0 else 1) < 30)) = true := by rfl)
 (hline : (apos.endLine == cpos.line) = true := by rfl) (hs : starEach (e :: es) X.env = (false, eval e X.env) :: starEach es X.env := by rfl) (hplain : (backTo cpos (starEach es X.env)).any (·.1) = false := by rfl) :
 PE X (.Call (.Attribute o name apos) (e :: es) [] cpos) (tBM X.K T r to t) := by
 intro pins s σ H Q I h
 refine wpAny_Call_method_late hbase hfew hline rfl (thn (ho pins s σ H _ I h) fun v s1 ⟨x, H1, I1, r1, ty, q1⟩ => ?_)
 obtain ⟨h1, h2⟩ := YiZ I1 r1 ty
 refine ⟨T, id, pa, slot, hty, h1, h2, ?_⟩
 have hA := ha cpos pins s1 σ H1 _ I1 q1
 rw [hs] at hA ⊢
 refine Calls.callWith_builtin (by show (false || (backTo cpos (starEach es X.env)).any (·.1)) = false; rw [hplain] <;> rfl) (Calls.evalArgs_plain ?_)
 exact thn hA fun us s2 ⟨vs, H2, I2, r2, q2⟩ => hm pins s2 σ H2 x vs v us Q I2 r1 r2 q2
/- xs.append(e), list.index on a module's tuple .. are MtR facts of 06m -/
end
end L2
namespace L2
open PySem PySem.Spec PyProof.Rows
def MtM (X : Cx) (id : String) (r : V -> List V -> Hp -> VK -> Prop) : Prop :=
 ∀ (pins : List (Addr × Obj)) (s : Shared) (σ : St) (H : Hp) (x : V) (xs : List V) (v : Value) (us : List Value) (Q : VK), Inv X pins σ H s -> RelV x v -> Vals xs us -> r x xs H Q ->
  wpAny (model X.prog X.w) X.A (call (.builtin id) (v :: us)) (EP X pins σ Q) X.xe s
theorem Vals.one : ∀ {x : V} {us : List Value}, Vals [x] us -> ∃ u, us = [u] /\ RelV x u
 | _, _, .cons r .nil => ⟨_, rfl, r⟩
theorem Vals.two : ∀ {x y : V} {us : List Value}, Vals [x, y] us -> ∃ u v, us = [u, v] /\ RelV x u /\ RelV y v
 | _, _, _, .cons r (.cons q .nil) => ⟨_, _, rfl, r, q⟩
theorem Vals.zero : ∀ {us : List Value}, Vals [] us -> us = []
 | _, .nil => rfl
theorem Vals.eraseIdx : ∀ {xs : List V} {us : List Value} (i : Nat), Vals xs us -> Vals (xs.eraseIdx i) (us.eraseIdx i)
 | _, _, _, .nil => .nil
 | _, _, 0, .cons _ t => t
 | _, _, i + 1, .cons r t => .cons r (Vals.eraseIdx i t)
theorem Vals.reverse {xs : List V} {us : List Value} (h : Vals xs us) : Vals xs.reverse us.reverse := by
 induction h with
 | nil => exact .nil
 | cons r t ih => rw [List.reverse_cons, List.reverse_cons]; exact Vals.append ih (.cons r .nil)
section
variable {X : Cx} {pins : List (Addr × Obj)} {σ : St} {H : Hp} {s : Shared} {l b : Addr} {xs ys zs : List V}
theorem Inv.lset {its its' : List Value} {n : Nat} {f : Array Value -> Array Value} {t' : Nat} (I : Inv X pins σ H s) (hH : H l = some (.lst xs))
 (e : s.heap.get? l = some { cls := .type "list", data := .seq its.toArray n }) (hf : f its.toArray = its'.toArray) (hv : Vals ys its') (hz : ys.length <= sizeLine) (ht : s.toks <= t' := by first | exact Nat.le_refl _ | exact Nat.le_succ _ | exact Nat.le_add_right _ _ | assumption | omega) :
 Inv X pins σ (upd H l (.lst ys)) { s with heap := s.heap.update l (Obj.mapSeq f), toks := t' } := by
 have q := PySem.IsL.update e f
 rw [hf] at q
 refine I.write (x := l) (e := l) (by rw [hH]; exact trivial) (.inl rfl) (fun b' u hb hu => (Heap.get?_update_other s.heap (Obj.mapSeq f) (Ne.symm hb)).trans hu) ⟨_, q⟩ ?_
 exact ⟨hz, its', _, hv, q⟩
theorem Inv.lnew {its : List Value} {t' : Nat} (I : Inv X pins σ H s) (hv : Vals ys its) (hz : ys.length <= sizeLine) (ht : s.toks <= t' := by first | exact Nat.le_refl _ | exact Nat.le_succ _ | exact Nat.le_add_right _ _ | assumption | omega) :
 Inv X pins σ (upd H s.heap.objs.size (.lst ys)) { s with heap := s.heap.push { cls := .type "list", data := .seq its.toArray }, toks := t' } :=
 I.laid (fun _ _ q => Heap.get?_push_of_some _ q) (Nat.le_refl _) ⟨hz, its, 0, hv, Heap.get?_push_size _ rfl⟩
theorem Inv.fresh (I : Inv X pins σ H s) : H s.heap.objs.size = none := I.hok.fresh (Nat.le_refl _)
theorem Inv.lstM (I : Inv X pins σ H s) (hH : H l = some (.lst xs)) : xs.length <= sizeLine /\ ∃ (its : List Value) (n : Nat), Vals xs its /\ xs.length = its.length /\ s.heap.get? l = some { cls := .type "list", data := .seq its.toArray n } := by
 obtain ⟨z, its, n, r, e⟩ := I.hok l _ hH
 exact ⟨z, its, n, r, r.length, e⟩
theorem notLongL {n : Nat} (h : n <= sizeLine) : Builtin.List.listTooLong n = false := by
 unfold Builtin.List.listTooLong
 exact decide_eq_false (by omega)
end
section
variable {X : Cx}
def rAppend : V -> List V -> Hp -> VK -> Prop := fun x vs H Q => ∃ l xs y, x = .ref l /\ vs = [y] /\ H l = some (.lst xs) /\ xs.length < sizeLine /\ Q .non (upd H l (.lst (xs ++ [y])))
theorem Yey : MtM X "list.append" rAppend := by
 intro pins s σ H x vs v us Q I rx rv h
 obtain ⟨l, xs, y, rfl, rfl, hH, hz, q⟩ := h
 cases rx
 obtain ⟨u, rfl, ru⟩ := rv.one
 obtain ⟨z, its, n, r, hl, e⟩ := I.lstM hH
 refine call_meets F.slot_list_append ⟨_, e, rfl⟩ F.entry_list_append (F.args_list_append_2 _ _) (PySem.list_append l its.toArray n u (by rw [List.size_toArray]; omega)) ⟨e, ?_⟩
 refine ⟨.non, _, I.lset (its' := its ++ [u]) hH e (by simp) (r.append (.cons ru .nil)) ?_, rfl, q⟩
 rw [List.length_append, List.length_singleton]
 omega
def rExtend : V -> List V -> Hp -> VK -> Prop := fun x vs H Q => ∃ l b xs zs, x = .ref l /\ vs = [.ref b] /\ H l = some (.lst xs) /\ H b = some (.lst zs) /\ xs.length + zs.length <= sizeLine /\ Q .non (upd H l (.lst (xs ++ zs)))
theorem Yjf : MtM X "list.extend" rExtend := by
 intro pins s σ H x vs v us Q I rx rv h
 obtain ⟨l, b, xs, zs, rfl, rfl, hH, hB, hz, q⟩ := h
 cases rx
 obtain ⟨u, rfl, ru⟩ := rv.one
 cases ru
 obtain ⟨z, its, n, r, hl, e⟩ := I.lstM hH
 obtain ⟨z2, its2, n2, r2, hl2, e2⟩ := I.lstM hB
 have hsz : its.toArray.size + its2.toArray.size <= sizeLine := by rw [List.size_toArray, List.size_toArray]; omega
 have hlong : ¬ (!its.toArray.isEmpty && Builtin.List.listTooLong (its.toArray.size + its2.toArray.size)) = true := by
  rw [notLongL hsz, Bool.and_false]
  exact Bool.false_ne_true
 refine call_meets F.slot_list_extend ⟨_, e, rfl⟩ F.entry_list_extend (F.args_list_extend_2 _ _)
  (AutoSeq1.list_extend_list_list_0 l its.toArray n b its2.toArray n2 hlong (by rw [List.size_toArray]; omega) (by omega)) ⟨e, e2, ?_⟩
 refine ⟨.non, _, I.lset (its' := its ++ its2) hH e (by simp) (r.append r2) ?_, rfl, q⟩
 rw [List.length_append]
 omega
def rCat : R2 := fun x y H Q => ∃ l b xs zs, x = .ref l /\ y = .ref b /\ H l = some (.lst xs) /\ H b = some (.lst zs) /\ xs.length + zs.length <= sizeLine /\ ∀ p, H p = none -> Q (.ref p) (upd H p (.lst (xs ++ zs)))
theorem Yi9 : OpR X (binaryOp .Add) rCat := by
 intro pins s σ H x y v u Q I rx ry h
 obtain ⟨l, b, xs, zs, rfl, rfl, hH, hB, hz, q⟩ := h
 cases rx
 cases ry
 obtain ⟨z, its, n, r, hl, e⟩ := I.lstM hH
 obtain ⟨z2, its2, n2, r2, hl2, e2⟩ := I.lstM hB
 refine PySem.P.add_list e e2 ?_ (by rw [List.size_toArray, List.size_toArray]; omega)
 have ea : its.toArray ++ its2.toArray = (its ++ its2).toArray := by simp
 rw [ea]
 exact ⟨.ref _, _, I.lnew (t' := s.toks) (r.append r2) (by rw [List.length_append]; omega), rfl, q _ I.fresh⟩
end
section
variable {prog : Program} {w : World} {A : Around} {E : Value -> Shared -> Prop} {s : Shared}
end
section
variable {X : Cx}
end
end L2
namespace L2
open PySem PySem.Spec PyProof.Rows
section
variable {κ : Type} [DecidableEq κ]
def valV (kvs : List (κ × V)) (k : κ) : Option V := (kvs.find? fun kv => decide (kv.1 = k)).map (·.2)
def putK (kvs : List (κ × V)) (k : κ) (v : V) : List (κ × V) :=
 if (kvs.any fun kv => decide (kv.1 = k)) = true then kvs.map (fun kv => if kv.1 = k then (kv.1, v) else kv) else kvs ++ [(k, v)]
def dropK (kvs : List (κ × V)) (k : κ) : List (κ × V) := kvs.filter fun kv => decide (kv.1 ≠ k)
theorem Vb {p : κ × V} {r : List (κ × V)} {k : κ} (e : p.1 = k) : valV (p :: r) k = some p.2 := by simp [valV, List.find?_cons, e]
theorem W3 {p : κ × V} {r : List (κ × V)} {k : κ} (e : ¬ p.1 = k) : valV (p :: r) k = valV r k := by simp [valV, List.find?_cons, e]
theorem YbC (k : κ) : ∀ kvs : List (κ × V), (kvs.any fun kv => decide (kv.1 = k)) = (valV kvs k).isSome
 | [] => rfl
 | p :: r => by
  rw [List.any_cons]
  by_cases e : p.1 = k
  ·simp only [Vb e, decide_eq_true e, Bool.true_or, Option.isSome_some]
  ·rw [W3 e, decide_eq_false e, Bool.false_or]; exact YbC k r
theorem VS (kvs : List (κ × V)) (k : κ) (v : V) : (putK kvs k v).length <= kvs.length + 1 := by
 unfold putK
 split
 ·rw [List.length_map]; omega
 ·rw [List.length_append, List.length_cons, List.length_nil]; omega
theorem RelO.isSome_eq {o : Option V} {u : Option Value} (r : RelO o u) : o.isSome = u.isSome := by
 cases o with
 | none => cases u with
  | none => rfl
  | some _ => exact (show False from r).elim
 | some _ => cases u with
  | none => exact (show False from r).elim
  | some _ => rfl
theorem RelO.getD {o : Option V} {u : Option Value} {d : V} {d' : Value} (r : RelO o u) (rd : RelV d d') : RelV (o.getD d) (u.getD d') := by
 cases o with
 | none => cases u with
  | none => exact rd
  | some _ => exact (show False from r).elim
 | some _ => cases u with
  | none => exact (show False from r).elim
  | some _ => exact r
theorem KV.val {kvs : List (κ × V)} {vs : List (κ × Value)} (r : KV kvs vs) (k : κ) : RelO (valV kvs k) (valueAt vs k) := by
 unfold KV at r
 induction r with
 | nil => exact True.intro
 | @cons p q ps qs h t ih =>
  obtain ⟨h1, h2⟩ := h
  by_cases e : p.1 = k
  ·have e' : q.1 = k := h1.symm.trans e
   have b : valueAt (q :: qs) k = some q.2 := by simp [valueAt, List.find?_cons, e']
   rw [Vb e, b]; exact h2
  ·have e' : ¬ q.1 = k := fun z => e (h1.trans z)
   have b : valueAt (q :: qs) k = valueAt qs k := by simp [valueAt, List.find?_cons, e']
   rw [W3 e, b]; exact ih
theorem KV.any {kvs : List (κ × V)} {vs : List (κ × Value)} (r : KV kvs vs) (k : κ) : (kvs.any fun kv => decide (kv.1 = k)) = vs.any fun kv => decide (kv.1 = k) := by
 unfold KV at r
 induction r with
 | nil => rfl
 | cons h t ih => rw [List.any_cons, List.any_cons, ih, h.1]
theorem KV.repl {kvs : List (κ × V)} {vs : List (κ × Value)} (r : KV kvs vs) (k : κ) {y : V} {u : Value} (ry : RelV y u) :
 KV (kvs.map fun kv => if kv.1 = k then (kv.1, y) else kv) (vs.map fun kv => if kv.1 = k then (kv.1, u) else kv) := by
 unfold KV at r ⊢
 induction r with
 | nil => exact .nil
 | @cons p q ps qs h t ih =>
  rw [List.map_cons, List.map_cons]
  refine .cons ?_ ih
  obtain ⟨h1, h2⟩ := h
  by_cases e : p.1 = k
  ·rw [if_pos e, if_pos (h1.symm.trans e)]; exact ⟨h1, ry⟩
  ·rw [if_neg e, if_neg (fun z => e (h1.trans z))]; exact ⟨h1, h2⟩
theorem KV.put {kvs : List (κ × V)} {vs : List (κ × Value)} (r : KV kvs vs) (k : κ) {y : V} {u : Value} (ry : RelV y u) : KV (putK kvs k y) (stored vs k u) := by
 unfold putK stored
 rw [r.any k]
 by_cases e : (vs.any fun kv => decide (kv.1 = k)) = true
 ·rw [if_pos e, if_pos e]; exact r.repl k ry
 ·rw [if_neg e, if_neg e]; exact Paired.snoc r ⟨rfl, ry⟩
theorem KV.drop {kvs : List (κ × V)} {vs : List (κ × Value)} (r : KV kvs vs) (k : κ) : KV (dropK kvs k) (without vs k) := by
 unfold KV at r ⊢
 unfold dropK without
 induction r with
 | nil => exact .nil
 | @cons p q ps qs h t ih =>
  obtain ⟨h1, h2⟩ := h
  rw [List.filter_cons, List.filter_cons]
  by_cases e : p.1 = k
  ·have a : ¬ decide (p.1 ≠ k) = true := by simp [e]
   have b : ¬ decide (q.1 ≠ k) = true := by simp [h1.symm.trans e]
   rw [if_neg a, if_neg b]; exact ih
  ·have e' : ¬ q.1 = k := fun z => e (h1.trans z)
   have a : decide (p.1 ≠ k) = true := by simp [e]
   have b : decide (q.1 ≠ k) = true := by simp [e']
   rw [if_pos a, if_pos b]; exact .cons ⟨h1, h2⟩ ih
theorem KV.keys {kvs : List (κ × V)} {vs : List (κ × Value)} (r : KV kvs vs) : kvs.map (·.1) = vs.map (·.1) := by
 unfold KV at r
 induction r with
 | nil => rfl
 | cons h t ih => rw [List.map_cons, List.map_cons, ih, h.1]
theorem KV.length {kvs : List (κ × V)} {vs : List (κ × Value)} (r : KV kvs vs) : kvs.length = vs.length := Paired.length r
end
theorem Yju {P : Program} {w : World} {k : Key} {u : Value} (r : RelV (kV k) u) : (mixKind P w).is k u = true := by
 cases k with
 | inl i => obtain ⟨t, e⟩ := (show ∃ t, u = Value.int i t from r); subst e; exact VM P w i t
 | inr x => cases (show u = Value.str x 0 from r); exact VR P w x 0
theorem W0 {P : Program} {w : World} {k : Key} {y : V} {u : Value} (hk : KeyV k y) (r : RelV y u) : (mixKind P w).is k u = true := by
 cases k with
 | inl i => cases (show y = .int i from hk); obtain ⟨t, e⟩ := (show ∃ t, u = Value.int i t from r); subst e; exact VM P w i t
 | inr x => obtain ⟨t, rfl⟩ := (show ∃ t, y = .str x t from hk); cases r; exact VR P w x t
theorem Yas {P : Program} {w : World} : ∀ {ks : List Key} {us : List Value}, Vals (ks.map kV) us -> ItemsAre (mixKind P w) ks us
 | [], _, r => by rw [List.map_nil] at r; cases r; exact .nil
 | k :: ks, _, r => by
  rw [List.map_cons] at r
  cases r with
  | cons h t => exact .cons (Yju h) (Yas t)
abbrev KT (H : Hp) : List (List Key × V) -> List (List Key × Addr × Value) -> Prop := Paired fun p q => p.1 = q.1 /\ H q.2.1 = some (.tup (p.1.map kV)) /\ RelV p.2 q.2.2
theorem KT.val {H : Hp} {kvs : List (List Key × V)} {xs : List (List Key × Addr × Value)} (r : KT H kvs xs) (k : List Key) : RelO (valV kvs k) ((atKey xs k).map (·.2)) := by
 induction r with
 | nil => exact True.intro
 | @cons p q ps qs h t ih =>
  obtain ⟨h1, _, h2⟩ := h
  by_cases e : p.1 = k
  ·have e' : q.1 = k := h1.symm.trans e
   have b : atKey (q :: qs) k = some q.2 := by simp [atKey, List.find?_cons, e']
   rw [Vb e, b]; exact h2
  ·have e' : ¬ q.1 = k := fun z => e (h1.trans z)
   have b : atKey (q :: qs) k = atKey qs k := by simp [atKey, List.find?_cons, e']
   rw [W3 e, b]; exact ih
theorem KT.repl {H : Hp} {kvs : List (List Key × V)} {xs : List (List Key × Addr × Value)} (r : KT H kvs xs) (k : List Key) {y : V} {u : Value} (ry : RelV y u) :
 KT H (kvs.map fun kv => if kv.1 = k then (kv.1, y) else kv) (xs.map (putAt k u)) := by
 induction r with
 | nil => exact .nil
 | @cons p q ps qs h t ih =>
  rw [List.map_cons, List.map_cons]
  refine .cons ?_ ih
  obtain ⟨h1, h2, h3⟩ := h
  unfold putAt
  by_cases e : p.1 = k
  ·rw [if_pos e, if_pos (h1.symm.trans e)]; exact ⟨h1, h2, ry⟩
  ·rw [if_neg e, if_neg (fun z => e (h1.trans z))]; exact ⟨h1, h2, h3⟩
theorem KT.put {H : Hp} {kvs : List (List Key × V)} {xs : List (List Key × Addr × Value)} (r : KT H kvs xs) (k : List Key) {b : Addr} {y : V} {u : Value} (hb : H b = some (.tup (k.map kV))) (ry : RelV y u) :
 KT H (putK kvs k y) (storedH xs k b u) := by
 have e : (kvs.any fun kv => decide (kv.1 = k)) = (atKey xs k).isSome := by
  rw [YbC, (r.val k).isSome_eq, Option.isSome_map]
 unfold putK storedH
 rw [e]
 by_cases q : (atKey xs k).isSome = true
 ·rw [if_pos q, if_pos q]; exact r.repl k ry
 ·rw [if_neg q, if_neg q]; exact Paired.snoc r ⟨rfl, hb, ry⟩
theorem KT.keeps {H H' : Hp} {kvs : List (List Key × V)} {xs : List (List Key × Addr × Value)} (r : KT H kvs xs) (ht : ∀ b ys, H b = some (.tup ys) -> H' b = some (.tup ys)) : KT H' kvs xs :=
 Paired.mapP r fun _ _ z => ⟨z.1, ht _ _ z.2.1, z.2.2⟩
section
variable {P : Program} {w : World} {H : Hp} {h : Heap} {a : Addr}
theorem YhH {u : HO} (ok : HOk P w H h) (e : Rd H a u) : ObjOk P w H h a u := e.ok ok
theorem VO {kvs : List (Key × V)} (ok : HOk P w H h) (e : Rd H a (.dK kvs)) : kvs.length <= sizeLine /\ (a == sysModules) = false /\ ∃ vs, KV kvs vs /\ h.DictOf (mixKind P w) a vs :=
 show ObjOk P w H h a (.dK kvs) from YhH ok e
theorem YjD {kvs : List (Key × V)} (ok : HOk P w H h) (e : H a = some (.dK kvs)) : kvs.length <= sizeLine /\ (a == sysModules) = false /\ ∃ vs, KV kvs vs /\ h.DictOf (mixKind P w) a vs := VO ok (.inl e)
theorem Vx {ks : List Key} (ok : HOk P w H h) (e : H a = some (.tup (ks.map kV))) : (tupleKind (mixKind P w)).is h ks a := by
 obtain ⟨_, its, r, o, h1, h2, n, h3⟩ := (show ObjOk P w H h a (.tup (ks.map kV)) from ok a _ e)
 exact ⟨o, its.toArray, n, h1, h2, h3, by simpa using Yas r⟩
theorem Jm {kvs : List (List Key × V)} (ok : HOk P w H h) (e : Rd H a (.dT kvs)) : kvs.length <= sizeLine /\ (a == sysModules) = false /\
 ∃ xs, KT H kvs xs /\ h.DictOfH (tupleKind (mixKind P w)) a xs := by
 obtain ⟨z, y, xs, r, o, es, ep, h1, h2, h3, h4, h5⟩ := (show ObjOk P w H h a (.dT kvs) from YhH ok e)
 refine ⟨z, y, xs, r, o, es, ep, h1, h2, h3, h4, fun x hx => ?_, h5⟩
 have all : ∀ {l : List (List Key × V)} {m : List (List Key × Addr × Value)}, KT H l m -> ∀ x ∈ m, (tupleKind (mixKind P w)).is h x.1 x.2.1 := by
  intro l m q
  induction q with
  | nil => intro x hx; exact nomatch hx
  | @cons p q ps qs hq t ih =>
   intro x hx
   rcases List.mem_cons.mp hx with e | hx
   ·subst e
    exact Vx ok (by rw [<- hq.1]; exact hq.2.1)
   ·exact ih x hx
 exact all r x hx
theorem YjH {kvs : List (List Key × V)} (ok : HOk P w H h) (e : H a = some (.dT kvs)) : kvs.length <= sizeLine /\ (a == sysModules) = false /\
 ∃ xs, KT H kvs xs /\ h.DictOfH (tupleKind (mixKind P w)) a xs := Jm ok (.inl e)
end
def DGet (H : Hp) (a : Addr) (y : V) (r : Option V) : Prop :=
 (∃ kvs k, Rd H a (.dK kvs) /\ KeyV k y /\ r = valV kvs k) \/ ∃ kvs k b, Rd H a (.dT kvs) /\ y = .ref b /\ H b = some (.tup (k.map kV)) /\ r = valV kvs k
def DPut (H : Hp) (a : Addr) (y v : V) (H' : Hp) : Prop :=
 (∃ kvs k, H a = some (.dK kvs) /\ KeyV k y /\ kvs.length < sizeLine /\ H' = upd H a (.dK (putK kvs k v))) \/
 ∃ kvs k b, H a = some (.dT kvs) /\ y = .ref b /\ H b = some (.tup (k.map kV)) /\ kvs.length < sizeLine /\ H' = upd H a (.dT (putK kvs k v))
theorem DGet.k {H : Hp} {a : Addr} {kvs : List (Key × V)} {k : Key} {y : V} (e : H a = some (.dK kvs)) (hk : KeyV k y) : DGet H a y (valV kvs k) := .inl ⟨kvs, k, .inl e, hk, rfl⟩
theorem DPut.k {H : Hp} {a : Addr} {kvs : List (Key × V)} {k : Key} {v : V} (e : H a = some (.dK kvs)) {y : V} (hk : KeyV k y) (hl : kvs.length < sizeLine) : DPut H a y v (upd H a (.dK (putK kvs k v))) := .inl ⟨kvs, k, e, hk, hl, rfl⟩
section
variable {X : Cx} {pins : List (Addr × Obj)} {σ : St} {H : Hp} {s : Shared} {a : Addr} {y v : V} {u r : Value} {o : Option V} {A : Around} {E : Value -> Shared -> Prop}
theorem Inv.big (I : Inv X pins σ H s) : sysModules < s.heap.objs.size := by
 have h : mainGlobals < s.heap.objs.size := (I.mod.glob.keeps I.bk).lt
 exact Nat.lt_trans (by decide) h
theorem Yew {Q : Value -> Shared -> Prop} (hu : A.units + 1 < cLine) (I : Inv X pins σ H s) (g : DGet H a y (some v)) (ry : RelV y u) (h : ∀ w' s', Inv X pins σ H s' -> RelV v w' -> Q w' s') :
 wpAny (model X.prog X.w) A (getItem (.ref a) u) Q E s := by
 rcases g with ⟨kvs, k, e, ey, l⟩ | ⟨kvs, k, b, e, ey, eb, l⟩
 ·obtain ⟨z, hd, vs, rel, dd⟩ := VO I.hok e
  obtain ⟨w', hw, rw'⟩ := RelO.some_of (v := v) (o := valueAt vs k) (by rw [l]; exact rel.val k)
  exact wpAny_getItem_of (W0 ey ry) dd.mapOf hw (h w' _ (I.tok _) rw')
 ·subst ey
  cases (show u = Value.ref b from ry)
  obtain ⟨z, hd, xs, rel, dd⟩ := Jm I.hok e
  obtain ⟨w', hw, rw'⟩ := RelO.some_of (v := v) (o := (atKey xs k).map (·.2)) (by rw [l]; exact rel.val k)
  obtain ⟨p, hp, hp2⟩ := Option.map_eq_some_iff.mp hw
  refine wpAny_getItem_heap (tupleKind_room_in1 hu) (Vx I.hok eb) dd hp ?_
  rw [hp2]
  exact h w' _ (I.tok _) rw'
theorem d_in {Q : Value -> Shared -> Prop} (hu : A.units + 1 < cLine) (I : Inv X pins σ H s) (g : DGet H a y o) (ry : RelV y u) (h : ∀ s', Inv X pins σ H s' -> Q (.bool o.isSome) s') :
 wpAny (model X.prog X.w) A (compareOp .In u (.ref a)) Q E s := by
 rcases g with ⟨kvs, k, e, ey, l⟩ | ⟨kvs, k, b, e, ey, eb, l⟩
 ·obtain ⟨z, hd, vs, rel, dd⟩ := VO I.hok e
  refine wpAny_in_of (W0 ey ry) hd dd.mapOf ?_
  rw [<- (rel.val k).isSome_eq, <- l]
  exact h _ (I.tok _)
 ·subst ey
  cases (show u = Value.ref b from ry)
  obtain ⟨z, hd, xs, rel, dd⟩ := Jm I.hok e
  refine wpAny_in_heap (tupleKind_room_in1 hu) (Vx I.hok eb) hd dd ?_
  have q := (rel.val k).isSome_eq
  rw [Option.isSome_map] at q
  rw [<- q, <- l]
  exact h _ (I.tok _)
theorem Yg4 {Q : Value -> Shared -> Prop} (hu : A.units + 1 < cLine) (I : Inv X pins σ H s) (g : DGet H a y o) (ry : RelV y u) (h : ∀ s', Inv X pins σ H s' -> Q (.bool (!o.isSome)) s') :
 wpAny (model X.prog X.w) A (compareOp .NotIn u (.ref a)) Q E s := by
 rcases g with ⟨kvs, k, e, ey, l⟩ | ⟨kvs, k, b, e, ey, eb, l⟩
 ·obtain ⟨z, hd, vs, rel, dd⟩ := VO I.hok e
  refine wpAny_notIn_of (W0 ey ry) hd dd.mapOf ?_
  rw [<- (rel.val k).isSome_eq, <- l]
  exact h _ (I.tok _)
 ·subst ey
  cases (show u = Value.ref b from ry)
  obtain ⟨z, hd, xs, rel, dd⟩ := Jm I.hok e
  refine wpAny_notIn_heap (tupleKind_room_in1 hu) (Vx I.hok eb) hd dd ?_
  have q := (rel.val k).isSome_eq
  rw [Option.isSome_map] at q
  rw [<- q, <- l]
  exact h _ (I.tok _)
theorem Yds {h' : Heap} {t' : Nat} {ob : HO} (I : Inv X pins σ H s) (mu : Mut (H a)) (hs : Heap.SameBut a s.heap h') (he : ∃ q, h'.get? a = some q) (new : ObjOk X.prog X.w (upd H a ob) h' a ob) (ht : s.toks <= t' := by first | exact Nat.le_refl _ | exact Nat.le_succ _ | exact Nat.le_add_right _ _ | assumption | omega) :
 Inv X pins σ (upd H a ob) { s with heap := h', toks := t' } :=
 I.write (x := a) (e := a) mu (.inl rfl) (fun b q hb z => (hs.2 b hb).trans z) he new
theorem Yfj {P : Program} {w : World} {H' : Hp} {h' : Heap} {kvs : List (Key × V)} {vs : List (Key × Value)} (z : kvs.length <= sizeLine) (hd : (a == sysModules) = false) (rel : KV kvs vs) (dd : h'.DictOf (mixKind P w) a vs) :
 ObjOk P w H' h' a (.dK kvs) := ⟨z, hd, vs, rel, dd⟩
theorem Yee {H' : Hp} {Q : Unit -> Shared -> Prop} (hu : A.units + 1 < cLine) (I : Inv X pins σ H s) (g : DPut H a y v H') (ry : RelV y u) (rv : RelV v r) (h : ∀ s', Inv X pins σ H' s' -> Q () s') :
 wpAny (model X.prog X.w) A (setItem (.ref a) u r) Q E s := by
 rcases g with ⟨kvs, k, e, ey, l, eH⟩ | ⟨kvs, k, b, e, ey, eb, l, eH⟩
 ·subst eH
  obtain ⟨z, hd, vs, rel, dd⟩ := YjD I.hok e
  have hz : vs.length <= sizeLine := by rw [<- rel.length]; exact z
  have hl : (putK kvs k v).length <= sizeLine := by have := VS kvs k v; omega
  refine wpAny_setItem_pairs (hsz := hz) (W0 ey ry) dd fun h' dd' hs => h _ ?_
  have he : ∃ q, h'.get? a = some q := let ⟨q, _, _, hq, _⟩ := dd'; ⟨q, hq⟩
  exact Yds I (by rw [e]; exact True.intro) hs he (Yfj hl hd (rel.put k rv) dd')
 ·subst ey eH
  cases (show u = Value.ref b from ry)
  obtain ⟨z, hd, xs, rel, dd⟩ := YjH I.hok e
  have hz : xs.length <= sizeLine := by rw [<- Paired.length rel]; exact z
  have hl : (putK kvs k v).length <= sizeLine := by have := VS kvs k v; omega
  refine wpAny_setItem_heap (hsz := hz) (tupleKind_room_in1 hu) (Vx I.hok eb) dd fun h' dd' hs => h _ ?_
  obtain ⟨q, es, ep, hq, h2, h3, h4, _, h5⟩ := dd'
  refine Yds I (by rw [e]; exact True.intro) hs ⟨q, hq⟩ ⟨hl, hd, _, (rel.put k eb rv).keeps fun c ys ec => ?_, q, es, ep, hq, h2, h3, h4, h5⟩
  rw [Ye (Yjz ec e (fun z => nomatch z))]
  exact ec
end
section
variable {X : Cx} {pins : List (Addr × Obj)} {σ : St} {H : Hp} {s : Shared} {a : Addr} {kvs : List (Key × V)} {k : Key} {u : Value} {A : Around} {E : Value -> Shared -> Prop}
theorem YjA {Q : Value -> Shared -> Prop} (I : Inv X pins σ H s) (e : Rd H a (.dK kvs)) (h : ∀ t s', Inv X pins σ H s' -> Q (.int kvs.length t) s') : wpAny (model X.prog X.w) A (call (.builtin "len") [.ref a]) Q E s := by
 obtain ⟨z, hd, vs, rel, dd⟩ := VO I.hok e
 refine call_len_dict hd dd (by rw [<- rel.length]; rw [sizeLine_eq] at z; omega) ?_
 rw [<- rel.length]
 exact h _ _ (I.tok _)
end
theorem YbZ {X : Cx} {pins : List (Addr × Obj)} {σ : St} {H : Hp} {s : Shared} {a : Addr} {y : V} {o : Option V} (I : Inv X pins σ H s) (g : DGet H a y o) : s.TypeIs (.ref a) "dict" := by
 rcases g with ⟨kvs, k, e, _, _⟩ | ⟨kvs, k, b, e, _, _, _⟩
 ·obtain ⟨_, _, vs, _, dd⟩ := VO I.hok e
  exact dd.typeIs
 ·obtain ⟨_, _, xs, _, dd⟩ := Jm I.hok e
  exact dd.typeIs
section
variable {X : Cx} {o i e value : Expr} {pos pos' tpos : Pos} {td ty tv : TE}
end
theorem YfA {P : Program} {w : World} {H : Hp} (h : Heap) (hb : sysModules < h.objs.size) : ObjOk P w H (h.push { cls := .type "dict", data := .dict #[] }) h.objs.size (.dK []) :=
 ⟨Nat.zero_le _, beq_eq_false_iff_ne.mpr (Ne.symm (Nat.ne_of_lt hb)), [], .nil, Heap.DictOf.new h⟩
def tDNewK : TE := fun _ H Q => ∀ p, H p = none -> Q (.ref p) (upd H p (.dK []))
section
variable {X : Cx} {pos : Pos}
theorem Yfs : PE X (.Dict [] [] pos) tDNewK := fun pins s σ H Q I h =>
 wpAny_Dict_empty ⟨.ref s.heap.objs.size, _, I.laid (a := s.heap.objs.size) (o := .dK []) (t' := s.toks) (fun _ _ q => Heap.get?_push_of_some _ q) (Nat.le_refl _) (YfA s.heap I.big), rfl, h _ (I.hok.fresh (Nat.le_refl _))⟩
end
structure M1 (X : Cx) (o : Expr) (m : Str) (apos : Pos) (e : Expr) (cpos : Pos) : Prop where
 base : attributeBase o m X.env (eval o X.env) = eval o X.env
 few : ((backTo cpos (starEach [e] X.env)).all (fun x => !x.1) && (backToKw cpos (keywordEach [] X.env)).all (fun x => x.1.isSome)
  && decide (([e] : List Expr).length + ([] : List Keyword).length + (if ([] : List Keyword).isEmpty then 0 else 1) < 30)) = true
 line : (apos.endLine == cpos.line) = true
 trees : backTo cpos (starEach [e] X.env) = [(false, eval e X.env)]
structure M2 (X : Cx) (o : Expr) (m : Str) (apos : Pos) (e f : Expr) (cpos : Pos) : Prop where
 base : attributeBase o m X.env (eval o X.env) = eval o X.env
 few : ((backTo cpos (starEach [e, f] X.env)).all (fun x => !x.1) && (backToKw cpos (keywordEach [] X.env)).all (fun x => x.1.isSome)
  && decide (([e, f] : List Expr).length + ([] : List Keyword).length + (if ([] : List Keyword).isEmpty then 0 else 1) < 30)) = true
 line : (apos.endLine == cpos.line) = true
 trees : backTo cpos (starEach [e, f] X.env) = [(false, eval e X.env), (false, eval f X.env)]
def IsD (H : Hp) (a : Addr) : Prop := (∃ kvs, Rd H a (.dK kvs)) \/ ∃ kvs, Rd H a (.dT kvs)
theorem YhW {X : Cx} {pins : List (Addr × Obj)} {σ : St} {H : Hp} {s : Shared} {a : Addr} (I : Inv X pins σ H s) (d : IsD H a) :
 s.TypeIs (.ref a) "dict" /\ (∀ b, Value.ref a = .ref b -> ∃ ob, s.heap.get? b = some ob /\ ob.dict = none) /\ (a == sysModules) = false := by
 rcases d with ⟨kvs, e⟩ | ⟨kvs, e⟩
 ·obtain ⟨_, hd, vs, _, dd⟩ := VO I.hok e
  refine ⟨dd.typeIs, fun b q => ?_, hd⟩
  cases q
  obtain ⟨ob, _, _, h1, h2, _⟩ := dd
  exact ⟨ob, h1, h2.2.1⟩
 ·obtain ⟨_, hd, xs, _, dd⟩ := Jm I.hok e
  refine ⟨dd.typeIs, fun b q => ?_, hd⟩
  cases q
  obtain ⟨ob, _, _, h1, h2, _⟩ := dd
  exact ⟨ob, h1, h2.2.1⟩
section
variable {X : Cx} {pins : List (Addr × Obj)} {σ : St} {H : Hp} {s : Shared} {a : Addr} {y d : V} {u r : Value} {o : Option V} {A : Around} {E : Value -> Shared -> Prop}
theorem Yie {Q : Value -> Shared -> Prop} (hu : A.units + 1 < cLine) (I : Inv X pins σ H s) (g : DGet H a y o) (ry : RelV y u) (rd : RelV d r) (h : ∀ w' s', Inv X pins σ H s' -> RelV (o.getD d) w' -> Q w' s') :
 wpAny (model X.prog X.w) A (call (.builtin "dict.get") [.ref a, u, r]) Q E s := by
 rcases g with ⟨kvs, k, e, ey, l⟩ | ⟨kvs, k, b, e, ey, eb, l⟩
 ·obtain ⟨z, hd, vs, rel, dd⟩ := VO I.hok e
  refine call_meetsIn PySem.F.slot_dict_get dd.typeIs PySem.F.entry_dict_get (PySem.F.args_dict_get_3 _ _ _) (meets_dict_get_default (mixKind X.prog X.w) a (W0 ey ry) hd r) ⟨_, dd.mapOf, h _ _ (I.tok _) ?_⟩
  rw [l]
  exact (rel.val k).getD rd
 ·subst ey
  cases (show u = Value.ref b from ry)
  obtain ⟨z, hd, xs, rel, dd⟩ := Jm I.hok e
  refine call_meetsIn PySem.F.slot_dict_get dd.typeIs PySem.F.entry_dict_get (PySem.F.args_dict_get_3 _ _ _) (meetsH_dict_get_default (tupleKind (mixKind X.prog X.w)) a b hd r) ⟨tupleKind_room_in1 hu, k, xs, Vx I.hok eb, dd, h _ _ (I.tok _) ?_⟩
  rw [l]
  exact (rel.val k).getD rd
end
def tDGet2 (td ty tx : TE) : TE := fun σ H Q => td σ H fun x H1 => ∃ a, x = .ref a /\ IsD H1 a /\ ty σ H1 fun y H2 => tx σ H2 fun z H3 => ∃ o, DGet H3 a y o /\ Q (o.getD z) H3
section
variable {X : Cx} {o e f : Expr} {apos cpos : Pos} {td ty tx : TE}
theorem YfO (hu : X.A.units + 1 < cLine) (ho : PE X o td) (he : PE X e ty) (hf : PE X f tx) (m : M2 X o "get" apos e f cpos) : PE X (.Call (.Attribute o "get" apos) [e, f] [] cpos) (tDGet2 td ty tx) := by
 intro pins s σ H Q I h
 refine wpAny_Call_method m.base m.few m.line PySem.F.plainAttrs_dict PySem.F.slot_dict_get PySem.F.type_dict_get (thn (ho pins s σ H _ I h) fun u s1 ⟨x, H1, I1, rx, a, ex, d, q1⟩ => ?_)
 subst ex
 obtain rfl : u = Value.ref a := rx
 obtain ⟨t1, t2, _⟩ := YhW I1 d
 refine ⟨t1, t2, ?_⟩
 rw [m.trees]
 refine Calls.callWith_builtin rfl (Calls.evalArgs_plain (Calls.spliced_cons (thn (he pins s1 σ H1 _ I1 q1) fun iv s2 ⟨y, H2, I2, ry, q2⟩ =>
  Calls.spliced_cons (thn (hf pins s2 σ H2 _ I2 q2) fun fv s3 ⟨z, H3, I3, rz, ov, g, q3⟩ => Calls.spliced_nil ?_))))
 exact Yie hu I3 g ry rz fun w' s4 I4 rw' => ⟨_, H3, I4, rw', q3⟩
end
section
variable {X : Cx} {pins : List (Addr × Obj)} {σ : St} {H : Hp} {s : Shared} {a : Addr} {kvs : List (Key × V)} {A : Around} {E : Value -> Shared -> Prop}
end
section
variable {X : Cx} {pins : List (Addr × Obj)} {σ : St} {H : Hp} {s : Shared} {a : Addr} {y : V} {u : Value} {A : Around} {E : Value -> Shared -> Prop}
end
end L2
namespace Att
open PySem PySem.W PySem.Calls PyProof.Rows
theorem VT {P : Params} {h : Heap} : ∀ (ns : List Int) (vs : List Value), WellAll P h vs (ns.map WData.int) -> IntsAre vs ns := by
 intro ns
 induction ns with
 | nil =>
  intro vs w
  rw [List.map_nil] at w
  cases w
  exact .nil
 | cons n ns ih =>
  intro vs w
  rw [List.map_cons] at w
  cases w with
  | cons a b =>
   cases a
   exact .cons _ _ (ih _ b)
theorem YdA {l : OpenLaw} {n : Nat} (hn : l.most = some n) {P : Params} {h : Heap} {args : List WData} {vals : List Value}
 (hpre : l.row.toRowW.claim.pre args = true) (hwl : WellAll P h vals args) :
 ∃ a vs ns, vals = [Value.ref a] /\ args = [WData.list (ns.map WData.int)] /\ h.get? a = some { cls := .type "list", data := .seq vs.toArray } /\ IntsAre vs ns /\ ns.length <= n := by
 have hsh : WShape.hasAll [] args [.list .int] = true := (pre_splitW hpre).1
 have hc : l.pre.holds [] { args := args } = true := (pre_splitW hpre).2
 obtain ⟨d, r, rfl, h1, h2⟩ := hasAllW_cons hsh
 obtain rfl := hasAllW_nil h2
 obtain ⟨xs, rfl, h3⟩ := hasW_list h1
 obtain ⟨ns, rfl⟩ := items_int h3
 have hlen : ns.length <= n := by
  unfold OpenLaw.pre at hc
  have h4 : (WTm.not (.lt (.lit (.int (n : Int))) (.len (.arg 0)))).holds [] { args := [.list (ns.map .int)] } = true := by
   have h4 := (holds_andW hc).1
   rw [hn] at h4
   exact h4
  have h5 := condW_of h4 (w_not (w_lt w_lit (w_len_list (w_arg rfl))))
  rw [List.length_map] at h5
  refine Nat.le_of_not_lt fun q => ?_
  have q' : (n : Int) < ((ns.length : Nat) : Int) := by omega
  first
   | (rw [decide_eq_true q'] at h5; exact absurd h5 (by decide))
   | (simp at h5; omega)
 cases hwl with
 | cons w1 w2 =>
  cases w2
  cases w1 with
  | list ho hall => exact ⟨_, _, ns, rfl, rfl, ho, VT ns _ hall, hlen⟩
theorem Yeu (l : OpenLaw) (args : List WData) : l.row.toRowW.claim.post args (.bool true) args = true :=
 postW_of (r := l.row.toRowW) (X := (true == true))
  (show WShape.has [] (.bool true) .bool = true by first | rfl | decide | simp [WShape.has, WShape.arms, WShape.armsAll])
  (show (WTm.eq .res (.lit (.bool true))).value [] { args := args, res := some (.bool true), after := args } = some (.bool (true == true)) from w_eq_bool (w_res rfl) w_lit) rfl
theorem attach_call {l : OpenLaw} {n : Nat} {q : Program} {loose : List Str} {XP : (Str -> Option Value) -> Heap -> Prop} {YP : World -> Heap -> Prop} {d : DefRec}
 (hn : l.most = some n) (hdf : d.params.defaults = [])
 (call : ∀ (w : World) (s₀ s₁ : Shared) (mg mb : Str -> Option Value) (fa : Addr) (o : Obj) (pm cd doc : Value) (a : Addr) (vs : List Value) (ns : List Int),
  Ground q loose [] XP w s₀ mg mb s₁.heap -> YP w s₁.heap ->
  s₁.heap.get? fa = some o -> o.data = .func (docDef d.name d.params d.body d.scope pm cd doc) -> s₁.heap.CodeRec cd d.name -> mg d.name = some (.ref fa) ->
  s₁.heap.get? a = some { cls := .type "list", data := .seq vs.toArray } -> IntsAre vs ns -> ns.length <= n -> s₁.gens = #[] ->
  codeAny (model l.prog w) callerA (.call (.ref fa) ⟨[.ref a], []⟩) (fun r s' => r = .ok (.ret (.bool true)) /\ OldK s₁.heap s'.heap /\ s'.os = s₁.os /\ AllBare s'.gens) s₁) :
 WalkO q loose XP YP l.row.toRowW d [] (fun f vs => PySem.call f vs) := by
 intro w s₀ s₁ mg mb G Y fa o pm cd doc dV kV ho hd hcd hD hmg hg args vals as hpre hlay hrd hwl hlo
 obtain rfl : dV = .none := Dflts.none hD hdf
 obtain rfl : kV = .none := Dflts.noKw hD
 obtain ⟨a, vs, ns, rfl, rfl, hobj, hints, hlen⟩ := YdA hn hpre hwl
 refine enter_call (codeAny_mono (call w s₀ s₁ mg mb fa o pm cd doc a vs ns G Y ho (fd_plain hd) hcd hmg hobj hints hlen hg) fun r s' hq => ?_)
 obtain ⟨rfl, h2, h3, h4⟩ := hq
 exact ⟨.inl ⟨.bool true, .bool true, [], rfl, fun _ => rfl, .bool true, Yeu l _, fun _ => ⟨List.Pairwise.nil, fun _ hm => (nomatch hm)⟩⟩, h2, h3, h4⟩
section
variable {prog : Program} {w : World} {A : Around} {E : Value -> Shared -> Prop} {s : Shared} {K : Frag}
def ledger (h : Heap) (L d : Addr) : List (Addr × Obj) := (List.range h.objs.size).filterMap fun a => if a = L \/ a = d then none else (h.get? a).map fun o => (a, o)
end
end Att
namespace L2
open PySem PySem.Spec PyProof.Rows
theorem YaF : ∀ {vs : List Value} {ns : List Int}, IntsAre vs ns -> Vals (ns.map V.int) vs
 | _, _, .nil => .nil
 | _, _, .cons n t h => .cons ⟨t, rfl⟩ (YaF h)
def Only (H : Hp) : Prop := ∀ b, H b = none \/ ∃ o xs, H b = some (.frz o (.lst xs))
theorem Yfu {P : Program} {w : World} {K : PySem.W.Frag} {mg mb : Str -> Option Value} {CX : CXT} {k : Nat} {fa a : Addr} {fd : FuncData} {x : Str} {sp : Sp} {s₁ : Shared} {vs : List Value} {ns : List Int}
 (KX : K.In s₁.heap) (hns : s₁.heap.Ns mainGlobals mg) (hb : s₁.heap.Ns builtinsNs mb) (hbb : ∀ x : Str, x ≠ "__name__" -> mb x = bootBuiltins x) (hlim : s₁.heap.NoLimit) (hg : s₁.gens = #[]) (hloc : fd.scope.names.lookup x = some .local)
 (ha : s₁.heap.get? a = some { cls := .type "list", data := .seq vs.toArray }) (hi : IntsAre vs ns) (hl : ns.length <= sizeLine) (hr : Room k callerA)
 (F : ∀ base : Heap, K.In base -> base.Ns mainGlobals mg -> FnOk P w K mg base CX k fa fd [x] sp) (hbind : ∀ (s : Shared) (u : Value), BindsTo s fd ⟨[u], []⟩ [(x, u)])
 (hsp : ∀ H : Hp, Only H -> SqL K H a (ns.map V.int) -> sp [.ref a] H (fun v _ => v = .bl true) fun _ _ _ => False)
 (hCX : ∀ H e s', CX [] H s₁ (fun _ _ _ => False) e s' -> False) :
 codeAny (model P w) callerA (.call (.ref fa) ⟨[.ref a], []⟩) (fun r s' => r = .ok (.ret (.bool true)) /\ OldK s₁.heap s'.heap /\ s'.os = s₁.os /\ AllBare s'.gens) s₁ := by
 have rv := YaF hi
 have lenV := hi.length
 have core : ∀ H : Hp, Only H -> SqL K H a (ns.map V.int) -> HOk P w H s₁.heap -> (∀ b, H b ≠ none -> b = a) -> (H a ≠ none -> K.lookup a = none) -> (∀ t, H.τ t = none) ->
  codeAny (model P w) callerA (.call (.ref fa) ⟨[.ref a], []⟩) (fun r s' => r = .ok (.ret (.bool true)) /\ OldK s₁.heap s'.heap /\ s'.os = s₁.os /\ AllBare s'.gens) s₁ := by
  intro H hO hS hok hA hK hτ
  have base_of : ∀ {b : Addr} {o : Obj}, s₁.heap.get? b = some o -> H b = none -> (hidT s₁.heap H).get? b = some o := fun e n => YfJ e n
  have noA : ∀ {b : Addr} {o : Obj} {es : Array DictEntry} {ep : Nat}, s₁.heap.get? b = some o -> o.data = .dict es ep -> H b = none := fun {b o es ep} e d => by
   cases q : H b with
   | none => rfl
   | some u =>
    have e' : b = a := hA b (by rw [q]; simp)
    subst e'
    rw [ha] at e; cases e
    have d' : Data.seq vs.toArray _ = Data.dict es ep := d
    cases d'
  have nsK : ∀ {b : Addr} {m : Str -> Option Value}, s₁.heap.Ns b m -> (hidT s₁.heap H).Ns b m := fun {b m} ⟨o, es, ep, e, d, r⟩ => ⟨o, es, ep, base_of e (noA e d), d, r⟩
  have hKb : K.In (hidT s₁.heap H) := fun b o e => base_of (KX b o e) (by
   cases q : H b with
   | none => rfl
   | some u =>
    have e' : b = a := hA b (by rw [q]; simp)
    subst e'
    rw [hK (by rw [q]; simp)] at e; cases e)
  have hM : Mod K mg (hidT s₁.heap H) := ⟨hKb, nsK hns, ⟨mb, nsK hb, hbb⟩, let ⟨mc, h1, h2⟩ := hlim; ⟨mc, nsK h1, h2⟩⟩
  have e0 : Env0 P w K mg (hidT s₁.heap H) callerA [] s₁ H := ⟨rfl, hM, fun b o e => Yhd e, Nat.le_of_eq (Yez _ _), trivial, fun b hb => absurd (show b ∈ ([] : List Addr) from hb) (by simp), hok, .of_eq hg, fun t _ => hτ t⟩
  refine codeAny_mono ((F _ hKb (nsK hns)).run callerA [] s₁ H ⟨[.ref a], []⟩ [.ref a] [.ref a] _ _ hr e0 (.inr ⟨x, [], rfl, hloc⟩) (hbind s₁ (.ref a)) (.cons rfl .nil) (hsp H hO hS)) fun r s' h => ?_
  cases r with
  | error e => exact (hCX H e s' h).elim
  | ok fl =>
   cases fl with
   | next => exact False.elim h
   | brk => exact False.elim h
   | cont => exact False.elim h
   | ret u =>
    obtain ⟨v, H', os, bare, un, hok', _, r', q⟩ := h
    have q' : v = .bl true := q
    subst q'
    obtain rfl : u = Value.bool true := r'
    refine ⟨rfl, OldK.of_keep fun b o e => ?_, os, bare⟩
    cases q : H b with
    | none => exact un.keep b o e q (by intro z; exact absurd (show b ∈ ([] : List Addr) from z) (by simp)) (by simp)
    | some u =>
     rcases hO b with z | ⟨ob, xs, z⟩
     ·rw [q] at z; cases z
     ·have z2 := un.frzs b ob _ z
      obtain ⟨e1, _⟩ := hok b _ z
      obtain ⟨e2, _⟩ := hok' b _ z2
      rw [e] at e1; cases e1
      exact e2
 cases hk : K.lookup a with
 | some o =>
  have e := KX a o hk
  rw [ha] at e
  cases e
  refine core ⟨fun _ => none, fun _ => none⟩ (fun _ => .inl rfl) (.inr ⟨_, vs.toArray, _, hk, rfl, rfl, rfl, by rw [List.size_toArray, lenV]; exact hl, by simpa using rv⟩) (fun b u z => by have z' : (none : Option HO) = some u := z; cases z') (fun b z => absurd rfl z) (fun z => absurd rfl z) fun _ => rfl
 | none =>
  refine core ⟨fun b => if b = a then some (.frz { cls := .type "list", data := .seq vs.toArray } (.lst (ns.map V.int))) else none, fun _ => none⟩ (fun b => ?_) (.inl (.inr ⟨{ cls := .type "list", data := .seq vs.toArray }, if_pos rfl⟩)) (fun b u z => ?_) (fun b z => ?_) (fun _ => hk) fun _ => rfl
  ·by_cases hb : b = a
   ·exact .inr ⟨_, _, if_pos hb⟩
   ·exact .inl (if_neg hb)
  ·by_cases hb : b = a
   ·have z' := (if_pos hb).symm.trans z
    cases z'
    subst hb
    exact ⟨ha, by rw [List.length_map]; exact hl, vs, _, rv, ha⟩
   ·have z' := (if_neg hb).symm.trans z
    cases z'
  ·by_cases hb : b = a
   ·exact hb
   ·exact absurd (if_neg hb) z
end L2
namespace L2
open PySem PySem.Spec PyProof.Rows
theorem walk_of {l : PySem.W.OpenLaw} {n k : Nat} {q : Program} {loose : List Str} {XP : (Str -> Option Value) -> Heap -> Prop} {YP : World -> Heap -> Prop} {d : DefRec} {K : Params -> PySem.W.Frag} {CX : World -> CXT} {sp : World -> Sp} {x : Str}
 (hn : l.most = some n) (hn2 : n <= sizeLine) (hdf : d.params.defaults = []) (hr : Room k callerA)
 (hY : ∀ (w : World) (h : Heap), YP w h -> (K w.params).In h)
 (F : ∀ (w : World) (mg : Str -> Option Value) (fa : Addr) (h : Heap), (K w.params).In h -> h.Ns mainGlobals mg -> mg d.name = some (.ref fa) ->
  ∃ fd : FuncData, fd.scope.names.lookup x = some .local /\ (∀ (s : Shared) (u : Value), BindsTo s fd ⟨[u], []⟩ [(x, u)]) /\
   ∀ base : Heap, (K w.params).In base -> base.Ns mainGlobals mg -> FnOk l.prog w (K w.params) mg base (CX w) k fa fd [x] (sp w))
 (hsp : ∀ (w : World) (H : Hp) (a : Addr) (ns : List Int), ns.length <= n -> Only H -> SqL (K w.params) H a (ns.map V.int) -> sp w [.ref a] H (fun v _ => v = .bl true) fun _ _ _ => False)
 (hCX : ∀ (w : World) (H : Hp) (s : Shared) (e : Value) (s' : Shared), CX w [] H s (fun _ _ _ => False) e s' -> False) :
 PySem.W.WalkO q loose XP YP l.row.toRowW d [] (fun f vs => PySem.call f vs) := by
 refine Att.attach_call hn hdf fun w s₀ s₁ mg mb fa o pm cd doc a vs ns G Y ho hd hcd hmg hobj hints hlen hg => ?_
 have KX := hY w _ Y
 obtain ⟨fd, hloc, hb, hF⟩ := F w mg fa _ KX G.T.g hmg
 exact Yfu KX G.T.g G.T.b G.T.builtins G.T.nolimit hg hloc hobj hints (Nat.le_trans hlen hn2) hr hF hb (fun H hO hS => hsp w H a ns hlen hO hS) fun H e s' => hCX w H s₁ e s'
end L2
namespace L2
open PySem PySem.Spec PyProof.Rows
def defArgs (s : Stmt) : Arguments := match s with
 | .FunctionDef _ a _ _ _ _ _ _ _ _ => a
 | _ => { posonlyargs := [], args := [], vararg := none, kwonlyargs := [], kw_defaults := [], kwarg := none, defaults := [] }
def defBody (s : Stmt) : List Stmt := match s with
 | .FunctionDef _ _ b _ _ _ _ _ _ _ => b
 | _ => []
def defScope (s : Stmt) : Scope := match s with
 | .FunctionDef _ _ _ _ _ _ sc _ _ _ => sc
 | _ => { kind := .function, names := [], isGenerator := false, isCoroutine := false }
abbrev CX0 : CXT := fun _ _ _ _ _ _ => False
abbrev E0 : XK := fun _ _ _ => False
theorem pass0 {X : Cx} : Passes CX0 X E0 := fun _ _ _ _ _ _ _ h => h.elim
structure Fun (K : PySem.W.Frag) (x qual : Str) (st : Stmt) (f : Addr) (fd : FuncData) : Prop where
 ex : ∃ (oc : Value) (od : Option Addr) (kV doc pm : Value) (an : Option Addr) (cdv ct : Value) (osl : Array (Option Value)),
  fd = PySem.W.fnOf x qual (defArgs st) (defBody st) (defScope st) .none kV doc pm an cdv ct /\ K.lookup f = some ⟨oc, od, .func fd, osl⟩ /\ PySem.W.codeIn K cdv qual = true
 kp : PySem.W.keepIn K (.ref f) = true
section
variable {P : Program} {w : World} {K : PySem.W.Frag} {mg : Str -> Option Value} {base : Heap}
theorem Fun.ok {x qual : Str} {st : Stmt} {f : Addr} {fd : FuncData} {N ps : List Str} {k : Nat} {sp : Sp} (F : Fun K x qual st f fd) (S : FnScope N ps (defScope st)) (len : ∀ vs H Q E, sp vs H Q E -> vs.length = ps.length)
 (hbody : ∀ (cdv : Value) (A : Around) (outer : List Env) (s : Shared) (H : Hp) (vs : List V) (Q : VK) (E : XK), Room k (A.deeper (envOfC qual (defScope st) s.heap.objs.size f cdv)) -> sp vs H Q E ->
  ∃ t, PSs (cxOf CX0 P w K mg base N qual (defScope st) f cdv A outer s H E).nox (defBody st) t /\ t { nx := fun _ H' => Q .non H', rt := Q } (start N vs) H) : FnOk P w K mg base CX0 (k + 1) f fd ps sp := by
 obtain ⟨oc, od, kV, doc, pm, an, cdv, ct, osl, rfl, lk, hcd⟩ := F.ex
 refine YjJ lk hcd S len fun A outer s H vs Q E hr hsp => ?_
 obtain ⟨t, h, q⟩ := hbody cdv A outer s H vs Q E hr hsp
 exact ⟨t, h.nox, q⟩
theorem Fun.binds {x qual : Str} {st : Stmt} {f : Addr} {fd : FuncData} {ps : List Str} (F : Fun K x qual st f fd)
 (h : ∀ (kV doc pm : Value) (an : Option Addr) (cdv ct : Value) (us : List Value), us.length = ps.length -> bindArgs (PySem.W.fnOf x qual (defArgs st) (defBody st) (defScope st) .none kV doc pm an cdv ct) ⟨us, []⟩ = pure (ps.zip us)) : Binds K fd ps [] := by
 obtain ⟨oc, od, kV, doc, pm, an, cdv, ct, osl, rfl, lk, hcd⟩ := F.ex
 exact .all (h kV doc pm an cdv ct)
theorem Ygn {x qual : Str} {st : Stmt} {f : Addr} {oc : Value} {od an : Option Addr} {osl : Array (Option Value)} {kV doc pm cdv ct : Value} (l : K.lookup f = some ⟨oc, od, .func (PySem.W.fnOf x qual (defArgs st) (defBody st) (defScope st) .none kV doc pm an cdv ct), osl⟩)
 (c : PySem.W.codeIn K cdv qual = true) (k : PySem.W.keepIn K (.ref f) = true) : Fun K x qual st f (PySem.W.fnOf x qual (defArgs st) (defBody st) (defScope st) .none kV doc pm an cdv ct) := ⟨⟨oc, od, kV, doc, pm, an, cdv, ct, osl, rfl, l, c⟩, k⟩
end
theorem YQ {A : Around} {k : Nat} (hr : Room k A) : A.units + 1 < cLine := Nat.lt_of_le_of_lt (Nat.add_le_add_left (by decide : 1 <= 64) _) hr.units
section
variable {X : Cx}
theorem pv (i : Nat) {x : Str} {pos : Pos} (hN : X.N[i]? = some x := by rfl) (hv : Vis X.env.scope x := by first | exact Or.inl rfl | exact Or.inr (Or.inl rfl) | exact Or.inr (Or.inr rfl)) (hd : (x == ("__debug__" : Str)) = false := by decide)
 (hcd : (x == ("__classdict__" : Str)) = false := by decide) : PE X (.Name x pos) (tVar i) := Yf8 hN hv hd hcd
end
def Same (H H' : Hp) : Prop := ∀ b o, H b = some o -> H' b = some o
theorem Same.refl (H : Hp) : Same H H := fun _ _ h => h
theorem Same.trans {H H1 H2 : Hp} (a : Same H H1) (b : Same H1 H2) : Same H H2 := fun c o h => b c o (a c o h)
theorem Same.free {H H' : Hp} (e : Same H H') {l : Addr} (h : H' l = Option.none) : H l = Option.none := by
 cases q : H l with
 | none => rfl
 | some o =>
  rw [e l o q] at h
  cases h
end L2
namespace L2
open PySem PySem.Spec PyProof.Rows
section
variable {X : Cx}
theorem Yem : CallR X (.builtin "len") (fun xs H Q => ∃ a kvs, xs = [V.ref a] /\ H a = some (.dK kvs) /\ Q (.int kvs.length) H) := by
 intro pins s σ H xs us Q I r h
 obtain ⟨a, kvs, rfl, ha, q⟩ := h
 obtain ⟨u, rfl, ru⟩ := vals1 r
 cases ru
 exact YjA I (.inl ha) fun t s' I' => ⟨.int kvs.length, H, I', ⟨t, rfl⟩, q⟩
end
section
variable {κ : Type} [DecidableEq κ]
end
end L2
namespace Mi
open PySem PySem.Spec L2
open PyProof.Rows hiding St
inductive P where
 | non | bl (b : Bool) | int (i : Int) | str (x : Str) | tup (xs : List P) | ref (k : Nat)
inductive O where
 | lst (xs : List P) | ro (xs : List P) | dct (kvs : List (Key × P)) | exc (c : Str) (fs : List (Str × P)) | dtt (kvs : List (List Key × P)) | fdc (kvs : List (Key × P))
abbrev Stor := List O
abbrev Rho := List (Option P)
mutual
inductive Den (K : PySem.W.Frag) (as : List Addr) (H : Hp) : V -> P -> Prop where
 | non : Den K as H .non .non
 | bl {b} : Den K as H (.bl b) (.bl b)
 | int {i} : Den K as H (.int i) (.int i)
 | str {x t} (h : H.τ t = some x) (z : t ≠ 0) : Den K as H (.str x t) (.str x)
 | ref {k a} : as[k]? = some a -> Den K as H (.ref a) (.ref k)
 | tup {a vs ps} (sq : SqT K H a vs) (ds : Dens K as H vs ps) (tk : H a = some (.tup vs) := by first | assumption | exact Yh) : Den K as H (.ref a) (.tup ps)
inductive Dens (K : PySem.W.Frag) (as : List Addr) (H : Hp) : List V -> List P -> Prop where
 | nil : Dens K as H [] []
 | cons {v p vs ps} : Den K as H v p -> Dens K as H vs ps -> Dens K as H (v :: vs) (p :: ps)
end
def Mu : HO -> Prop
 | .lst _ => True
 | .dK _ => True
 | .dT _ => True
 | _ => False
structure Ext (as : List Addr) (H : Hp) (as' : List Addr) (H' : Hp) : Prop where
 pre : ∀ (k : Nat) a, as[k]? = some a -> as'[k]? = some a
 keep : ∀ b u, H b = some u -> ¬ Mu u -> H' b = some u
 tau : ∀ t x, H.τ t = some x -> H'.τ t = some x
theorem Ext.refl {as : List Addr} {H : Hp} : Ext as H as H := ⟨fun _ _ e => e, fun _ _ e _ => e, fun _ _ e => e⟩
theorem Ext.trans {as as1 as2 : List Addr} {H H1 H2 : Hp} (a : Ext as H as1 H1) (b : Ext as1 H1 as2 H2) : Ext as H as2 H2 :=
 ⟨fun k x e => b.pre k x (a.pre k x e), fun c u e m => b.keep c u (a.keep c u e m) m, fun t x e => b.tau t x (a.tau t x e)⟩
theorem SqT.ext {K : PySem.W.Frag} {as as' : List Addr} {H H' : Hp} {a : Addr} {vs : List V} (x : Ext as H as' H') (h : SqT K H a vs) : SqT K H' a vs := by
 rcases h with (h | ⟨o, h⟩) | h
 ·exact .inl (.inl (x.keep _ _ h fun z => z))
 ·exact .inl (.inr ⟨o, x.keep _ _ h fun z => z⟩)
 ·exact .inr h
mutual
theorem Den.ext {K : PySem.W.Frag} {as as' : List Addr} {H H' : Hp} {v : V} {p : P} (x : Ext as H as' H') (h : Den K as H v p) : Den K as' H' v p :=
 match h with
 | .non => .non
 | .bl => .bl
 | .int => .int
 | .str h z => .str (x.tau _ _ h) z
 | .ref e => .ref (x.pre _ _ e)
 | .tup e r t => .tup (SqT.ext x e) (Dens.ext x r) (x.keep _ _ t fun z => z)
theorem Dens.ext {K : PySem.W.Frag} {as as' : List Addr} {H H' : Hp} {vs : List V} {ps : List P} (x : Ext as H as' H') (h : Dens K as H vs ps) : Dens K as' H' vs ps :=
 match h with
 | .nil => .nil
 | .cons a r => .cons (Den.ext x a) (Dens.ext x r)
end
section
variable {K : PySem.W.Frag} {as : List Addr} {H : Hp}
theorem Dens.length : ∀ {vs : List V} {ps : List P}, Dens K as H vs ps -> vs.length = ps.length
 | _, _, .nil => rfl
 | _, _, .cons _ r => by simp [Dens.length r]
theorem Dens.get : ∀ {vs : List V} {ps : List P} {i : Nat} {p : P}, Dens K as H vs ps -> ps[i]? = some p -> ∃ v, vs[i]? = some v /\ Den K as H v p
 | _, _, _, _, .nil, e => by simp at e
 | _, _, 0, _, .cons a _, e => by simp at e; subst e; exact ⟨_, rfl, a⟩
 | _, _, i + 1, _, .cons _ r, e => by
  obtain ⟨v, h1, h2⟩ := Dens.get (i := i) r (by simpa using e)
  exact ⟨v, by simpa using h1, h2⟩
theorem Dens.append : ∀ {vs ws : List V} {ps qs : List P}, Dens K as H vs ps -> Dens K as H ws qs -> Dens K as H (vs ++ ws) (ps ++ qs)
 | _, _, _, _, .nil, s => s
 | _, _, _, _, .cons a r, s => .cons a (Dens.append r s)
theorem Dens.set {v : V} {p : P} (d : Den K as H v p) : ∀ {vs : List V} {ps : List P} (i : Nat), Dens K as H vs ps -> Dens K as H (vs.set i v) (ps.set i p)
 | _, _, _, .nil => .nil
 | _, _, 0, .cons _ t => .cons d t
 | _, _, i + 1, .cons q t => .cons q (Dens.set d i t)
theorem Dens.take : ∀ {vs : List V} {ps : List P} (n : Nat), Dens K as H vs ps -> Dens K as H (vs.take n) (ps.take n)
 | _, _, 0, _ => .nil
 | _, _, _ + 1, .nil => .nil
 | _, _, n + 1, .cons r t => .cons r (Dens.take n t)
theorem Dens.drop : ∀ {vs : List V} {ps : List P} (n : Nat), Dens K as H vs ps -> Dens K as H (vs.drop n) (ps.drop n)
 | _, _, 0, r => r
 | _, _, _ + 1, .nil => .nil
 | _, _, n + 1, .cons _ t => Dens.drop n t
theorem Dens.reverse : ∀ {vs : List V} {ps : List P}, Dens K as H vs ps -> Dens K as H vs.reverse ps.reverse
 | _, _, .nil => .nil
 | _, _, .cons r t => by rw [List.reverse_cons, List.reverse_cons]; exact (Dens.reverse t).append (.cons r .nil)
end
def XObj (a : Addr) (C : Value) (od : Option Addr) (h : Heap) : Prop := ∃ o vs, h.get? a = some o /\ o.cls = C /\ o.dict = od /\ o.data = .fields vs
def FlyA (K : PySem.W.Frag) (as : List Addr) (H : Hp) (od : Option Addr) (fs : List (Str × P)) : Prop :=
 (od = none /\ fs = []) \/ ∃ d ws, od = some d /\ H d = some (.xd ws) /\ ws.map (·.1) = fs.map (·.1) /\ Dens K as H (ws.map (·.2)) (fs.map (·.2))
theorem FlyA.ext {K : PySem.W.Frag} {as as' : List Addr} {H H' : Hp} {od : Option Addr} {fs : List (Str × P)} (x : Ext as H as' H') (h : FlyA K as H od fs) : FlyA K as' H' od fs := by
 rcases h with h | ⟨d, ws, h4, h5, h6, h7⟩
 ·exact .inl h
 ·exact .inr ⟨d, ws, h4, x.keep _ _ h5 fun z => z, h6, h7.ext x⟩
def ORep (K : PySem.W.Frag) (as : List Addr) (H : Hp) (a : Addr) : O -> Prop
 | .lst xs => ∃ vs, H a = some (.lst vs) /\ Dens K as H vs xs
 | .ro xs => ∃ vs, ((∃ o, H a = some (.frz o (.lst vs))) \/ ∃ (o : Obj) (its : Array Value) (n : Nat), K.lookup a = some o /\ o.cls = .type "list" /\ o.dict = none /\ o.data = .seq its n /\ its.size <= sizeLine /\ Vals vs its.toList) /\ Dens K as H vs xs
 | .dct kvs => ∃ ws, H a = some (.dK ws) /\ ws.map (·.1) = kvs.map (·.1) /\ Dens K as H (ws.map (·.2)) (kvs.map (·.2))
 | .exc c fs => ∃ C od, PySem.W.nsIn K mainGlobals c = some (some (.ref C)) /\ H a = some (.ext (XObj a (.ref C) od)) /\ FlyA K as H od fs
 | .dtt kvs => ∃ ws, H a = some (.dT ws) /\ ws.map (·.1) = kvs.map (·.1) /\ Dens K as H (ws.map (·.2)) (kvs.map (·.2))
 | .fdc kvs => ∃ o ws, H a = some (.frz o (.dK ws)) /\ ws.map (·.1) = kvs.map (·.1) /\ Dens K as H (ws.map (·.2)) (kvs.map (·.2))
def isRo : Option O -> Prop
 | some (.ro _) => True
 | _ => False
structure Rep (K : PySem.W.Frag) (as : List Addr) (st : Stor) (H : Hp) : Prop where
 len : as.length = st.length
 nd : ∀ (i j : Nat) a, as[i]? = some a -> as[j]? = some a -> ¬ isRo st[i]? -> ¬ isRo st[j]? -> i = j
 ob : ∀ (k : Nat) a o, as[k]? = some a -> st[k]? = some o -> ORep K as H a o
section
variable {K : PySem.W.Frag} {as as' : List Addr} {H H' : Hp} {st : Stor}
theorem ORep.ext {a : Addr} {o : O} (x : Ext as H as' H') (hm : ∀ u, H a = some u -> H' a = some u) (h : ORep K as H a o) : ORep K as' H' a o := by
 cases o with
 | lst xs => obtain ⟨vs, h1, h2⟩ := h; exact ⟨vs, hm _ h1, h2.ext x⟩
 | ro xs =>
  obtain ⟨vs, h1, h2⟩ := h
  refine ⟨vs, ?_, h2.ext x⟩
  rcases h1 with ⟨o, h1⟩ | h1
  ·exact .inl ⟨o, hm _ h1⟩
  ·exact .inr h1
 | dct kvs => obtain ⟨ws, h1, h2, h3⟩ := h; exact ⟨ws, hm _ h1, h2, h3.ext x⟩
 | exc c fs =>
  obtain ⟨C, od, h1, h2, h3⟩ := h
  exact ⟨C, od, h1, hm _ h2, h3.ext x⟩
 | dtt kvs => obtain ⟨ws, h1, h2, h3⟩ := h; exact ⟨ws, hm _ h1, h2, h3.ext x⟩
 | fdc kvs => obtain ⟨o, ws, h1, h2, h3⟩ := h; exact ⟨o, ws, hm _ h1, h2, h3.ext x⟩
theorem Rep.tracked (r : Rep K as st H) {k : Nat} {a : Addr} (e : as[k]? = some a) (n : ¬ isRo st[k]?) : ∃ u, H a = some u := by
 have hk : k < st.length := by rw [<- r.len]; exact (List.getElem?_eq_some_iff.mp e).1
 have q : st[k]? = some st[k] := by simp [hk]
 have h := r.ob k a _ e q
 rw [q] at n
 cases w : st[k] with
 | lst xs => rw [w] at h; obtain ⟨vs, h1, _⟩ := h; exact ⟨_, h1⟩
 | ro xs => rw [w] at n; exact absurd trivial n
 | dct kvs => rw [w] at h; obtain ⟨vs, h1, _⟩ := h; exact ⟨_, h1⟩
 | exc c fs => rw [w] at h; obtain ⟨C, od, _, h2, _⟩ := h; exact ⟨_, h2⟩
 | dtt kvs => rw [w] at h; obtain ⟨vs, h1, _⟩ := h; exact ⟨_, h1⟩
 | fdc kvs => rw [w] at h; obtain ⟨o, vs, h1, _⟩ := h; exact ⟨_, h1⟩
theorem Ext.new {p : Addr} {u : HO} (hp : H p = none) : Ext as H (as ++ [p]) (upd H p u) where
 pre := fun k a e => by rw [List.getElem?_append_left (List.getElem?_eq_some_iff.mp e).1]; exact e
 keep := fun b w e _ => by rw [Ye (Ym e hp)]; exact e
 tau := fun _ _ e => e
theorem Ext.laid {p : Addr} {u : HO} (hp : H p = none) : Ext as H as (upd H p u) where
 pre := fun k a e => e
 keep := fun b w e _ => by rw [Ye (Ym e hp)]; exact e
 tau := fun _ _ e => e
theorem Rep.laid {p : Addr} {u : HO} (r : Rep K as st H) (hp : H p = none) : Rep K as st (upd H p u) :=
 ⟨r.len, r.nd, fun k a o e q => (r.ob k a o e q).ext (Ext.laid hp) fun w z => by rw [Ye (Ym z hp)]; exact z⟩
theorem YbS {x : Str} (h : x.length = 0) : x = Str.empty := by
 obtain ⟨c⟩ := x
 have : c = #[] := Array.eq_empty_of_size_eq_zero h
 rw [this]; rfl
theorem Ext.put {t : Tok} {x : Str} (hn : H.τ t = none) : Ext as H as (H.put t x) where
 pre := fun k a e => e
 keep := fun b w e _ => e
 tau := fun u y e => by
  show (if u = t then some x else H.τ u) = some y
  rw [if_neg]
  ·exact e
  ·rintro rfl
   rw [hn] at e; cases e
theorem Rep.put {t : Tok} {x : Str} (r : Rep K as st H) (hn : H.τ t = none) : Rep K as st (H.put t x) :=
 ⟨r.len, r.nd, fun k a o e q => (r.ob k a o e q).ext (Ext.put hn) fun w z => z⟩
theorem mkT {x : Str} {Q : VK} (r : Rep K as st H) (h : ∀ as1 H1 v, Ext as H as1 H1 -> Rep K as1 st H1 -> Den K as1 H1 v (.str x) -> Q v H1) : MkT x Q H := fun t hn hz =>
 h as _ _ (Ext.put hn) (r.put hn) (.str (if_pos rfl) hz)
def Fresh (as : List Addr) (st : Stor) (l : Addr) : Prop := ∀ i : Nat, as[i]? = some l -> isRo st[i]?
theorem Rep.fresh {p : Addr} (r : Rep K as st H) (hp : H p = none) : Fresh as st p := fun i e => by
 by_cases h : isRo st[i]?
 ·exact h
 ·obtain ⟨u, hu⟩ := r.tracked e h
  rw [hp] at hu; cases hu
theorem Ext.add {p : Addr} : Ext as H (as ++ [p]) H where
 pre := fun k a e => by rw [List.getElem?_append_left (List.getElem?_eq_some_iff.mp e).1]; exact e
 keep := fun b w e _ => e
 tau := fun _ _ e => e
theorem Rep.add {p : Addr} {o : O} (r : Rep K as st H) (fr : Fresh as st p) (ho : ORep K (as ++ [p]) H p o) : Rep K (as ++ [p]) (st ++ [o]) H where
 len := by simp [r.len]
 nd := fun i j a hi hj ni nj => by
  have hl := r.len
  have key : ∀ (i : Nat), (as ++ [p])[i]? = some a -> (¬ isRo (st ++ [o])[i]?) -> (i < as.length /\ as[i]? = some a /\ (¬ isRo st[i]?)) \/ (i = as.length /\ a = p) := fun i hi ni => by
   by_cases h : i < as.length
   ·rw [List.getElem?_append_left h] at hi
    rw [List.getElem?_append_left (by omega)] at ni
    exact .inl ⟨h, hi, ni⟩
   ·have h' : i < (as ++ [p]).length := (List.getElem?_eq_some_iff.mp hi).1
    rw [List.length_append, List.length_singleton] at h'
    have e : i = as.length := by omega
    subst e
    rw [List.getElem?_append_right (Nat.le_refl _)] at hi
    simp at hi
    exact .inr ⟨rfl, hi.symm⟩
  rcases key i hi ni with ⟨a1, a2, a3⟩ | ⟨a1, a2⟩
  ·rcases key j hj nj with ⟨b1, b2, b3⟩ | ⟨b1, b2⟩
   ·exact r.nd i j a a2 b2 a3 b3
   ·subst b2; exact absurd (fr i a2) a3
  ·rcases key j hj nj with ⟨b1, b2, b3⟩ | ⟨b1, b2⟩
   ·subst a2; exact absurd (fr j b2) b3
   ·omega
 ob := fun k a q hk hq => by
  have hl := r.len
  by_cases h : k < as.length
  ·rw [List.getElem?_append_left h] at hk
   rw [List.getElem?_append_left (by omega)] at hq
   exact (r.ob k a q hk hq).ext Ext.add fun w z => z
  ·have h' : k < (as ++ [p]).length := (List.getElem?_eq_some_iff.mp hk).1
   rw [List.length_append, List.length_singleton] at h'
   have e : k = as.length := by omega
   subst e
   rw [List.getElem?_append_right (Nat.le_refl _)] at hk
   rw [List.getElem?_append_right (by omega)] at hq
   simp at hk
   simp [hl] at hq
   subst hk; subst hq
   exact ho
theorem Rep.new {p : Addr} {u : HO} {o : O} (r : Rep K as st H) (hp : H p = none) (ho : ORep K (as ++ [p]) (upd H p u) p o) : Rep K (as ++ [p]) (st ++ [o]) (upd H p u) :=
 (r.laid hp).add (r.fresh hp) ho
theorem Jb {p : Addr} : (as ++ [p])[as.length]? = Option.some p := by simp
theorem Rep.lnew {p : Addr} {vs : List V} {xs : List P} (r : Rep K as st H) (hp : H p = none) (d : Dens K as H vs xs) : Rep K (as ++ [p]) (st ++ [.lst xs]) (upd H p (.lst vs)) :=
 r.new hp ⟨vs, Yh, d.ext (Ext.new hp)⟩
theorem Ext.write {a : Addr} {u w : HO} (ha : H a = Option.some w) (mu : Mu w) : Ext as H as (upd H a u) where
 pre := fun k a e => e
 keep := fun b z e m => by
  rw [Ye]
  ·exact e
  ·rintro rfl
   rw [ha] at e; cases e
   exact m mu
 tau := fun _ _ e => e
theorem Rep.write {k : Nat} {a : Addr} {u w : HO} {o : O} (r : Rep K as st H) (hk : as[k]? = Option.some a) (ha : H a = Option.some w) (mu : Mu w) (no : ¬ isRo (Option.some o)) (nr : ¬ isRo st[k]?) (ho : ORep K as (upd H a u) a o) : Rep K as (st.set k o) (upd H a u) where
 len := by rw [List.length_set]; exact r.len
 nd := fun i j b hi hj ni nj => by
  have key : ∀ (i : Nat), as[i]? = Option.some b -> (¬ isRo (st.set k o)[i]?) -> ¬ isRo st[i]? := fun i hi ni z => by
   by_cases h : k = i
   ·subst h; exact nr z
   ·rw [List.getElem?_set_ne h] at ni; exact ni z
  exact r.nd i j b hi hj (key i hi ni) (key j hj nj)
 ob := fun i b q hi hq => by
  have hkl : k < st.length := by rw [<- r.len]; exact (List.getElem?_eq_some_iff.mp hk).1
  by_cases h : k = i
  ·subst h
   rw [hk] at hi; cases hi
   rw [List.getElem?_set_self hkl] at hq
   cases hq
   exact ho
  ·rw [List.getElem?_set_ne h] at hq
   have old := r.ob i b q hi hq
   by_cases hb : b = a
   ·subst hb
    by_cases hr : isRo st[i]?
    ·rw [hq] at hr
     cases q with
     | ro xs =>
      obtain ⟨vs, h1, h2⟩ := old
      refine ⟨vs, ?_, h2.ext (Ext.write ha mu)⟩
      rcases h1 with ⟨ob, h1⟩ | h1
      ·rw [ha] at h1; cases h1; exact mu.elim
      ·exact .inr h1
     | _ => exact hr.elim
    ·exact absurd (r.nd k i b hk hi nr hr) h
   ·exact old.ext (Ext.write ha mu) fun w z => by rw [Ye hb]; exact z
theorem Rep.lset {k : Nat} {a : Addr} {vs vs' : List V} {xs xs' : List P} (r : Rep K as st H) (hk : as[k]? = Option.some a) (ha : H a = Option.some (.lst vs)) (hs : st[k]? = Option.some (.lst xs)) (d : Dens K as H vs' xs') : Rep K as (st.set k (.lst xs')) (upd H a (.lst vs')) :=
 r.write hk ha trivial (fun z => z) (by rw [hs]; exact fun z => z) ⟨vs', Yh, d.ext (Ext.write ha trivial)⟩
end
abbrev Xc := Str × List (Str × P)
inductive R (α : Type) where
 | ok (a : α) (st : Stor)
 | exc (k : Xc) (st : Stor)
 | bad
def R.bind {α β : Type} (r : R α) (f : α -> Stor -> R β) : R β :=
 match r with
 | .ok a st => f a st
 | .exc k st => .exc k st
 | .bad => .bad
@[simp] theorem R.bind_ok {α β : Type} {a : α} {st : Stor} {f : α -> Stor -> R β} : (R.ok a st).bind f = f a st := rfl
@[simp] theorem R.bind_exc {α β : Type} {k : Xc} {st : Stor} {f : α -> Stor -> R β} : (R.exc k st : R α).bind f = .exc k st := rfl
@[simp] theorem R.bind_bad {α β : Type} {f : α -> Stor -> R β} : (R.bad : R α).bind f = .bad := rfl
def ofO {α : Type} : Option (α × Stor) -> R α
 | some (a, st) => .ok a st
 | none => .bad
@[simp] theorem Yfl {α : Type} {a : α} {st : Stor} : ofO (some (a, st)) = .ok a st := rfl
@[simp] theorem Yjp {α : Type} : ofO (none : Option (α × Stor)) = .bad := rfl
abbrev ME := Rho -> Stor -> R P
abbrev MT := Rho -> Stor -> R Bool
abbrev MA := Rho -> Stor -> R (List P)
inductive RS where
 | nx (ρ : Rho) (st : Stor)
 | rt (p : P) (st : Stor)
 | bk (ρ : Rho) (st : Stor)
 | ct (ρ : Rho) (st : Stor)
 | exc (k : Xc) (ρ : Rho) (st : Stor)
 | bad
abbrev MS := Rho -> Stor -> RS
structure EnvOk (K : PySem.W.Frag) (as : List Addr) (H : Hp) (ρ : Rho) (σ : St) : Prop where
 len : ρ.length = σ.length
 val : ∀ (i : Nat) p, ρ[i]? = some (some p) -> ∃ v, σ[i]? = some (some v) /\ Den K as H v p
theorem EnvOk.ext {K : PySem.W.Frag} {as as' : List Addr} {H H' : Hp} {ρ : Rho} {σ : St} (x : Ext as H as' H') (h : EnvOk K as H ρ σ) : EnvOk K as' H' ρ σ :=
 ⟨h.len, fun i p e => let ⟨v, h1, h2⟩ := h.val i p e; ⟨v, h1, h2.ext x⟩⟩
theorem EnvOk.set {K : PySem.W.Frag} {as : List Addr} {H : Hp} {ρ : Rho} {σ : St} {i : Nat} {p : P} {v : V} (h : EnvOk K as H ρ σ) (d : Den K as H v p) : EnvOk K as H (ρ.set i (some p)) (σ.set i (some v)) :=
 ⟨by simp [h.len], fun j q e => by
  have hl := h.len
  by_cases hj : i = j
  ·subst hj
   by_cases hi : i < ρ.length
   ·rw [List.getElem?_set_self hi] at e
    cases e
    exact ⟨v, by rw [List.getElem?_set_self (by omega)], d⟩
   ·rw [List.set_eq_of_length_le (by omega)] at e
    have := (List.getElem?_eq_some_iff.mp e).1
    omega
  ·rw [List.getElem?_set_ne hj] at e
   obtain ⟨w, h1, h2⟩ := h.val j q e
   exact ⟨w, by rw [List.getElem?_set_ne hj]; exact h1, h2⟩⟩
structure Fly0 (Nw : Addr -> Prop) (H : Hp) (a : Addr) (C : Value) (od : Option Addr) (h : Heap) : Prop where
 na : Nw a
 ha : H a = none
 tr : ∃ oe vs, h.get? a = some oe /\ oe.cls = C /\ oe.dict = od /\ oe.data = .fields vs /\ (vs[1]? = some .none \/
  ∃ T oT ts, vs[1]? = some (.ref T) /\ Nw T /\ H T = none /\ T ≠ a /\ h.get? T = some oT /\ oT.data = .fields ts /\ 3 < ts.size)
theorem Fly0.mono {N N' : Addr -> Prop} {H : Hp} {a : Addr} {C : Value} {od : Option Addr} {h : Heap} (f : Fly0 N H a C od h) (i : ∀ b, N b -> N' b) : Fly0 N' H a C od h := by
 obtain ⟨n, e, oe, vs, h1, h2, h3, h4, h5⟩ := f
 refine ⟨i a n, e, oe, vs, h1, h2, h3, h4, ?_⟩
 rcases h5 with h5 | ⟨T, oT, ts, g1, g2, g3⟩
 ·exact .inl h5
 ·exact .inr ⟨T, oT, ts, g1, i T g2, g3⟩
def Nw (X : Cx) (pins : List (Addr × Obj)) (b : Addr) : Prop := (b ∈ X.ex \/ X.s₀.heap.get? b = none) /\ ∀ p ∈ X.pn ++ pins, p.1 ≠ b
def Fly (X : Cx) (pins : List (Addr × Obj)) (x : Xc) (a : Addr) (as : List Addr) (H : Hp) (s : Shared) : Prop :=
 ∃ C od, PySem.W.nsIn X.K mainGlobals x.1 = some (some (.ref C)) /\ Fly0 (Nw X pins) H a (.ref C) od s.heap /\ FlyA X.K as H od x.2
def XOk (X : Cx) (as : List Addr) (H : Hp) (ρ : Rho) (k : Xc) (st' : Stor) : Prop :=
 ∀ (pins : List (Addr × Obj)) (σ' : St) (s' : Shared) (as' : List Addr) (H' : Hp) (a : Addr), Inv X pins σ' H' s' -> EnvOk X.K as' H' ρ σ' -> Ext as H as' H' -> Rep X.K as' st' H' -> Fly X pins k a as' H' s' -> X.xe (.ref a) s'
theorem XOk.ext {X : Cx} {as as1 : List Addr} {H H1 : Hp} {ρ : Rho} {k : Xc} {st' : Stor} (x : Ext as H as1 H1) (h : XOk X as H ρ k st') : XOk X as1 H1 ρ k st' :=
 fun pins σ' s' as' H' a I e y r q => h pins σ' s' as' H' a I e (x.trans y) r q
def Post (X : Cx) (as : List Addr) (H : Hp) (ρ : Rho) (r : R P) (Q : VK) : Prop :=
 match r with
 | .ok p st' => ∀ as' H' v, Ext as H as' H' -> Rep X.K as' st' H' -> Den X.K as' H' v p -> Q v H'
 | .exc k st' => XOk X as H ρ k st'
 | .bad => False
def PostB (X : Cx) (as : List Addr) (H : Hp) (ρ : Rho) (r : R Bool) (Q : Bool -> Hp -> Prop) : Prop :=
 match r with
 | .ok b st' => ∀ as' H', Ext as H as' H' -> Rep X.K as' st' H' -> Q b H'
 | .exc k st' => XOk X as H ρ k st'
 | .bad => False
def PostA (X : Cx) (as : List Addr) (H : Hp) (ρ : Rho) (r : R (List P)) (Q : List V -> Hp -> Prop) : Prop :=
 match r with
 | .ok ps st' => ∀ as' H' vs, Ext as H as' H' -> Rep X.K as' st' H' -> Dens X.K as' H' vs ps -> Q vs H'
 | .exc k st' => XOk X as H ρ k st'
 | .bad => False
def PostL (X : Cx) (as : List Addr) (H : Hp) (ρ : Rho) (r : R (List P)) (Q : VK) : Prop :=
 match r with
 | .ok ps st' => ∀ as' H' l vs, Ext as H as' H' -> Rep X.K as' st' H' -> H' l = some (.lst vs) -> Fresh as' st' l -> Dens X.K as' H' vs ps -> Q (.ref l) H'
 | .exc k st' => XOk X as H ρ k st'
 | .bad => False
def PostS (X : Cx) (as : List Addr) (H : Hp) (r : RS) (D : Ends) : Prop :=
 match r with
 | .nx ρ' st' => ∀ as' H' σ', Ext as H as' H' -> Rep X.K as' st' H' -> EnvOk X.K as' H' ρ' σ' -> D.nx σ' H'
 | .bk ρ' st' => ∀ as' H' σ', Ext as H as' H' -> Rep X.K as' st' H' -> EnvOk X.K as' H' ρ' σ' -> D.bk σ' H'
 | .ct ρ' st' => ∀ as' H' σ', Ext as H as' H' -> Rep X.K as' st' H' -> EnvOk X.K as' H' ρ' σ' -> D.ct σ' H'
 | .rt p st' => ∀ as' H' v, Ext as H as' H' -> Rep X.K as' st' H' -> Den X.K as' H' v p -> D.rt v H'
 | .exc k ρ' st' => XOk X as H ρ' k st'
 | .bad => False
def PostO (X : Cx) (as : List Addr) (H : Hp) (r : Option (P × Stor)) (Q : VK) : Prop :=
 match r with
 | some (p, st') => ∀ as' H' v, Ext as H as' H' -> Rep X.K as' st' H' -> Den X.K as' H' v p -> Q v H'
 | none => False
def tE (X : Cx) (m : ME) : TE := fun σ H Q => ∃ as ρ st, EnvOk X.K as H ρ σ /\ Rep X.K as st H /\ Post X as H ρ (m ρ st) Q
def tT (X : Cx) (m : MT) : TT := fun σ H Q => ∃ as ρ st, EnvOk X.K as H ρ σ /\ Rep X.K as st H /\ PostB X as H ρ (m ρ st) Q
def tA (X : Cx) (m : MA) : TA := fun σ H Q => ∃ as ρ st, EnvOk X.K as H ρ σ /\ Rep X.K as st H /\ PostA X as H ρ (m ρ st) Q
def tL (X : Cx) (m : MA) : TE := fun σ H Q => ∃ as ρ st, EnvOk X.K as H ρ σ /\ Rep X.K as st H /\ PostL X as H ρ (m ρ st) Q
def tS (X : Cx) (m : MS) : TS := fun D σ H => ∃ as ρ st, EnvOk X.K as H ρ σ /\ Rep X.K as st H /\ PostS X as H (m ρ st) D
abbrev JE (X : Cx) (e : Expr) (m : ME) : Prop := PE X e (tE X m)
abbrev JT (X : Cx) (e : Expr) (m : MT) : Prop := PT X e (tT X m)
abbrev JA (X : Cx) (es : List Expr) (m : MA) : Prop := PA X es (tA X m)
abbrev JL (X : Cx) (e : Expr) (m : MA) : Prop := PE X e (tL X m)
abbrev JS (X : Cx) (s : Stmt) (m : MS) : Prop := PS X s (tS X m)
abbrev JSs (X : Cx) (ss : List Stmt) (m : MS) : Prop := PSs X ss (tS X m)
theorem PE.imp {X : Cx} {e : Expr} {t t' : TE} (h : PE X e t) (i : ∀ σ H Q, t' σ H Q -> t σ H Q) : PE X e t' := fun pins s σ H Q I q => h pins s σ H Q I (i σ H Q q)
theorem PT.imp {X : Cx} {e : Expr} {t t' : TT} (h : PT X e t) (i : ∀ σ H Q, t' σ H Q -> t σ H Q) : PT X e t' := fun pins s σ H Q I q => h pins s σ H Q I (i σ H Q q)
theorem PA.imp {X : Cx} {es : List Expr} {t t' : TA} (h : PA X es t) (i : ∀ σ H Q, t' σ H Q -> t σ H Q) : PA X es t' := fun pos pins s σ H Q I q => h pos pins s σ H Q I (i σ H Q q)
theorem PS.imp {X : Cx} {e : Stmt} {t t' : TS} (h : PS X e t) (i : ∀ D σ H, t' D σ H -> t D σ H) : PS X e t' := fun pins s σ H D I q => h pins s σ H D I (i D σ H q)
theorem PSs.imp {X : Cx} {e : List Stmt} {t t' : TS} (h : PSs X e t) (i : ∀ D σ H, t' D σ H -> t D σ H) : PSs X e t' := fun pins s σ H D I q => h pins s σ H D I (i D σ H q)
section
variable {X : Cx} {as as1 : List Addr} {H H1 : Hp} {ρ : Rho}
theorem Post.ext {r : R P} {Q : VK} (x : Ext as H as1 H1) (h : Post X as H ρ r Q) : Post X as1 H1 ρ r Q := by
 cases r with
 | ok p st' => exact fun as' H' v y => h as' H' v (x.trans y)
 | exc k st' => exact XOk.ext x h
 | bad => exact h
theorem PostB.ext {r : R Bool} {Q : Bool -> Hp -> Prop} (x : Ext as H as1 H1) (h : PostB X as H ρ r Q) : PostB X as1 H1 ρ r Q := by
 cases r with
 | ok p st' => exact fun as' H' y => h as' H' (x.trans y)
 | exc k st' => exact XOk.ext x h
 | bad => exact h
theorem PostA.ext {r : R (List P)} {Q : List V -> Hp -> Prop} (x : Ext as H as1 H1) (h : PostA X as H ρ r Q) : PostA X as1 H1 ρ r Q := by
 cases r with
 | ok p st' => exact fun as' H' vs y => h as' H' vs (x.trans y)
 | exc k st' => exact XOk.ext x h
 | bad => exact h
theorem PostL.ext {r : R (List P)} {Q : VK} (x : Ext as H as1 H1) (h : PostL X as H ρ r Q) : PostL X as1 H1 ρ r Q := by
 cases r with
 | ok p st' => exact fun as' H' l vs y => h as' H' l vs (x.trans y)
 | exc k st' => exact XOk.ext x h
 | bad => exact h
theorem PostS.ext {r : RS} {D : Ends} (x : Ext as H as1 H1) (h : PostS X as H r D) : PostS X as1 H1 r D := by
 cases r with
 | nx ρ' st' => exact fun as' H' σ' y => h as' H' σ' (x.trans y)
 | bk ρ' st' => exact fun as' H' σ' y => h as' H' σ' (x.trans y)
 | ct ρ' st' => exact fun as' H' σ' y => h as' H' σ' (x.trans y)
 | rt p st' => exact fun as' H' v y => h as' H' v (x.trans y)
 | exc k ρ' st' => exact XOk.ext x h
 | bad => exact h
theorem Post.bindE {r : R P} {f : P -> Stor -> R P} {Q Q' : VK} (h : Post X as H ρ (r.bind f) Q)
 (go : ∀ p st1 as1 H1 v, Ext as H as1 H1 -> Rep X.K as1 st1 H1 -> Den X.K as1 H1 v p -> Post X as1 H1 ρ (f p st1) Q -> Q' v H1) : Post X as H ρ r Q' := by
 cases r with
 | ok p st1 => exact fun as1 H1 v x rp d => go p st1 as1 H1 v x rp d (Post.ext x h)
 | exc k st' => exact h
 | bad => exact h
theorem Post.bindA {r : R (List P)} {f : List P -> Stor -> R P} {Q : VK} {Q' : List V -> Hp -> Prop} (h : Post X as H ρ (r.bind f) Q)
 (go : ∀ ps st1 as1 H1 vs, Ext as H as1 H1 -> Rep X.K as1 st1 H1 -> Dens X.K as1 H1 vs ps -> Post X as1 H1 ρ (f ps st1) Q -> Q' vs H1) : PostA X as H ρ r Q' := by
 cases r with
 | ok p st1 => exact fun as1 H1 v x rp d => go p st1 as1 H1 v x rp d (Post.ext x h)
 | exc k st' => exact h
 | bad => exact h
theorem Post.bindL {r : R (List P)} {f : List P -> Stor -> R P} {Q Q' : VK} (h : Post X as H ρ (r.bind f) Q)
 (go : ∀ ps st1 as1 H1 l vs, Ext as H as1 H1 -> Rep X.K as1 st1 H1 -> H1 l = some (.lst vs) -> Fresh as1 st1 l -> Dens X.K as1 H1 vs ps -> Post X as1 H1 ρ (f ps st1) Q -> Q' (.ref l) H1) : PostL X as H ρ r Q' := by
 cases r with
 | ok p st1 => exact fun as1 H1 l v x rp hl nl d => go p st1 as1 H1 l v x rp hl nl d (Post.ext x h)
 | exc k st' => exact h
 | bad => exact h
theorem Post.bindB {r : R Bool} {f : Bool -> Stor -> R P} {Q : VK} {Q' : Bool -> Hp -> Prop} (h : Post X as H ρ (r.bind f) Q)
 (go : ∀ b st1 as1 H1, Ext as H as1 H1 -> Rep X.K as1 st1 H1 -> Post X as1 H1 ρ (f b st1) Q -> Q' b H1) : PostB X as H ρ r Q' := by
 cases r with
 | ok p st1 => exact fun as1 H1 x rp => go p st1 as1 H1 x rp (Post.ext x h)
 | exc k st' => exact h
 | bad => exact h
theorem PostB.bindE {r : R P} {f : P -> Stor -> R Bool} {Q : Bool -> Hp -> Prop} {Q' : VK} (h : PostB X as H ρ (r.bind f) Q)
 (go : ∀ p st1 as1 H1 v, Ext as H as1 H1 -> Rep X.K as1 st1 H1 -> Den X.K as1 H1 v p -> PostB X as1 H1 ρ (f p st1) Q -> Q' v H1) : Post X as H ρ r Q' := by
 cases r with
 | ok p st1 => exact fun as1 H1 v x rp d => go p st1 as1 H1 v x rp d (PostB.ext x h)
 | exc k st' => exact h
 | bad => exact h
theorem PostB.bindB {r : R Bool} {f : Bool -> Stor -> R Bool} {Q : Bool -> Hp -> Prop} {Q' : Bool -> Hp -> Prop} (h : PostB X as H ρ (r.bind f) Q)
 (go : ∀ b st1 as1 H1, Ext as H as1 H1 -> Rep X.K as1 st1 H1 -> PostB X as1 H1 ρ (f b st1) Q -> Q' b H1) : PostB X as H ρ r Q' := by
 cases r with
 | ok p st1 => exact fun as1 H1 x rp => go p st1 as1 H1 x rp (PostB.ext x h)
 | exc k st' => exact h
 | bad => exact h
theorem PostA.bindE {r : R P} {f : P -> Stor -> R (List P)} {Q : List V -> Hp -> Prop} {Q' : VK} (h : PostA X as H ρ (r.bind f) Q)
 (go : ∀ p st1 as1 H1 v, Ext as H as1 H1 -> Rep X.K as1 st1 H1 -> Den X.K as1 H1 v p -> PostA X as1 H1 ρ (f p st1) Q -> Q' v H1) : Post X as H ρ r Q' := by
 cases r with
 | ok p st1 => exact fun as1 H1 v x rp d => go p st1 as1 H1 v x rp d (PostA.ext x h)
 | exc k st' => exact h
 | bad => exact h
theorem PostA.bindA {r : R (List P)} {f : List P -> Stor -> R (List P)} {Q : List V -> Hp -> Prop} {Q' : List V -> Hp -> Prop} (h : PostA X as H ρ (r.bind f) Q)
 (go : ∀ p st1 as1 H1 v, Ext as H as1 H1 -> Rep X.K as1 st1 H1 -> Dens X.K as1 H1 v p -> PostA X as1 H1 ρ (f p st1) Q -> Q' v H1) : PostA X as H ρ r Q' := by
 cases r with
 | ok p st1 => exact fun as1 H1 v x rp d => go p st1 as1 H1 v x rp d (PostA.ext x h)
 | exc k st' => exact h
 | bad => exact h
theorem PostL.bindE {r : R P} {f : P -> Stor -> R (List P)} {Q Q' : VK} (h : PostL X as H ρ (r.bind f) Q)
 (go : ∀ p st1 as1 H1 v, Ext as H as1 H1 -> Rep X.K as1 st1 H1 -> Den X.K as1 H1 v p -> PostL X as1 H1 ρ (f p st1) Q -> Q' v H1) : Post X as H ρ r Q' := by
 cases r with
 | ok p st1 => exact fun as1 H1 v x rp d => go p st1 as1 H1 v x rp d (PostL.ext x h)
 | exc k st' => exact h
 | bad => exact h
theorem PostL.bindA {r : R (List P)} {f : List P -> Stor -> R (List P)} {Q : VK} {Q' : List V -> Hp -> Prop} (h : PostL X as H ρ (r.bind f) Q)
 (go : ∀ p st1 as1 H1 v, Ext as H as1 H1 -> Rep X.K as1 st1 H1 -> Dens X.K as1 H1 v p -> PostL X as1 H1 ρ (f p st1) Q -> Q' v H1) : PostA X as H ρ r Q' := by
 cases r with
 | ok p st1 => exact fun as1 H1 v x rp d => go p st1 as1 H1 v x rp d (PostL.ext x h)
 | exc k st' => exact h
 | bad => exact h
theorem PostL.bindL {r : R (List P)} {f : List P -> Stor -> R (List P)} {Q Q' : VK} (h : PostL X as H ρ (r.bind f) Q)
 (go : ∀ ps st1 as1 H1 l vs, Ext as H as1 H1 -> Rep X.K as1 st1 H1 -> H1 l = some (.lst vs) -> Fresh as1 st1 l -> Dens X.K as1 H1 vs ps -> PostL X as1 H1 ρ (f ps st1) Q -> Q' (.ref l) H1) : PostL X as H ρ r Q' := by
 cases r with
 | ok p st1 => exact fun as1 H1 l v x rp hl nl d => go p st1 as1 H1 l v x rp hl nl d (PostL.ext x h)
 | exc k st' => exact h
 | bad => exact h
theorem Post.ofO {r : Option (P × Stor)} {Q : VK} (h : Post X as H ρ (ofO r) Q) : PostO X as H r Q := by
 cases r with
 | none => exact h
 | some p => exact h
end
end Mi
namespace Mi
open PySem PySem.Spec L2
open PyProof.Rows hiding St
def eVar (i : Nat) : ME := fun ρ st => match ρ[i]? with
 | some (some p) => .ok p st
 | _ => .bad
def eC (p : P) : ME := fun _ st => .ok p st
section
variable {X : Cx} {a b c : Expr} {ma mb mc : ME} {pos : Pos}
theorem Yht {i : Nat} (h : PE X a (tVar i)) : JE X a (eVar i) := PE.imp h fun σ H Q ⟨as, ρ, st, en, rp, h⟩ => by
 unfold eVar at h
 cases e : ρ[i]? with
 | none => rw [e] at h; exact h.elim
 | some o =>
  rw [e] at h
  cases o with
  | none => exact h.elim
  | some p =>
   obtain ⟨v, h1, d⟩ := en.val i p e
   exact ⟨v, h1, h as H v Ext.refl rp d⟩
theorem jv (i : Nat) {x : Str} {pos : Pos} (hN : X.N[i]? = some x := by rfl) (hv : Vis X.env.scope x := by first | exact Or.inl rfl | exact Or.inr (Or.inl rfl) | exact Or.inr (Or.inr rfl)) (hd : (x == ("__debug__" : Str)) = false := by decide)
 (hcd : (x == ("__classdict__" : Str)) = false := by decide) : JE X (.Name x pos) (eVar i) := Yht (Yf8 hN hv hd hcd)
theorem Ycp {v : V} {p : P} (h : PE X a (tC v)) (d : ∀ K as H, Den K as H v p) : JE X a (eC p) := PE.imp h fun σ H Q ⟨as, ρ, st, en, rp, h⟩ => h as H v Ext.refl rp (d _ _ _)
theorem Yb {i j pos} : JE X (.Constant (.int i) j pos) (eC (.int i)) := Ycp YiA fun _ _ _ => .int
theorem VL {b j pos} : JE X (.Constant (.bool b) j pos) (eC (.bl b)) := Ycp Yjy fun _ _ _ => .bl
theorem Yn {x j pos} : JE X (.Constant (.str x) j pos) (eC (.str x)) := PE.imp YhO fun σ H Q ⟨as, ρ, st, en, rp, h⟩ => mkT rp fun as1 H1 v x r d => h as1 H1 v x r d
abbrev G2 := P -> P -> Stor -> Option (P × Stor)
def rM (X : Cx) (g : G2) : R2 := fun x y H Q => ∃ as st p q, Rep X.K as st H /\ Den X.K as H x p /\ Den X.K as H y q /\ PostO X as H (g p q st) Q
def eBin (g : G2) (ma mb : ME) : ME := fun ρ st => (ma ρ st).bind fun p st1 => (mb ρ st1).bind fun q st2 => ofO (g p q st2)
theorem Ya1 {g : G2} {σ : St} {H : Hp} {Q : VK} (h : tE X (eBin g ma mb) σ H Q) : tOp (rM X g) (tE X ma) (tE X mb) σ H Q := by
 obtain ⟨as, ρ, st, en, rp, h⟩ := h
 exact ⟨as, ρ, st, en, rp, Post.bindE h fun p st1 as1 H1 v x rp1 d h1 => ⟨as1, ρ, st1, en.ext x, rp1, Post.bindE h1 fun q st2 as2 H2 u x2 rp2 d2 h2 => ⟨as2, st2, p, q, rp2, d.ext x2, d2, Post.ofO h2⟩⟩⟩
theorem Yil {op : Operator} {g : G2} (ho : OpR X (binaryOp op) (rM X g)) (ha : JE X a ma) (hb : JE X b mb) : JE X (.BinOp a op b pos) (eBin g ma mb) :=
 PE.imp (Yjh ho ha hb) fun _ _ _ h => Ya1 h
theorem YcC {op : CmpOp} {g : G2} (ho : OpR X (compareOp op) (rM X g)) (ha : JE X a ma) (hb : JE X b mb) (hm : behindInMarks op b = false) : JE X (.Compare a [op] [b] pos) (eBin g ma mb) :=
 PE.imp (YgR ho ha hb hm) fun _ _ _ h => Ya1 h
def eTst (m : ME) : MT := fun ρ st => (m ρ st).bind fun p st1 => match p with
 | .bl c => .ok c st1
 | _ => .bad
theorem Yim {m : ME} {t : TE} (ht : ∀ σ H Q, tE X m σ H Q -> t σ H Q) {σ : St} {H : Hp} {Q : Bool -> Hp -> Prop} (h : tT X (eTst m) σ H Q) : tTest t σ H Q := by
 obtain ⟨as, ρ, st, en, rp, h⟩ := h
 refine ht _ _ _ ⟨as, ρ, st, en, rp, PostB.bindE h fun p st1 as1 H1 v x rp1 d h1 => ?_⟩
 cases d with
 | bl => exact ⟨_, rfl, h1 as1 H1 Ext.refl rp1⟩
 | _ => exact False.elim h1
theorem Yis {op : CmpOp} {g : G2} (ho : OpR X (compareOp op) (rM X g)) (ha : JE X a ma) (hb : JE X b mb) (hm : behindInMarks op b = false) : JT X (.Compare a [op] [b] pos) (eTst (eBin g ma mb)) :=
 PT.imp (YgN ho ha hb hm) fun _ _ _ h => Yim (fun _ _ _ h => Ya1 h) h
def eChain (g g' : G2) (ma mb mc : ME) : ME := fun ρ st => (ma ρ st).bind fun p st1 => (mb ρ st1).bind fun q st2 => (ofO (g p q st2)).bind fun z st3 => match z with
 | .bl k => if k = true then (mc ρ st3).bind fun r st4 => ofO (g' q r st4) else .ok (.bl false) st3
 | _ => .bad
theorem Yd2 {g g' : G2} {σ : St} {H : Hp} {Q : VK} (h : tE X (eChain g g' ma mb mc) σ H Q) : tChain (rM X g) (rM X g') (tE X ma) (tE X mb) (tE X mc) σ H Q := by
 obtain ⟨as, ρ, st, en, rp, h⟩ := h
 refine ⟨as, ρ, st, en, rp, Post.bindE h fun p st1 as1 H1 v x rp1 d h1 => ⟨as1, ρ, st1, en.ext x, rp1, Post.bindE h1 fun q st2 as2 H2 u x2 rp2 d2 h2 => ⟨as2, st2, p, q, rp2, d.ext x2, d2, ?_⟩⟩⟩
 refine Post.ofO (ρ := ρ) (Post.bindE h2 fun z st3 as3 H3 w x3 rp3 d3 h3 => ?_)
 cases d3 with
 | bl =>
  rename_i k
  refine ⟨k, rfl, ?_⟩
  cases k with
  | true =>
   rw [if_pos rfl]
   exact ⟨as3, ρ, st3, ((en.ext x).ext x2).ext x3, rp3, Post.bindE h3 fun r st4 as4 H4 w' x4 rp4 d4 h4 => ⟨as4, st4, q, r, rp4, (d2.ext x3).ext x4, d4, Post.ofO h4⟩⟩
  | false =>
   rw [if_neg Bool.false_ne_true]
   exact h3 as3 H3 _ Ext.refl rp3 .bl
 | _ => exact False.elim h3
theorem YfM {op op' : CmpOp} {g g' : G2} (ho : OpR X (compareOp op) (rM X g)) (ho' : OpR X (compareOp op') (rM X g')) (ha : JE X a ma) (hb : JE X b mb) (hc : JE X c mc)
 (hm : lastMarks [op, op'] [b, c] = false := by with_unfolding_all rfl) : JE X (.Compare a [op, op'] [b, c] pos) (eChain g g' ma mb mc) := PE.imp (YfB ho ho' ha hb hc hm) fun _ _ _ h => Yd2 h
variable {na nb : MT} {rest : List Expr}
abbrev JW (X : Cx) (e : Expr) (m : MT) : Prop := PW X e (tT X m)
theorem PW.imp {e : Expr} {t t' : TT} (h : PW X e t) (i : ∀ σ H Q, t' σ H Q -> t σ H Q) : PW X e t' := fun wh pins s σ H Q I q => h wh pins s σ H Q I (i σ H Q q)
def eAndT (na nb : MT) : MT := fun ρ st => (na ρ st).bind fun c st1 => if c = true then nb ρ st1 else .ok false st1
def eOrT (na nb : MT) : MT := fun ρ st => (na ρ st).bind fun c st1 => if c = true then .ok true st1 else nb ρ st1
def eNotT (na : MT) : MT := fun ρ st => (na ρ st).bind fun c st1 => .ok (!c) st1
theorem V4 (ha : JT X a na) : JW X (.BoolOp .And [a] pos) na := Yhw ha
theorem Yfa (ha : JT X a na) : JW X (.BoolOp .Or [a] pos) na := Yif ha
theorem WP (ha : JT X a na) (hb : JW X (.BoolOp .And (b :: rest) pos) nb) : JW X (.BoolOp .And (a :: b :: rest) pos) (eAndT na nb) :=
 PW.imp (YiJ ha hb) fun σ H Q ⟨as, ρ, st, en, rp, h⟩ => ⟨as, ρ, st, en, rp, PostB.bindB h fun c st1 as1 H1 x rp1 h1 => by
  cases c with
  | true => rw [if_pos rfl] at h1 ⊢; exact ⟨as1, ρ, st1, en.ext x, rp1, h1⟩
  | false => rw [if_neg Bool.false_ne_true] at h1 ⊢; exact h1 as1 H1 Ext.refl rp1⟩
theorem YhG (ha : JT X a na) (hb : JW X (.BoolOp .Or (b :: rest) pos) nb) : JW X (.BoolOp .Or (a :: b :: rest) pos) (eOrT na nb) :=
 PW.imp (YjE ha hb) fun σ H Q ⟨as, ρ, st, en, rp, h⟩ => ⟨as, ρ, st, en, rp, PostB.bindB h fun c st1 as1 H1 x rp1 h1 => by
  cases c with
  | false => rw [if_neg Bool.false_ne_true] at h1 ⊢; exact ⟨as1, ρ, st1, en.ext x, rp1, h1⟩
  | true => rw [if_pos rfl] at h1 ⊢; exact h1 as1 H1 Ext.refl rp1⟩
theorem Wk (ha : JT X a na) : JT X (.UnaryOp .Not a pos) (eNotT na) :=
 PT.imp (YhX ha) fun σ H Q ⟨as, ρ, st, en, rp, h⟩ => ⟨as, ρ, st, en, rp, PostB.bindB h fun c st1 as1 H1 x rp1 h1 => h1 as1 H1 Ext.refl rp1⟩
def eAnd (ma mb : ME) : ME := fun ρ st => (ma ρ st).bind fun p st1 => match p with
 | .bl c => if c = true then mb ρ st1 else .ok (.bl false) st1
 | _ => .bad
def eOr (ma mb : ME) : ME := fun ρ st => (ma ρ st).bind fun p st1 => match p with
 | .bl c => if c = true then .ok (.bl true) st1 else mb ρ st1
 | _ => .bad
theorem Yfv {op} (h : JE X a ma) : JE X (.BoolOp op [a] pos) ma := YiK h
theorem Yfp (ha : JE X a ma) (hb : JE X (.BoolOp .And (b :: rest) pos) mb) : JE X (.BoolOp .And (a :: b :: rest) pos) (eAnd ma mb) :=
 PE.imp (YiD ha hb) fun σ H Q ⟨as, ρ, st, en, rp, h⟩ => ⟨as, ρ, st, en, rp, Post.bindE h fun p st1 as1 H1 v x rp1 d h1 => by
  cases d with
  | bl =>
   rename_i c
   refine ⟨c, rfl, ?_⟩
   cases c with
   | true => exact ⟨as1, ρ, st1, en.ext x, rp1, h1⟩
   | false => exact h1 as1 H1 _ Ext.refl rp1 .bl
  | _ => exact False.elim h1⟩
def cap : Nat := 1000000
def truP (p : P) (st : Stor) : Option Bool := match p with
 | .non => some false
 | .bl b => some b
 | .int i => some (i != 0)
 | .str x => if x.length <= cap then some (decide (x.length ≠ 0)) else none
 | .tup xs => some (!xs.isEmpty)
 | .ref k => match st[k]? with
  | some (.lst xs) => some (!xs.isEmpty)
  | some (.ro xs) => some (!xs.isEmpty)
  | some (.dct kvs) => some (!kvs.isEmpty)
  | _ => none
def eTru (m : ME) : MT := fun ρ st => (m ρ st).bind fun p st1 => match truP p st1 with
 | some c => .ok c st1
 | none => .bad
theorem Yi : cap <= sizeLine := by rw [sizeLine_eq]; decide
theorem Dens.isEmpty {K : PySem.W.Frag} {as : List Addr} {H : Hp} {vs : List V} {ps : List P} (h : Dens K as H vs ps) : vs.isEmpty = ps.isEmpty := by cases h <;> rfl
theorem ZA {K : PySem.W.Frag} {H : Hp} {a : Addr} {vs : List V} (h : (∃ o, H a = some (.frz o (.lst vs))) \/ ∃ (o : Obj) (its : Array Value) (n : Nat), K.lookup a = some o /\ o.cls = .type "list" /\ o.dict = none /\ o.data = .seq its n /\ its.size <= sizeLine /\ Vals vs its.toList) : SqL K H a vs := by
 rcases h with h | h
 ·exact .inl (.inr h)
 ·exact .inr h
theorem YgG {K : PySem.W.Frag} {as : List Addr} {st : Stor} {H : Hp} {v : V} {p : P} {k : Bool} (rp : Rep K as st H) (d : Den K as H v p) (h : truP p st = some k) : TruV K v H k := by
 cases d with
 | non => cases h; rfl
 | bl => cases h; rfl
 | int => cases h; rfl
 | @str x _ _ _ =>
  unfold truP at h
  dsimp only at h
  by_cases hx : x.length <= cap
  ·rw [if_pos hx] at h
   refine ⟨Nat.le_trans hx Yi, ?_⟩
   rw [<- Option.some.inj h]
   by_cases hz : x.length = 0
   ·simp [hz]
   ·have : ((x.length : Int) != 0) = true := by simp; omega
    rw [this]; simp [hz]
  ·rw [if_neg hx] at h; cases h
 | ref e =>
  rename_i j a
  unfold truP at h
  dsimp only at h
  cases q : st[j]? with
  | none => rw [q] at h; cases h
  | some o =>
   rw [q] at h
   have r := rp.ob j a o e q
   cases o with
   | lst xs => obtain ⟨vs, h1, h2⟩ := r; exact .inl ⟨vs, .of h1, by rw [h2.isEmpty]; exact (Option.some.inj h).symm⟩
   | ro xs => obtain ⟨vs, h1, h2⟩ := r; exact .inl ⟨vs, ZA h1, by rw [h2.isEmpty]; exact (Option.some.inj h).symm⟩
   | dct kvs =>
    obtain ⟨ws, h1, h2, h3⟩ := r
    refine .inr (.inr ⟨ws, h1, ?_⟩)
    rw [<- Option.some.inj h]
    have := congrArg List.length h2
    cases ws <;> cases kvs <;> first | rfl | simp at this
   | exc c fs => cases h
   | dtt kvs => cases h
   | fdc kvs => cases h
 | @tup a vs ps e r tk =>
  exact .inr (.inl ⟨_, e, by rw [r.isEmpty]; exact (Option.some.inj h).symm⟩)
theorem ZI (ha : JE X a ma) (he : ∀ whole, isTrue a X.env whole = (do let v <- whole; standAt a.pos; holding [v] (truthy v))) : JT X a (eTru ma) :=
 PT.imp (Yf1 ha he) fun σ H Q ⟨as, ρ, st, en, rp, h⟩ => ⟨as, ρ, st, en, rp, PostB.bindE h fun p st1 as1 H1 v x rp1 d h1 => by
  cases q : truP p st1 with
  | none => rw [q] at h1; exact False.elim h1
  | some k => rw [q] at h1; exact ⟨k, YgG rp1 d q, h1 as1 H1 Ext.refl rp1⟩⟩
variable {e : Expr} {es : List Expr} {me : ME} {mr : MA}
def aNil : MA := fun _ st => .ok [] st
def aCons (me : ME) (mr : MA) : MA := fun ρ st => (me ρ st).bind fun p st1 => (mr ρ st1).bind fun ps st2 => .ok (p :: ps) st2
theorem Ya : JA X [] aNil := PA.imp JF fun σ H Q ⟨as, ρ, st, en, rp, h⟩ => h as H [] Ext.refl rp .nil
theorem YgI (ha : JE X e me) (hr : JA X es mr) (hs : starEach (e :: es) X.env = (false, eval e X.env) :: starEach es X.env := by rfl) : JA X (e :: es) (aCons me mr) :=
 PA.imp (Wu ha hr hs) fun σ H Q ⟨as, ρ, st, en, rp, h⟩ => ⟨as, ρ, st, en, rp, PostA.bindE h fun p st1 as1 H1 v x rp1 d h1 =>
  ⟨as1, ρ, st1, en.ext x, rp1, PostA.bindA h1 fun ps st2 as2 H2 vs x2 rp2 d2 h2 => h2 as2 H2 _ Ext.refl rp2 (.cons (d.ext x2) d2)⟩⟩
def eTup (mr : MA) : ME := fun ρ st => (mr ρ st).bind fun ps st1 => if ps.length <= cap then .ok (.tup ps) st1 else .bad
theorem Z6 {x1} (h : JA X es mr) : JE X (.Tuple es x1 pos) (eTup mr) :=
 PE.imp (YiW h) fun σ H Q ⟨as, ρ, st, en, rp, h⟩ => ⟨as, ρ, st, en, rp, Post.bindA h fun ps st1 as1 H1 vs x rp1 d h1 => by
  by_cases hl : ps.length <= cap
  ·rw [if_pos hl] at h1
   exact ⟨by rw [d.length]; exact Nat.le_trans hl Yi, fun p hp => h1 as1 _ _ (Ext.laid hp) (rp1.laid hp) (.tup (.of Yh) (d.ext (Ext.laid hp)))⟩
  ·rw [if_neg hl] at h1; exact False.elim h1⟩
def lMk (mr : MA) : MA := fun ρ st => (mr ρ st).bind fun ps st1 => if ps.length <= cap then .ok ps st1 else .bad
theorem Wg (h : JA X es mr) : JL X (.List es pos) (lMk mr) :=
 PE.imp (YhR h) fun σ H Q ⟨as, ρ, st, en, rp, h⟩ => ⟨as, ρ, st, en, rp, by
  unfold lMk at h
  cases q : mr ρ st with
  | bad => rw [q] at h; exact h
  | exc k st' => rw [q] at h; exact h
  | ok ps st1 =>
   rw [q] at h
   intro as1 H1 vs x rp1 d
   by_cases hl : ps.length <= cap
   ·rw [R.bind_ok, if_pos hl] at h
    exact ⟨by rw [d.length]; exact Nat.le_trans hl Yi, fun p hp => h as1 _ p vs (x.trans (Ext.laid hp)) (rp1.laid hp) Yh (rp1.fresh hp) (d.ext (Ext.laid hp))⟩
   ·rw [R.bind_ok, if_neg hl] at h; exact False.elim h⟩
def eSto (m : MA) : ME := fun ρ st => (m ρ st).bind fun ps st1 => .ok (.ref st1.length) (st1 ++ [.lst ps])
theorem Zr {m : MA} (h : JL X e m) : JE X e (eSto m) :=
 PE.imp h fun σ H Q ⟨as, ρ, st, en, rp, h⟩ => ⟨as, ρ, st, en, rp, Post.bindL h fun ps st1 as1 H1 l vs x rp1 hl fr d h1 =>
  h1 (as1 ++ [l]) H1 (.ref l) Ext.add (rp1.add fr ⟨vs, hl, d.ext Ext.add⟩) (.ref (by rw [<- rp1.len]; exact Jb))⟩
end
section
variable {X : Cx}
theorem opM {f : Value -> Value -> Sem Value} {g : G2} (h : ∀ pins s σ H x y v u Q as st p q, Inv X pins σ H s -> RelV x v -> RelV y u -> Rep X.K as st H -> Den X.K as H x p -> Den X.K as H y q -> PostO X as H (g p q st) Q ->
 wpAny (model X.prog X.w) X.A (f v u) (EP X pins σ Q) X.xe s) : OpR X f (rM X g) :=
 fun pins s σ H x y v u Q I rx ry ⟨as, st, p, q, rp, d1, d2, po⟩ => h pins s σ H x y v u Q as st p q I rx ry rp d1 d2 po
def okP (p : P) (st : Stor) : Option (P × Stor) := some (p, st)
def newL (xs : List P) (st : Stor) : Option (P × Stor) := if xs.length <= cap then some (.ref st.length, st ++ [.lst xs]) else none
def lstAt (st : Stor) (k : Nat) : Option (List P) := match st[k]? with
 | some (.lst xs) => some xs
 | _ => none
def seqAt (p : P) (st : Stor) : Option (List P) := match p with
 | .tup xs => some xs
 | .ref k => match st[k]? with
  | some (.lst xs) => some xs
  | some (.ro xs) => some xs
  | _ => none
 | _ => none
theorem Ybf {K : PySem.W.Frag} {as : List Addr} {st : Stor} {H : Hp} {k : Nat} {xs : List P} {v : V} (rp : Rep K as st H) (d : Den K as H v (.ref k)) (h : lstAt st k = some xs) :
 ∃ a vs, v = .ref a /\ as[k]? = some a /\ st[k]? = some (.lst xs) /\ H a = some (.lst vs) /\ Dens K as H vs xs := by
 unfold lstAt at h
 cases d with
 | ref e =>
  rename_i a
  cases q : st[k]? with
  | none => rw [q] at h; cases h
  | some o =>
   rw [q] at h
   cases o with
   | lst ys =>
    cases h
    obtain ⟨vs, h1, h2⟩ := rp.ob k a _ e q
    exact ⟨a, vs, rfl, e, rfl, h1, h2⟩
   | ro ys => cases h
   | dct ys => cases h
   | exc c ys => cases h
   | dtt kvs => cases h
   | fdc kvs => cases h
theorem Yc1 {K : PySem.W.Frag} {as : List Addr} {st : Stor} {H : Hp} {p : P} {xs : List P} {v : V} (rp : Rep K as st H) (d : Den K as H v p) (h : seqAt p st = some xs) :
 ∃ a vs, v = .ref a /\ (SqL K H a vs \/ SqT K H a vs) /\ Dens K as H vs xs := by
 unfold seqAt at h
 cases d with
 | ref e =>
  rename_i k a
  simp only at h
  cases q : st[k]? with
  | none => rw [q] at h; cases h
  | some o =>
   rw [q] at h
   have ob := rp.ob k a _ e q
   cases o with
   | lst ys =>
    cases h
    obtain ⟨vs, h1, h2⟩ := ob
    exact ⟨a, vs, rfl, .inl (.of h1), h2⟩
   | ro ys =>
    cases h
    obtain ⟨vs, h1, h2⟩ := ob
    exact ⟨a, vs, rfl, .inl (ZA h1), h2⟩
   | dct ys => cases h
   | exc c ys => cases h
   | dtt kvs => cases h
   | fdc kvs => cases h
 | tup e r => cases h; exact ⟨_, _, rfl, .inr e, r⟩
 | _ => cases h
theorem Yhh {K : PySem.W.Frag} {as : List Addr} {st : Stor} {H : Hp} {p : P} {xs : List P} {v : V} (rp : Rep K as st H) (d : Den K as H v p) (h : seqAt p st = some xs) :
 ∃ a vs, v = .ref a /\ (SqL K H a vs \/ SqT K H a vs /\ H a = some (.tup vs)) /\ Dens K as H vs xs := by
 unfold seqAt at h
 cases d with
 | ref e =>
  rename_i k a
  simp only at h
  cases q : st[k]? with
  | none => rw [q] at h; cases h
  | some o =>
   rw [q] at h
   have ob := rp.ob k a _ e q
   cases o with
   | lst ys =>
    cases h
    obtain ⟨vs, h1, h2⟩ := ob
    exact ⟨a, vs, rfl, .inl (.of h1), h2⟩
   | ro ys =>
    cases h
    obtain ⟨vs, h1, h2⟩ := ob
    exact ⟨a, vs, rfl, .inl (ZA h1), h2⟩
   | dct ys => cases h
   | exc c ys => cases h
   | dtt kvs => cases h
   | fdc kvs => cases h
 | tup e r tk => cases h; exact ⟨_, _, rfl, .inr ⟨e, tk⟩, r⟩
 | _ => cases h
theorem Wm {as : List Addr} {st : Stor} {H : Hp} {xs : List P} {vs : List V} {Q : VK} {l : Addr} (rp : Rep X.K as st H) (d : Dens X.K as H vs xs) (h : PostO X as H (newL xs st) Q) (hl : H l = none) : Q (.ref l) (upd H l (.lst vs)) := by
 unfold newL at h
 by_cases z : xs.length <= cap
 ·rw [if_pos z] at h
  exact h (as ++ [l]) _ _ (Ext.new hl) (rp.lnew hl d) (.ref (by rw [<- rp.len]; exact Jb))
 ·rw [if_neg z] at h; exact h.elim
theorem Yb9 {as : List Addr} {st : Stor} {H : Hp} {xs : List P} {Q : VK} (h : PostO X as H (newL xs st) Q) : xs.length <= sizeLine := by
 unfold newL at h
 by_cases z : xs.length <= cap
 ·exact Nat.le_trans z Yi
 ·rw [if_neg z] at h; exact h.elim
def addP : G2 := fun p q st => match p, q with
 | .int i, .int j => okP (.int (i + j)) st
 | .str x, .str y => if x.length + y.length <= cap then okP (.str (x ++ y)) st else none
 | .tup xs, .tup ys => if xs.length + ys.length <= cap then okP (.tup (xs ++ ys)) st else none
 | .ref k, .ref l => match lstAt st k, lstAt st l with
  | some xs, some ys => newL (xs ++ ys) st
  | _, _ => none
 | _, _ => none
theorem Yf : OpR X (binaryOp .Add) (rM X addP) := opM fun pins s σ H x y v u Q as st p q I rx ry rp d1 d2 h => by
 cases d1 with
 | int =>
  cases d2 with
  | int => exact YiY pins s σ H _ _ v u Q I rx ry ⟨_, _, rfl, rfl, h as H _ Ext.refl rp .int⟩
  | _ => exact h.elim
 | @str x tx hx zx =>
  cases d2 with
  | @str y ty hy zy =>
   have h' : PostO X as H (if x.length + y.length <= cap then okP (.str (x ++ y)) st else none) Q := h
   by_cases z : x.length + y.length <= cap
   ·rw [if_pos z] at h'
    refine Ycx pins s σ H _ _ v u Q I rx ry ⟨_, _, _, _, rfl, rfl, Nat.le_trans z Yi, fun e => ?_, fun e => ?_, mkT rp fun as1 H1 v x r d => h' as1 H1 v x r d⟩
    ·have e2 : x ++ y = y := by rw [show x = Str.empty from YbS e]; exact Str.empty_append y
     exact h' as H _ Ext.refl rp (by rw [e2]; exact .str hy zy)
    ·have e2 : x ++ y = x := by rw [show y = Str.empty from YbS e]; exact Str.append_empty x
     exact h' as H _ Ext.refl rp (by rw [e2]; exact .str hx zx)
   ·rw [if_neg z] at h'; exact h'.elim
  | _ => exact h.elim
 | @tup a vs xs e r tk =>
  cases d2 with
  | @tup b ws ys e2 r2 tk =>
   have h' : PostO X as H (if xs.length + ys.length <= cap then okP (.tup (xs ++ ys)) st else none) Q := h
   by_cases z : xs.length + ys.length <= cap
   ·rw [if_pos z] at h'
    cases rx
    cases ry
    obtain ⟨its, r1, p1, _⟩ := I.tuple e
    obtain ⟨its2, r3, p2, _⟩ := I.tuple e2
    obtain ⟨⟨cls, dd, data, sl⟩, ho, hc, n, hd⟩ := id p1
    obtain ⟨⟨cls2, dd2, data2, sl2⟩, ho2, hc2, n2, hd2⟩ := id p2
    simp only at hc hd hc2 hd2
    subst hc hd hc2 hd2
    by_cases hv : its = []
    ·have hz : xs = [] := List.eq_nil_of_length_eq_zero (by rw [<- r.length, r1.length, hv]; rfl)
     subst hz
     exact concat_meets ⟨_, ho, rfl⟩ ⟨_, ho2, rfl⟩ noFill_tuple_add seq_tuple_add PySem.F.slot_tuple_add PySem.F.entry_tuple_add (PySem.F.args_tuple_add_2 _ _)
      (tuple_addW0 a b its.toArray its2.toArray n n2 dd dd2 sl sl2 (by simp [hv])) ⟨ho, ho2, ⟨.ref b, H, I, rfl, h' as H _ Ext.refl rp (.tup e2 r2)⟩⟩
    ·refine Yhe pins s σ H (.ref a) (.ref b) _ _ Q I rfl rfl ⟨a, b, vs, ws, rfl, rfl, e, e2, fun w => hv (r1.nil_iff.mpr w), ?_, fun w => ?_, fun _ p hp => ?_⟩
     ·rw [r.length, r2.length]; exact Nat.le_trans z Yi
     ·subst w
      cases r2
      refine h' as H _ Ext.refl rp ?_
      rw [List.append_nil]
      exact .tup e r
     ·exact h' as _ _ (Ext.laid hp) (rp.laid hp) (.tup (.of Yh) ((r.append r2).ext (Ext.laid hp)))
   ·rw [if_neg z] at h'; exact h'.elim
  | _ => exact h.elim
 | ref e =>
  rename_i k a
  cases d2 with
  | ref e2 =>
   rename_i l b
   have h' : PostO X as H (match lstAt st k, lstAt st l with | some xs, some ys => newL (xs ++ ys) st | _, _ => none) Q := h
   cases q1 : lstAt st k with
   | none => rw [q1] at h'; exact h'.elim
   | some xs =>
    cases q2 : lstAt st l with
    | none => rw [q1, q2] at h'; exact h'.elim
    | some ys =>
     rw [q1, q2] at h'
     obtain ⟨a', vs, z1, _, _, h1, h2⟩ := Ybf rp (.ref e) q1
     obtain ⟨b', ws, z2, _, _, h3, h4⟩ := Ybf rp (.ref e2) q2
     cases z1; cases z2
     have hn := Yb9 h'
     rw [List.length_append] at hn
     exact Yi9 pins s σ H _ _ v u Q I rx ry ⟨a, b, vs, ws, rfl, rfl, h1, h3, by rw [h2.length, h4.length]; exact hn, fun p hp => Wm rp (h2.append h4) h' hp⟩
  | _ => exact h.elim
 | _ => exact h.elim
def subP : G2 := fun p q st => match p, q with
 | .int i, .int j => okP (.int (i - j)) st
 | _, _ => none
theorem Jw : OpR X (binaryOp .Sub) (rM X subP) := opM fun pins s σ H x y v u Q as st p q I rx ry rp d1 d2 h => by
 cases d1 with
 | int =>
  cases d2 with
  | int => exact YhQ pins s σ H _ _ v u Q I rx ry ⟨_, _, rfl, rfl, h as H _ Ext.refl rp .int⟩
  | _ => exact h.elim
 | _ => exact h.elim
def small64 (i : Int) : Bool := decide (-(2 ^ 64) < i) && decide (i < 2 ^ 64)
def mulP : G2 := fun p q st => match p, q with
 | .int i, .int j => if (small64 i || small64 j) = true then okP (.int (i * j)) st else none
 | _, _ => none
theorem Yiy : OpR X (binaryOp .Mult) (rM X mulP) := opM fun pins s σ H x y v u Q as st p q I rx ry rp d1 d2 h => by
 cases d1 with
 | int =>
  rename_i i
  cases d2 with
  | int =>
   rename_i j
   have h' : PostO X as H (if (small64 i || small64 j) = true then okP (.int (i * j)) st else none) Q := h
   by_cases z : (small64 i || small64 j) = true
   ·rw [if_pos z] at h'
    refine YiR pins s σ H _ _ v u Q I rx ry ⟨_, _, rfl, rfl, ?_, h' as H _ Ext.refl rp .int⟩
    unfold small64 at z
    rcases Bool.or_eq_true_iff.mp z with w | w
    ·exact .inl ⟨of_decide_eq_true (Bool.and_eq_true_iff.mp w).1, of_decide_eq_true (Bool.and_eq_true_iff.mp w).2⟩
    ·exact .inr ⟨of_decide_eq_true (Bool.and_eq_true_iff.mp w).1, of_decide_eq_true (Bool.and_eq_true_iff.mp w).2⟩
   ·rw [if_neg z] at h'; exact h'.elim
  | _ => exact h.elim
 | _ => exact h.elim
def fdivP : G2 := fun p q st => match p, q with
 | .int i, .int j => if 0 < j /\ j < 1073741824 then okP (.int (i / j)) st else none
 | _, _ => none
theorem YG : OpR X (binaryOp .FloorDiv) (rM X fdivP) := opM fun pins s σ H x y v u Q as st p q I rx ry rp d1 d2 h => by
 cases d1 with
 | int =>
  rename_i i
  cases d2 with
  | int =>
   rename_i j
   have h' : PostO X as H (if 0 < j /\ j < 1073741824 then okP (.int (i / j)) st else none) Q := h
   by_cases z : 0 < j /\ j < 1073741824
   ·rw [if_pos z] at h'
    exact YgU pins s σ H _ _ v u Q I rx ry ⟨_, _, rfl, rfl, z, h' as H _ Ext.refl rp .int⟩
   ·rw [if_neg z] at h'; exact h'.elim
  | _ => exact h.elim
 | _ => exact h.elim
def modP : G2 := fun p q st => match p, q with
 | .int i, .int j => if 0 < j then okP (.int (i % j)) st else none
 | _, _ => none
theorem Yt : OpR X (binaryOp .Mod) (rM X modP) := opM fun pins s σ H x y v u Q as st p q I rx ry rp d1 d2 h => by
 cases d1 with
 | int =>
  rename_i i
  cases d2 with
  | int =>
   rename_i j
   have h' : PostO X as H (if 0 < j then okP (.int (i % j)) st else none) Q := h
   by_cases z : 0 < j
   ·rw [if_pos z] at h'
    exact Yh0 pins s σ H _ _ v u Q I rx ry ⟨_, _, rfl, rfl, z, h' as H _ Ext.refl rp .int⟩
   ·rw [if_neg z] at h'; exact h'.elim
  | _ => exact h.elim
 | _ => exact h.elim
def strLt (x y : Str) : Bool := decide (x.cps.toList < y.cps.toList)
def ltP : G2 := fun p q st => match p, q with
 | .int i, .int j => okP (.bl (decide (i < j))) st
 | .str x, .str y => okP (.bl (strLt x y)) st
 | _, _ => none
def leP : G2 := fun p q st => match p, q with
 | .int i, .int j => okP (.bl (decide (i <= j))) st
 | .str x, .str y => okP (.bl (!strLt y x)) st
 | _, _ => none
def gtP : G2 := fun p q st => match p, q with
 | .int i, .int j => okP (.bl (decide (j < i))) st
 | _, _ => none
theorem Ydg : OpR X (compareOp .Lt) (rM X ltP) := opM fun pins s σ H x y v u Q as st p q I rx ry rp d1 d2 h => by
 cases d1 with
 | int =>
  cases d2 with
  | int => exact YjN pins s σ H _ _ v u Q I rx ry ⟨_, _, rfl, rfl, h as H _ Ext.refl rp .bl⟩
  | _ => exact h.elim
 | str =>
  cases d2 with
  | str => exact Yed pins s σ H _ _ v u Q I rx ry ⟨_, _, _, _, rfl, rfl, h as H _ Ext.refl rp .bl⟩
  | _ => exact h.elim
 | _ => exact h.elim
theorem YfF : OpR X (compareOp .LtE) (rM X leP) := opM fun pins s σ H x y v u Q as st p q I rx ry rp d1 d2 h => by
 cases d1 with
 | int =>
  cases d2 with
  | int => exact Yjm pins s σ H _ _ v u Q I rx ry ⟨_, _, rfl, rfl, h as H _ Ext.refl rp .bl⟩
  | _ => exact h.elim
 | str =>
  cases d2 with
  | str =>
   cases rx
   cases ry
   exact PySem.P.le_str ⟨.bl _, H, I, rfl, h as H _ Ext.refl rp .bl⟩
  | _ => exact h.elim
 | _ => exact h.elim
theorem YbV : OpR X (compareOp .Gt) (rM X gtP) := opM fun pins s σ H x y v u Q as st p q I rx ry rp d1 d2 h => by
 cases d1 with
 | int =>
  cases d2 with
  | int => exact Yjx pins s σ H _ _ v u Q I rx ry ⟨_, _, rfl, rfl, h as H _ Ext.refl rp .bl⟩
  | _ => exact h.elim
 | _ => exact h.elim
end
def RS.ofE {α : Type} (ρ : Rho) (r : R α) (f : α -> Stor -> RS) : RS := match r with
 | .ok p st => f p st
 | .exc k st => .exc k ρ st
 | .bad => .bad
@[simp] theorem RS.ofE_ok {α : Type} {ρ : Rho} {p : α} {st : Stor} {f : α -> Stor -> RS} : RS.ofE ρ (.ok p st) f = f p st := rfl
@[simp] theorem RS.ofE_exc {α : Type} {ρ : Rho} {k : Xc} {st : Stor} {f : α -> Stor -> RS} : RS.ofE ρ (.exc k st) f = .exc k ρ st := rfl
@[simp] theorem RS.ofE_bad {α : Type} {ρ : Rho} {f : α -> Stor -> RS} : RS.ofE ρ .bad f = .bad := rfl
def sNil : MS := fun ρ st => .nx ρ st
def RS.seq (r : RS) (m : MS) : RS := match r with
 | .nx ρ st => m ρ st
 | r => r
@[simp] theorem RS.seq_nx {ρ : Rho} {st : Stor} {m : MS} : (RS.nx ρ st).seq m = m ρ st := rfl
@[simp] theorem RS.seq_rt {p : P} {st : Stor} {m : MS} : (RS.rt p st).seq m = .rt p st := rfl
@[simp] theorem RS.seq_bk {ρ : Rho} {st : Stor} {m : MS} : (RS.bk ρ st).seq m = .bk ρ st := rfl
@[simp] theorem RS.seq_ct {ρ : Rho} {st : Stor} {m : MS} : (RS.ct ρ st).seq m = .ct ρ st := rfl
@[simp] theorem RS.seq_exc {k : Xc} {ρ : Rho} {st : Stor} {m : MS} : (RS.exc k ρ st).seq m = .exc k ρ st := rfl
@[simp] theorem RS.seq_bad {m : MS} : RS.bad.seq m = .bad := rfl
def sSeq (m1 m2 : MS) : MS := fun ρ st => (m1 ρ st).seq m2
section
variable {X : Cx} {a b c e : Expr} {me ma : ME} {pos : Pos} {s : Stmt} {rest ss tt : List Stmt} {m m1 m2 : MS} {nc : MT}
theorem PostS.ofE {as : List Addr} {H : Hp} {ρ : Rho} {r : R P} {f : P -> Stor -> RS} {D : Ends} {Q' : VK} (h : PostS X as H (RS.ofE ρ r f) D)
 (go : ∀ p st1 as1 H1 v, Ext as H as1 H1 -> Rep X.K as1 st1 H1 -> Den X.K as1 H1 v p -> PostS X as1 H1 (f p st1) D -> Q' v H1) : Post X as H ρ r Q' := by
 cases r with
 | ok p st1 => exact fun as1 H1 v x rp d => go p st1 as1 H1 v x rp d (PostS.ext x h)
 | exc k st' => exact h
 | bad => exact h
theorem PostS.ofB {as : List Addr} {H : Hp} {ρ : Rho} {r : R Bool} {f : Bool -> Stor -> RS} {D : Ends} {Q' : Bool -> Hp -> Prop} (h : PostS X as H (RS.ofE ρ r f) D)
 (go : ∀ b st1 as1 H1, Ext as H as1 H1 -> Rep X.K as1 st1 H1 -> PostS X as1 H1 (f b st1) D -> Q' b H1) : PostB X as H ρ r Q' := by
 cases r with
 | ok p st1 => exact fun as1 H1 x rp => go p st1 as1 H1 x rp (PostS.ext x h)
 | exc k st' => exact h
 | bad => exact h
theorem Yv : JSs X [] sNil := PSs.imp YgX fun D σ H ⟨as, ρ, st, en, rp, h⟩ => h as H σ Ext.refl rp en
theorem PostS.seq {as : List Addr} {H : Hp} {r : RS} {m : MS} {D : Ends} (h : PostS X as H (r.seq m) D) : PostS X as H r { D with nx := tS X m D } := by
 cases r with
 | nx ρ st => exact fun as' H' σ' x rp en => ⟨as', ρ, st, en, rp, PostS.ext x h⟩
 | rt p st => exact h
 | bk ρ st => exact h
 | ct ρ st => exact h
 | exc k ρ st => exact h
 | bad => exact h
theorem Ygh (h1 : JS X s m1) (h2 : JSs X rest m2) : JSs X (s :: rest) (sSeq m1 m2) :=
 PSs.imp (Ye1 h1 h2) fun D σ H ⟨as, ρ, st, en, rp, h⟩ => ⟨as, ρ, st, en, rp, PostS.seq h⟩
theorem Yc (h1 : JS X s m1) : JSs X [s] m1 := Ygy h1
def sRet (me : ME) : MS := fun ρ st => RS.ofE ρ (me ρ st) fun p st1 => .rt p st1
def sDrop (me : ME) : MS := fun ρ st => RS.ofE ρ (me ρ st) fun _ st1 => .nx ρ st1
def sSet (i : Nat) (me : ME) : MS := fun ρ st => RS.ofE ρ (me ρ st) fun p st1 => .nx (ρ.set i (some p)) st1
def sIf (nc : MT) (m1 m2 : MS) : MS := fun ρ st => RS.ofE ρ (nc ρ st) fun c st1 => if c = true then m1 ρ st1 else m2 ρ st1
def sBreak : MS := fun ρ st => .bk ρ st
theorem Yk (he : JE X e me) : JS X (.Return (some e) pos) (sRet me) :=
 PS.imp (Yjb he) fun D σ H ⟨as, ρ, st, en, rp, h⟩ => ⟨as, ρ, st, en, rp, PostS.ofE h fun p st1 as1 H1 v x rp1 d h1 => h1 as1 H1 v Ext.refl rp1 d⟩
theorem YaS (he : JE X e me) (hs : swapsWith e none pos.line X.env = pure false := by rfl) : JS X (.Expr e pos) (sDrop me) :=
 PS.imp (YgS he hs) fun D σ H ⟨as, ρ, st, en, rp, h⟩ => ⟨as, ρ, st, en, rp, PostS.ofE h fun p st1 as1 H1 v x rp1 d h1 => h1 as1 H1 σ Ext.refl rp1 (en.ext x)⟩
theorem YfH : JS X (.Break pos) sBreak := PS.imp Ygk fun D σ H ⟨as, ρ, st, en, rp, h⟩ => h as H σ Ext.refl rp en
theorem Yjd {i : Nat} {x : Str} {pos' : Pos} (hN : X.N.Nodup) (hi : X.N[i]? = some x) (hx : Loc X.env.scope x) (he : JE X e me) (hs : swapsWith e (some (.Name x pos')) pos.line X.env = pure false := by rfl) (hf : X.fn x = true \/ X.env.scope.names.lookup x = some .local := by first | exact .inl rfl | exact .inr rfl | assumption) :
 JS X (.Assign [.Name x pos'] e pos) (sSet i me) :=
 PS.imp (Yiq hN hi hx he hs hf) fun D σ H ⟨as, ρ, st, en, rp, h⟩ => ⟨as, ρ, st, en, rp, PostS.ofE h fun p st1 as1 H1 v x rp1 d h1 => h1 as1 H1 _ Ext.refl rp1 ((en.ext x).set d)⟩
theorem Y6 (hc : JT X c nc) (h1 : JSs X ss m1) (h2 : JSs X tt m2) : JS X (.If c ss tt pos) (sIf nc m1 m2) :=
 PS.imp (Yjs hc h1 h2) fun D σ H ⟨as, ρ, st, en, rp, h⟩ => ⟨as, ρ, st, en, rp, PostS.ofB h fun k st1 as1 H1 x rp1 h1 => by
  cases k with
  | true => rw [if_pos rfl] at h1 ⊢; exact ⟨as1, ρ, st1, en.ext x, rp1, h1⟩
  | false => rw [if_neg Bool.false_ne_true] at h1 ⊢; exact ⟨as1, ρ, st1, en.ext x, rp1, h1⟩⟩
def whileN (nc : MT) (m : MS) : Nat -> Rho -> Stor -> RS
 | 0, _, _ => .bad
 | n + 1, ρ, st => RS.ofE ρ (nc ρ st) fun c st1 => if c = true then
  match m ρ st1 with
  | .nx ρ' st' => whileN nc m n ρ' st'
  | .ct ρ' st' => whileN nc m n ρ' st'
  | .bk ρ' st' => .nx ρ' st'
  | r => r
  else .nx ρ st1
def turns : Nat := 1000000
def sWhile (nc : MT) (m : MS) : MS := whileN nc m turns
theorem Yfi {pos : Pos} (hp : PassesOwn (model X.prog X.w) X.A X.env X.xe) (hc : JT X c nc) (hb : JSs X ss m) : JS X (.While c ss [] pos) (sWhile nc m) :=
 PS.imp (Yfz hp hc hb) fun D σ H ⟨as, ρ, st, en, rp, h⟩ => by
  refine ⟨fun n σ H => ∃ as ρ st, EnvOk X.K as H ρ σ /\ Rep X.K as st H /\ PostS X as H (whileN nc m n ρ st) D, ⟨turns, as, ρ, st, en, rp, h⟩, ?_⟩
  rintro n σ H ⟨as, ρ, st, en, rp, h⟩
  cases n with
  | zero => exact h.elim
  | succ n =>
   refine ⟨as, ρ, st, en, rp, PostS.ofB h fun k st1 as1 H1 x rp1 h1 => ?_⟩
   cases k with
   | false => rw [if_neg Bool.false_ne_true] at h1 ⊢; exact h1 as1 H1 σ Ext.refl rp1 (en.ext x)
   | true =>
    rw [if_pos rfl] at h1 ⊢
    refine ⟨fun σ' H' => ∃ as ρ st, EnvOk X.K as H' ρ σ' /\ Rep X.K as st H' /\ PostS X as H' (whileN nc m n ρ st) D, fun σ' H' q => ⟨n, Nat.lt_succ_self n, q⟩, as1, ρ, st1, en.ext x, rp1, ?_⟩
    cases q : m ρ st1 with
    | nx ρ' st' => rw [q] at h1; exact fun as' H' σ' x rp en => ⟨as', ρ', st', en, rp, PostS.ext x h1⟩
    | ct ρ' st' => rw [q] at h1; exact fun as' H' σ' x rp en => ⟨as', ρ', st', en, rp, PostS.ext x h1⟩
    | bk ρ' st' => rw [q] at h1; exact h1
    | rt p st' => rw [q] at h1; exact h1
    | exc k ρ' st' => rw [q] at h1; exact h1
    | bad => rw [q] at h1; exact h1
abbrev MG := P -> Rho -> Stor -> Option Rho
abbrev MGs := List P -> Rho -> Stor -> Option Rho
def tG (X : Cx) (g : MG) : TG := fun v σ H Q => ∃ as ρ st p ρ', EnvOk X.K as H ρ σ /\ Rep X.K as st H /\ Den X.K as H v p /\ g p ρ st = some ρ' /\ ∀ σ', EnvOk X.K as H ρ' σ' -> Q σ' H
def tGs (X : Cx) (g : MGs) : TGs := fun vs σ H Q => ∃ as ρ st ps ρ', EnvOk X.K as H ρ σ /\ Rep X.K as st H /\ Dens X.K as H vs ps /\ g ps ρ st = some ρ' /\ ∀ σ', EnvOk X.K as H ρ' σ' -> Q σ' H
abbrev JG (X : Cx) (t : Expr) (g : MG) : Prop := PG X t (tG X g)
abbrev JGs (X : Cx) (ts : List Expr) (g : MGs) : Prop := PGs X ts (tGs X g)
theorem PG.imp {t t' : TG} (h : PG X e t) (i : ∀ v σ H Q, t' v σ H Q -> t v σ H Q) : PG X e t' := fun pins s σ H v u Q I r q => h pins s σ H v u Q I r (i v σ H Q q)
theorem PGs.imp {es : List Expr} {t t' : TGs} (h : PGs X es t) (i : ∀ v σ H Q, t' v σ H Q -> t v σ H Q) : PGs X es t' := fun pins s σ H v u Q I r q => h pins s σ H v u Q I r (i v σ H Q q)
def mgName (i : Nat) : MG := fun p ρ _ => some (ρ.set i (some p))
def mgNil : MGs := fun ps ρ _ => match ps with
 | [] => some ρ
 | _ => none
def mgCons (g : MG) (r : MGs) : MGs := fun ps ρ st => match ps with
 | p :: qs => (g p ρ st).bind fun ρ1 => r qs ρ1 st
 | [] => none
theorem YgM {i : Nat} {x : Str} (hN : X.N.Nodup) (hi : X.N[i]? = some x) (hx : Loc X.env.scope x) (hf : X.fn x = true \/ X.env.scope.names.lookup x = some .local := by first | exact .inl rfl | exact .inr rfl | assumption) : JG X (.Name x pos) (mgName i) :=
 PG.imp (Yhz hN hi hx hf) fun v σ H Q ⟨as, ρ, st, p, ρ', en, rp, d, g, h⟩ => by cases g; exact h _ (en.set d)
theorem Zv : JGs X [] mgNil := PGs.imp Yhv fun vs σ H Q ⟨as, ρ, st, ps, ρ', en, rp, d, g, h⟩ => by
 cases d with
 | nil => cases g; exact ⟨rfl, h _ en⟩
 | cons a b => cases g
theorem YfI {es : List Expr} {g : MG} {r : MGs} (h1 : JG X e g) (h2 : JGs X es r) (hs : (assignEach (e :: es) X.env).map (·.2) = assign e X.env :: (assignEach es X.env).map (·.2) := by rfl) : JGs X (e :: es) (mgCons g r) :=
 PGs.imp (YeS h1 h2 hs) fun vs σ H Q ⟨as, ρ, st, ps, ρ', en, rp, d, q, h⟩ => by
  cases d with
  | nil => cases q
  | @cons v p vs ps a b =>
   have q' : (g p ρ st).bind (fun ρ1 => r ps ρ1 st) = some ρ' := q
   cases z : g p ρ st with
   | none => rw [z] at q'; cases q'
   | some ρ1 =>
    rw [z] at q'
    exact ⟨v, vs, rfl, as, ρ, st, p, ρ1, en, rp, a, z, fun σ' en' => ⟨as, ρ1, st, ps, ρ', en', rp, b, q', h⟩⟩
structure Src where
 n : Nat
 nx : Nat -> Stor -> Option (Option P)
abbrev MI := Rho -> Stor -> R Src
structure ItOk (K : PySem.W.Frag) (as : List Addr) (H : Hp) (src : Src) (J : It) : Prop where
 go : ∀ i as2 st2 H2 p, Ext as H as2 H2 -> Rep K as2 st2 H2 -> src.nx i st2 = some (some p) -> J.go i H2 /\ ∀ x H3, J.yld i H2 x H3 -> Ext as2 H2 as2 H3 /\ Rep K as2 st2 H3 /\ Den K as2 H3 x p
 stop : ∀ i as2 st2 H2, Ext as H as2 H2 -> Rep K as2 st2 H2 -> src.nx i st2 = some none -> J.stop i H2
def PostI (X : Cx) (as : List Addr) (H : Hp) (ρ : Rho) (r : R Src) (Q : It -> Hp -> Prop) : Prop :=
 match r with
 | .ok src st' => ∀ as' H' J, Ext as H as' H' -> Rep X.K as' st' H' -> ItOk X.K as' H' src J -> Q J H'
 | .exc k st' => XOk X as H ρ k st'
 | .bad => False
def tI (X : Cx) (m : MI) : TI := fun σ H R => ∃ as ρ st, EnvOk X.K as H ρ σ /\ Rep X.K as st H /\ PostI X as H ρ (m ρ st) R
abbrev JI (X : Cx) (tg iter : Expr) (m : MI) : Prop := PI X tg iter (tI X m)
def forN (src : Src) (g : MG) (m : MS) : Nat -> Nat -> Rho -> Stor -> RS
 | 0, i, ρ, st => match src.nx i st with
  | some none => .nx ρ st
  | _ => .bad
 | n + 1, i, ρ, st => match src.nx i st with
  | some none => .nx ρ st
  | none => .bad
  | some (some p) => match g p ρ st with
   | none => .bad
   | some ρ1 => match m ρ1 st with
    | .nx ρ' st' => forN src g m n (i + 1) ρ' st'
    | .ct ρ' st' => forN src g m n (i + 1) ρ' st'
    | .bk ρ' st' => .nx ρ' st'
    | r => r
def sFor (mi : MI) (g : MG) (m : MS) : MS := fun ρ st => RS.ofE ρ (mi ρ st) fun src st1 => forN src g m src.n 0 ρ st1
theorem ZP {tg iter : Expr} {mi : MI} {g : MG} {pos : Pos} (hp : PassesOwn (model X.prog X.w) X.A X.env X.xe) (hc : X.calm = true) (hi : JI X tg iter mi) (hg : JG X tg g) (hb : JSs X ss m)
 (hs : ∀ x, foldedSetIterable iter X.env x = pure x := by intro _; rfl) : JS X (.For tg iter ss [] pos) (sFor mi g m) :=
 PS.imp (YiS hp hc hi hg hb hs) fun D σ H ⟨as, ρ, st, en, rp, h⟩ => by
  refine ⟨as, ρ, st, en, rp, ?_⟩
  unfold sFor at h
  cases q : mi ρ st with
  | bad => rw [q] at h; exact h
  | exc k st' => rw [q] at h; exact h
  | ok src st1 =>
   rw [q] at h
   intro as1 H1 J x rp1 ok
   have h1 : PostS X as1 H1 (forN src g m src.n 0 ρ st1) D := PostS.ext x h
   refine ⟨fun i n σ H => ∃ as ρ st, Ext as1 H1 as H /\ EnvOk X.K as H ρ σ /\ Rep X.K as st H /\ PostS X as H (forN src g m n i ρ st) D, ⟨src.n, as1, ρ, st1, Ext.refl, en.ext x, rp1, h1⟩, ?_⟩
   rintro i n σ H ⟨as2, ρ, st2, x2, en, rp2, h⟩
   have stopC : src.nx i st2 = some none -> PostS X as2 H (.nx ρ st2) D -> J.stop i H /\ D.nx σ H := fun e p => ⟨ok.stop i as2 st2 H x2 rp2 e, p as2 H σ Ext.refl rp2 en⟩
   cases n with
   | zero =>
    cases e : src.nx i st2 with
    | none => simp only [forN, e] at h; exact h.elim
    | some o =>
     cases o with
     | some p => simp only [forN, e] at h; exact h.elim
     | none => simp only [forN, e] at h; exact .inl (stopC e h)
   | succ n =>
    cases e : src.nx i st2 with
    | none => simp only [forN, e] at h; exact h.elim
    | some o =>
     cases o with
     | none => simp only [forN, e] at h; exact .inl (stopC e h)
     | some p =>
      obtain ⟨g1, g2⟩ := ok.go i as2 st2 H p x2 rp2 e
      cases z : g p ρ st2 with
      | none => simp only [forN, e, z] at h; exact h.elim
      | some ρ1 =>
       simp only [forN, e, z] at h
       refine .inr ⟨g1, fun σ' H' => ∃ as ρ st, Ext as1 H1 as H' /\ EnvOk X.K as H' ρ σ' /\ Rep X.K as st H' /\ PostS X as H' (forN src g m n (i + 1) ρ st) D, fun σ' H' q => ⟨n, Nat.lt_succ_self n, q⟩, fun v H3 y => ?_⟩
       obtain ⟨x3, rp3, d⟩ := g2 v H3 y
       refine ⟨as2, ρ, st2, p, ρ1, en.ext x3, rp3, d, z, fun σ2 en2 => ⟨as2, ρ1, st2, en2, rp3, ?_⟩⟩
       have h := PostS.ext x3 h
       cases w : m ρ1 st2 with
       | nx ρ' st' => rw [w] at h; exact fun as' H' σ' x4 rp en => ⟨as', ρ', st', (x2.trans x3).trans x4, en, rp, PostS.ext x4 h⟩
       | ct ρ' st' => rw [w] at h; exact fun as' H' σ' x4 rp en => ⟨as', ρ', st', (x2.trans x3).trans x4, en, rp, PostS.ext x4 h⟩
       | bk ρ' st' => rw [w] at h; exact h
       | rt p st' => rw [w] at h; exact h
       | exc k ρ' st' => rw [w] at h; exact h
       | bad => rw [w] at h; exact h
end
def ItR (X : Cx) (tg : Expr) (r : V -> Hp -> (It -> Hp -> Prop) -> Prop) : Prop :=
 ∀ (pins : List (Addr × Obj)) (s : Shared) (σ : St) (H : Hp) (x : V) (v : Value) (R : It -> Hp -> Prop), Inv X pins σ H s -> RelV x v -> r x H R -> wpAny (model X.prog X.w) X.A (pyIter v) (PIE X pins σ tg R) X.xe s
def Its (z : Str) : It := ⟨fun i _ => i < z.cps.size, fun i H x H' => ∃ c t, z.cps[i]? = some c /\ H.τ t = none /\ t ≠ 0 /\ x = .str ⟨#[c]⟩ t /\ H' = H.put t ⟨#[c]⟩, fun i _ => i = z.cps.size⟩
section
variable {X : Cx} {tg : Expr}
theorem Ygu : ItR X tg (fun x H R => ∃ a, x = .ref a /\ (∃ xs, SqL X.K H a xs) /\ R (Itl X.K a) H) := by
 intro pins s σ H x v R I rx h
 obtain ⟨a, rfl, ⟨xs, hq⟩, q⟩ := h
 cases rx
 obtain ⟨its, rv, p, hz⟩ := I.list hq
 refine wpAny_pyIter_list p.isList ?_
 refine ⟨s.heap.objs.size, [s.heap.objs.size], _, _, H, rfl, I.kept (t' := s.toks) fun b o e => Heap.get?_push_of_some _ e, YdD a _, ⟨_, Heap.get?_push_size _ rfl, rfl, rfl⟩, fun b hb => ?_, q⟩
 have e : b = s.heap.objs.size := by simpa using hb
 subst e
 exact I.fpOk (Nat.le_refl _) (I.hok.fresh (Nat.le_refl _))
theorem Yiw : ItR X tg (fun x H R => ∃ a, x = .ref a /\ (∃ xs, SqT X.K H a xs) /\ R (Itt X.K a) H) := by
 intro pins s σ H x v R I rx h
 obtain ⟨a, rfl, ⟨xs, hq⟩, q⟩ := h
 cases rx
 obtain ⟨its, rv, p, hz⟩ := I.tuple hq
 refine wpAny_pyIter_tuple (show s.heap.IsTuple a its.toArray from p) ?_
 refine ⟨s.heap.objs.size, [s.heap.objs.size], _, _, H, rfl, I.kept (t' := s.toks) fun b o e => Heap.get?_push_of_some _ e, YcM a _, ⟨_, Heap.get?_push_size _ rfl, rfl, rfl⟩, fun b hb => ?_, q⟩
 have e : b = s.heap.objs.size := by simpa using hb
 subst e
 exact I.fpOk (Nat.le_refl _) (I.hok.fresh (Nat.le_refl _))
theorem Ybs {P : Program} {w : World} {K : PySem.W.Frag} {n : String} {z : Str} {t : Tok} (it : Addr)
 (hn : ["enumerate", "zip", "dict_itemiterator", "dict_reverseitemiterator", "odict_iterator", "itertools.zip_longest", "itertools.pairwise"].contains n = false)
 (W : ∀ A : Around, A.handled = none -> Walks P w A it [it] [it] z.cps.size (SignAt z) (fun i h => h.IsStrIter it n z t i))
 (W1 : ∀ (A : Around) (i c : Nat) (s : Shared) (Q : Option Value -> Shared -> Prop) (E : Value -> Shared -> Prop), s.heap.IsStrIter it n z t i -> z.cps[i]? = some c -> (∀ h', h'.IsStrIter it n z t (i + 1) -> Heap.SameBut it s.heap h' -> Q (some (.str ⟨#[c]⟩ s.toks)) { s with heap := h', toks := s.toks + 1 }) -> wpAny (model P w) A (pyNext (.ref it)) Q E s)
 (sf : ∀ (A : Around) (i : Nat) (s : Shared) (Q : Value -> Shared -> Prop) (E : Value -> Shared -> Prop), s.heap.IsStrIter it n z t i -> Q (.ref it) s -> wpAny (model P w) A (pyIter (.ref it)) Q E s) : Turn P w K tg (Its z) [it] it (fun i h => h.IsStrIter it n z t i) where
 mem := by simp
 obj := fun i h st b hb => by
  have e : b = it := by simpa using hb
  subst e
  obtain ⟨o, e, c, d⟩ := st
  exact ⟨o, e, fun v z => by rw [d] at z; cases z⟩
 keep := fun i h h' st k => by
  obtain ⟨o, e, r⟩ := st
  exact ⟨o, k it (by simp) o e, r⟩
 item := by
  intro X hP hw hK hc i pins s σ H E I hf st hg
  subst hP hw hK
  obtain ⟨f0, f1, f2, f3, f4, f5⟩ := hf it (by simp)
  obtain ⟨c, hc'⟩ : ∃ c, z.cps[i]? = some c := ⟨z.cps[i]'(show i < z.cps.size from hg), Array.getElem?_eq_getElem (show i < z.cps.size from hg)⟩
  refine W1 X.A i c s _ _ st hc' fun h' st' sb => ?_
  have I1 : Inv X pins σ H { s with heap := h' } := I.turned (t' := s.toks) (fun b o hb e => (sb.2 b hb).trans e) f0 f1 f3 f4 f5
  have I2 : Inv X pins σ (H.put s.toks ⟨#[c]⟩) { s with heap := h', toks := s.toks + 1 } := I1.txt (t := s.toks) (m := s.toks + 1) (Nat.le_refl _) (Nat.lt_succ_self _)
  obtain ⟨o, e, c', d⟩ := id st'
  exact ⟨_, rfl, Ydf (s := { s with heap := h', toks := s.toks + 1 }) e c' d hn ⟨.str ⟨#[c]⟩ s.toks, _, I2, rfl, ⟨c, s.toks, hc', I.fresh_tok.1, I.fresh_tok.2, rfl, rfl⟩, st', fun b hb => (hf b hb).1⟩⟩
 done := by
  intro X hP hw hK hc i pins s σ H E I hf st hg
  subst hP hw hK
  obtain ⟨f0, f1, f2, f3, f4, f5⟩ := hf it (by simp)
  have e : i = z.cps.size := hg
  subst e
  exact Tk.wpAny_le ((W X.A (I.ok.hd hc)).done s _ _ st fun h' tk kk le => ⟨rfl, I.turned (fun b o hb e => kk b o (by simpa using hb) e) f0 f1 f3 f4 f5 le⟩)
 self := fun A i s Q E st h => sf A i s Q E st h
theorem Yit : ItR X tg (fun x H R => ∃ z t, x = .str z t /\ R (Its z) H) := by
 intro pins s σ H x v R I rx h
 obtain ⟨z, t, rfl, q⟩ := h
 cases rx
 have fp : ∀ b ∈ [s.heap.objs.size], FpOk X pins H b := fun b hb => by
  have e : b = s.heap.objs.size := by simpa using hb
  subst e
  exact I.fpOk (Nat.le_refl _) (I.hok.fresh (Nat.le_refl _))
 cases ha : z.cps.all (· < 128)
 ·refine wpAny_pyIter_wide ha ?_
  exact ⟨s.heap.objs.size, [s.heap.objs.size], _, _, H, rfl, I.kept (t' := s.toks) fun b o e => Heap.get?_push_of_some _ e, Ybs _ (by decide) (fun A hA => Walks.strWide hA _ z t) (fun A i c s Q E st hx hq => wpAny_pyNext_wide_item st hx hq) (fun A i s Q E st h => wpAny_pyIter_striter_wide st h), ⟨_, Heap.get?_push_size _ rfl, rfl, rfl⟩, fp, q⟩
 ·refine wpAny_pyIter_ascii ha ?_
  exact ⟨s.heap.objs.size, [s.heap.objs.size], _, _, H, rfl, I.kept (t' := s.toks) fun b o e => Heap.get?_push_of_some _ e, Ybs _ (by decide) (fun A hA => Walks.strAscii hA _ z t) (fun A i c s Q E st hx hq => wpAny_pyNext_ascii_item st hx hq) (fun A i s Q E st h => wpAny_pyIter_striter_ascii st h), ⟨_, Heap.get?_push_size _ rfl, rfl, rfl⟩, fp, q⟩
def signP (c : Nat) : P := .str ⟨#[c]⟩
def srcL (xs : List P) : Src := ⟨xs.length, fun i _ => some xs[i]?⟩
def srcS (z : Str) : Src := ⟨z.cps.size, fun i _ => if i < z.cps.size then some ((z.cps[i]?).map signP) else if i = z.cps.size then some none else none⟩
def srcK (k : Nat) (n : Nat) : Src := ⟨n, fun i st => match st[k]? with
 | some (.lst ys) => some ys[i]?
 | some (.ro ys) => some ys[i]?
 | _ => none⟩
def srcOf (p : P) (st : Stor) : Option Src := match p with
 | .tup xs => some (srcL xs)
 | .str z => some (srcS z)
 | .ref k => match st[k]? with
  | some (.lst xs) => some (srcK k xs.length)
  | some (.ro xs) => some (srcK k xs.length)
  | _ => none
 | _ => none
theorem Yap {K : PySem.W.Frag} {as : List Addr} {H : Hp} {k n : Nat} {a : Addr} (hk : as[k]? = some a) : ItOk K as H (srcK k n) (Itl K a) where
 go := fun i as2 st2 H2 p x rp e => by
  have hk2 := x.pre k a hk
  have e' : (match st2[k]? with | some (.lst ys) => some ys[i]? | some (.ro ys) => some ys[i]? | _ => none) = some (some p) := e
  cases q : st2[k]? with
  | none => rw [q] at e'; cases e'
  | some o =>
   rw [q] at e'
   have ob := rp.ob k a o hk2 q
   cases o with
   | lst ys =>
    obtain ⟨vs, h1, h2⟩ := ob
    obtain ⟨v, h3, h4⟩ := h2.get (Option.some.inj e')
    exact ⟨⟨vs, v, .of h1, h3⟩, fun y H3 ⟨z1, z2⟩ => by subst z1; rw [z2 vs (.of h1)] at h3; cases h3; exact ⟨Ext.refl, rp, h4⟩⟩
   | ro ys =>
    obtain ⟨vs, h1, h2⟩ := ob
    obtain ⟨v, h3, h4⟩ := h2.get (Option.some.inj e')
    exact ⟨⟨vs, v, ZA h1, h3⟩, fun y H3 ⟨z1, z2⟩ => by subst z1; rw [z2 vs (ZA h1)] at h3; cases h3; exact ⟨Ext.refl, rp, h4⟩⟩
   | dct ys => cases e'
   | exc c ys => cases e'
   | dtt kvs => cases e'
   | fdc kvs => cases e'
 stop := fun i as2 st2 H2 x rp e => by
  have hk2 := x.pre k a hk
  have e' : (match st2[k]? with | some (.lst ys) => some ys[i]? | some (.ro ys) => some ys[i]? | _ => none) = some none := e
  cases q : st2[k]? with
  | none => rw [q] at e'; cases e'
  | some o =>
   rw [q] at e'
   have ob := rp.ob k a o hk2 q
   cases o with
   | lst ys =>
    obtain ⟨vs, h1, h2⟩ := ob
    exact ⟨vs, .of h1, by rw [h2.length]; exact List.getElem?_eq_none_iff.mp (Option.some.inj e')⟩
   | ro ys =>
    obtain ⟨vs, h1, h2⟩ := ob
    exact ⟨vs, ZA h1, by rw [h2.length]; exact List.getElem?_eq_none_iff.mp (Option.some.inj e')⟩
   | dct ys => cases e'
   | exc c ys => cases e'
   | dtt kvs => cases e'
   | fdc kvs => cases e'
theorem Yfw {K : PySem.W.Frag} {as : List Addr} {H : Hp} {a : Addr} {vs : List V} {xs : List P} (h1 : SqT K H a vs) (h2 : Dens K as H vs xs) : ItOk K as H (srcL xs) (Itt K a) where
 go := fun i as2 st2 H2 p x rp e => by
  have e' : some xs[i]? = some (some p) := e
  obtain ⟨v, h3, h4⟩ := (h2.ext x).get (Option.some.inj e')
  exact ⟨⟨vs, v, SqT.ext x h1, h3⟩, fun y H3 ⟨z1, z2⟩ => by subst z1; rw [z2 vs (SqT.ext x h1)] at h3; cases h3; exact ⟨Ext.refl, rp, h4⟩⟩
 stop := fun i as2 st2 H2 x rp e => by
  have e' : some xs[i]? = some none := e
  exact ⟨vs, SqT.ext x h1, by rw [h2.length]; exact List.getElem?_eq_none_iff.mp (Option.some.inj e')⟩
theorem Yf0 {K : PySem.W.Frag} {as : List Addr} {H : Hp} {z : Str} : ItOk K as H (srcS z) (Its z) where
 go := fun i as2 st2 H2 p x rp e => by
  have e' : (if i < z.cps.size then some ((z.cps[i]?).map signP) else if i = z.cps.size then some none else none) = some (some p) := e
  by_cases hi : i < z.cps.size
  ·rw [if_pos hi] at e'
   refine ⟨hi, fun y H3 ⟨c, t, z2, hn, hz, z3, z1⟩ => ?_⟩
   subst z1; subst z3
   rw [z2] at e'
   cases Option.some.inj (Option.some.inj e')
   exact ⟨Ext.put hn, rp.put hn, .str (if_pos rfl) hz⟩
  ·rw [if_neg hi] at e'
   by_cases hj : i = z.cps.size
   ·rw [if_pos hj] at e'; cases e'
   ·rw [if_neg hj] at e'; cases e'
 stop := fun i as2 st2 H2 x rp e => by
  have e' : (if i < z.cps.size then some ((z.cps[i]?).map signP) else if i = z.cps.size then some none else none) = some none := e
  by_cases hi : i < z.cps.size
  ·rw [if_pos hi] at e'
   have := Option.some.inj e'
   simp [hi] at this
  ·rw [if_neg hi] at e'
   by_cases hj : i = z.cps.size
   ·exact hj
   ·rw [if_neg hj] at e'; cases e'
def iVal (me : ME) : MI := fun ρ st => (me ρ st).bind fun p st1 => match srcOf p st1 with
 | some s => .ok s st1
 | none => .bad
theorem PostI.ext {as as1 : List Addr} {H H1 : Hp} {ρ : Rho} {r : R Src} {Q : It -> Hp -> Prop} (x : Ext as H as1 H1) (h : PostI X as H ρ r Q) : PostI X as1 H1 ρ r Q := by
 cases r with
 | ok p st' => exact fun as' H' J y => h as' H' J (x.trans y)
 | exc k st' => exact XOk.ext x h
 | bad => exact h
theorem PostI.bindE {as : List Addr} {H : Hp} {ρ : Rho} {r : R P} {f : P -> Stor -> R Src} {Q : It -> Hp -> Prop} {Q' : VK} (h : PostI X as H ρ (r.bind f) Q)
 (go : ∀ p st1 as1 H1 v, Ext as H as1 H1 -> Rep X.K as1 st1 H1 -> Den X.K as1 H1 v p -> PostI X as1 H1 ρ (f p st1) Q -> Q' v H1) : Post X as H ρ r Q' := by
 cases r with
 | ok p st1 => exact fun as1 H1 v x rp d => go p st1 as1 H1 v x rp d (PostI.ext x h)
 | exc k st' => exact h
 | bad => exact h
theorem PostI.bindA {as : List Addr} {H : Hp} {ρ : Rho} {r : R (List P)} {f : List P -> Stor -> R Src} {Q : It -> Hp -> Prop} {Q' : List V -> Hp -> Prop} (h : PostI X as H ρ (r.bind f) Q)
 (go : ∀ p st1 as1 H1 v, Ext as H as1 H1 -> Rep X.K as1 st1 H1 -> Dens X.K as1 H1 v p -> PostI X as1 H1 ρ (f p st1) Q -> Q' v H1) : PostA X as H ρ r Q' := by
 cases r with
 | ok p st1 => exact fun as1 H1 v x rp d => go p st1 as1 H1 v x rp d (PostI.ext x h)
 | exc k st' => exact h
 | bad => exact h
theorem PostI.bindL {as : List Addr} {H : Hp} {ρ : Rho} {r : R (List P)} {f : List P -> Stor -> R Src} {Q : It -> Hp -> Prop} {Q' : VK} (h : PostI X as H ρ (r.bind f) Q)
 (go : ∀ ps st1 as1 H1 l vs, Ext as H as1 H1 -> Rep X.K as1 st1 H1 -> H1 l = some (.lst vs) -> Fresh as1 st1 l -> Dens X.K as1 H1 vs ps -> PostI X as1 H1 ρ (f ps st1) Q -> Q' (.ref l) H1) : PostL X as H ρ r Q' := by
 cases r with
 | ok p st1 => exact fun as1 H1 l v x rp hl nl d => go p st1 as1 H1 l v x rp hl nl d (PostI.ext x h)
 | exc k st' => exact h
 | bad => exact h
theorem Yin : ItR X tg (fun x H R => (∃ a, x = .ref a /\ (∃ xs, SqL X.K H a xs) /\ R (Itl X.K a) H) \/ (∃ a, x = .ref a /\ (∃ xs, SqT X.K H a xs) /\ R (Itt X.K a) H) \/ ∃ z t, x = .str z t /\ R (Its z) H) := by
 intro pins s σ H x v R I rx h
 rcases h with h | h | h
 ·exact Ygu pins s σ H x v R I rx h
 ·exact Yiw pins s σ H x v R I rx h
 ·exact Yit pins s σ H x v R I rx h
theorem YI {e : Expr} {me : ME} (he : JE X e me) : JI X tg e (iVal me) := by
 intro pins s σ H R I ⟨as, ρ, st, en, rp, h⟩
 refine thn (he pins s σ H (fun x H1 => (∃ a, x = .ref a /\ (∃ xs, SqL X.K H1 a xs) /\ R (Itl X.K a) H1) \/ (∃ a, x = .ref a /\ (∃ xs, SqT X.K H1 a xs) /\ R (Itt X.K a) H1) \/ ∃ z t, x = .str z t /\ R (Its z) H1) I
  ⟨as, ρ, st, en, rp, PostI.bindE h fun p st1 as1 H1 v x rp1 d h1 => ?_⟩) fun v s1 ⟨x, H1, I1, r1, q1⟩ => Yin pins s1 σ H1 x v R I1 r1 q1
 cases d with
 | str => exact .inr (.inr ⟨_, _, rfl, h1 as1 H1 _ Ext.refl rp1 Yf0⟩)
 | tup e r => exact .inr (.inl ⟨_, rfl, ⟨_, e⟩, h1 as1 H1 _ Ext.refl rp1 (Yfw e r)⟩)
 | ref e =>
  rename_i k a
  have h2 : PostI X as1 H1 ρ (match (match st1[k]? with | some (.lst xs) => some (srcK k xs.length) | some (.ro xs) => some (srcK k xs.length) | _ => none) with | some s => .ok s st1 | none => .bad) R := h1
  cases q : st1[k]? with
  | none => rw [q] at h2; exact h2.elim
  | some o =>
   rw [q] at h2
   have ob := rp1.ob k a o e q
   cases o with
   | lst ys => obtain ⟨vs, g1, g2⟩ := ob; exact .inl ⟨a, rfl, ⟨vs, .of g1⟩, h2 as1 H1 _ Ext.refl rp1 (Yap e)⟩
   | ro ys => obtain ⟨vs, g1, g2⟩ := ob; exact .inl ⟨a, rfl, ⟨vs, ZA g1⟩, h2 as1 H1 _ Ext.refl rp1 (Yap e)⟩
   | dct ys => exact h2.elim
   | exc c ys => exact h2.elim
   | dtt kvs => exact h2.elim
   | fdc kvs => exact h2.elim
 | _ => exact h1.elim
def srcR (lo : Int) (n : Nat) : Src := ⟨n, fun i _ => some (if i < n then some (.int (lo + i)) else none)⟩
theorem YcW {K : PySem.W.Frag} {as : List Addr} {H : Hp} {lo : Int} {n : Nat} : ItOk K as H (srcR lo n) (Itr lo n) where
 go := fun i as2 st2 H2 p x rp e => by
  have e' : some (if i < n then some (P.int (lo + i)) else none) = some (some p) := e
  by_cases hi : i < n
  ·rw [if_pos hi] at e'
   cases Option.some.inj (Option.some.inj e')
   exact ⟨hi, fun y H3 ⟨z1, z2⟩ => by subst z1; subst z2; exact ⟨Ext.refl, rp, .int⟩⟩
  ·rw [if_neg hi] at e'; cases Option.some.inj e'
 stop := fun i as2 st2 H2 x rp e => by
  have e' : some (if i < n then some (P.int (lo + i)) else none) = some none := e
  by_cases hi : i < n
  ·rw [if_pos hi] at e'; cases Option.some.inj e'
  ·exact Nat.le_of_not_lt hi
def small62 (i : Int) : Bool := decide (-(2 ^ 62) <= i) && decide (i < 2 ^ 62)
theorem VN {i : Int} (h : small62 i = true) : -(2 ^ 62) <= i /\ i < 2 ^ 62 := ⟨of_decide_eq_true (Bool.and_eq_true_iff.mp h).1, of_decide_eq_true (Bool.and_eq_true_iff.mp h).2⟩
def iRange (mr : MA) : MI := fun ρ st => (mr ρ st).bind fun ps st1 => match ps with
 | [.int j] => if small62 j = true then .ok (srcR 0 j.toNat) st1 else .bad
 | [.int i, .int j] => if small62 i = true /\ small62 j = true then .ok (srcR i (j - i).toNat) st1 else .bad
 | _ => .bad
theorem YY {a : Expr} {mr : MA} {p pos : Pos} (hg : Gl X "range") (hm : X.mg "range" = none) (ha : JA X [a] mr) (hl : ∀ ρ st ps st', mr ρ st = .ok ps st' -> ps.length = 1) (hs : starEach [a] X.env = [(false, eval a X.env)] := by rfl) : JI X tg (.Call (.Name "range" p) [a] [] pos) (iRange mr) := by
 intro pins s σ H R I ⟨as, ρ, st, en, rp, h⟩
 refine Yex (tg := tg) hg hm ha hs pins s σ H R I ⟨as, ρ, st, en, rp, ?_⟩
 unfold iRange at h
 cases q : mr ρ st with
 | bad => rw [q] at h; exact h
 | exc k st' => rw [q] at h; exact h
 | ok ps st1 =>
  rw [q] at h
  have hl := hl ρ st ps st1 q
  intro as1 H1 vs x rp1 d
  have h1 := PostI.ext x h
  cases d with
  | nil => cases hl
  | cons d1 d2 =>
   cases d2 with
   | cons d3 d4 => cases hl
   | nil =>
    cases d1 with
    | int =>
     rename_i j
     have h2 : PostI X as1 H1 ρ (if small62 j = true then .ok (srcR 0 j.toNat) st1 else .bad) R := h1
     by_cases hj : small62 j = true
     ·rw [if_pos hj] at h2
      exact ⟨j, rfl, (VN hj).1, (VN hj).2, h2 as1 H1 _ Ext.refl rp1 YcW⟩
     ·rw [if_neg hj] at h2; exact h2.elim
    | _ => exact h1.elim
theorem YZ {me : ME} {mr : MA} {n : Nat} (h : ∀ ρ st ps st', mr ρ st = .ok ps st' -> ps.length = n) : ∀ ρ st ps st', aCons me mr ρ st = .ok ps st' -> ps.length = n + 1 := by
 intro ρ st ps st' e
 unfold aCons at e
 cases q : me ρ st with
 | bad => rw [q] at e; cases e
 | exc k s => rw [q] at e; cases e
 | ok p s1 =>
  rw [q, R.bind_ok] at e
  cases q2 : mr ρ s1 with
  | bad => rw [q2] at e; cases e
  | exc k s => rw [q2] at e; cases e
  | ok qs s2 =>
   rw [q2, R.bind_ok] at e
   cases e
   rw [List.length_cons, h _ _ _ _ q2]
theorem Zc : ∀ ρ st ps st', aNil ρ st = .ok ps st' -> ps.length = 0 := by
 intro ρ st ps st' e
 cases e
 rfl
end
def clFrom (cells : List (Str × Addr)) : List (Str × NameKind) -> List (Str × Addr) -> List (Str × Addr)
 | [], acc => acc
 | (n, k) :: r, acc => if (k == NameKind.free) = true then match cells.lookup n with
  | some c => clFrom cells r ((n, c) :: acc)
  | none => clFrom cells r acc
  else clFrom cells r acc
theorem J4 {scope : Scope} {env : Env} (h : ∀ x ∈ scope.names, x.2 = .free -> ∃ c, env.cells.lookup x.1 = some c) : closureFor scope env = pure (clFrom env.cells scope.names []) := by
 unfold closureFor
 have key : ∀ (names : List (Str × NameKind)) (acc : List (Str × Addr)), (∀ x ∈ names, x.2 = .free -> ∃ c, env.cells.lookup x.1 = some c) ->
  (forIn names acc fun x r => match x with | (name, kind) => (if (kind == NameKind.free) = true then do let y <- cellOf env name; pure (ForInStep.yield ((name, y) :: r)) else pure (ForInStep.yield r) : Sem (ForInStep (List (Str × Addr))))) = (pure (clFrom env.cells names acc) : Sem _) := by
  intro names
  induction names with
  | nil => intro acc _; rfl
  | cons x r ih =>
   intro acc hx
   obtain ⟨n, k⟩ := x
   rw [List.forIn_cons]
   have hr := fun y hy => hx y (List.mem_cons_of_mem _ hy)
   by_cases hk : (k == NameKind.free) = true
   ·obtain ⟨c, hc⟩ := hx (n, k) List.mem_cons_self (by simpa using hk)
    simp only [hk, if_true, clFrom]
    have hc' : env.cells.lookup n = some c := hc
    have e : cellOf env n = pure c := by unfold cellOf; rw [hc']
    rw [e, hc']
    exact ih _ hr
   ·simp only [hk, clFrom]
    exact ih _ hr
 exact Eq.trans (congrArg (fun m => m >>= fun cs => pure cs) (key scope.names [] h)) rfl
theorem Zb {cells : List (Str × Addr)} {x : Str} {c : Addr} : ∀ {names : List (Str × NameKind)} {acc : List (Str × Addr)}, (clFrom cells names acc).lookup x = some c -> acc.lookup x = some c \/ cells.lookup x = some c
 | [], acc, h => .inl h
 | (n, k) :: r, acc, h => by
  unfold clFrom at h
  split at h
  ·split at h
   ·rename_i c' hc
    rcases Zb h with z | z
    ·rw [List.lookup_cons] at z
     cases hx : x == n with
     | true =>
      rw [hx] at z
      have := eq_of_beq hx
      subst this
      exact .inr (by rw [hc]; exact z)
     | false => rw [hx] at z; exact .inl z
    ·exact .inr z
   ·exact Zb h
  ·exact Zb h
theorem ZV {cells : List (Str × Addr)} {x : Str} : ∀ {names : List (Str × NameKind)} {acc : List (Str × Addr)}, (∃ c, acc.lookup x = some c) -> ∃ c, (clFrom cells names acc).lookup x = some c
 | [], acc, h => h
 | (n, k) :: r, acc, h => by
  unfold clFrom
  split
  ·split
   ·refine ZV ?_
    rw [List.lookup_cons]
    cases hx : x == n with
    | true => exact ⟨_, rfl⟩
    | false => exact h
   ·exact ZV h
  ·exact ZV h
theorem Zq {cells : List (Str × Addr)} {x : Str} {c : Addr} (hc : cells.lookup x = some c) : ∀ {names : List (Str × NameKind)} {acc : List (Str × Addr)}, (x, NameKind.free) ∈ names -> ∃ c, (clFrom cells names acc).lookup x = some c
 | [], acc, h => by cases h
 | (n, k) :: r, acc, h => by
  unfold clFrom
  rcases List.mem_cons.mp h with e | e
  ·cases e
   simp only [beq_self_eq_true, if_true, hc]
   exact ZV ⟨c, by simp [List.lookup_cons]⟩
  ·split
   ·split
    ·exact Zq hc e
    ·exact Zq hc e
   ·exact Zq hc e
theorem Zn {scope : Scope} {env : Env} {x : Str} {k : NameKind} (h : (relabel scope env).names.lookup x = some k) : scope.names.lookup x = some k \/ (k = .cell /\ scope.names.lookup x = some .free) := by
 unfold relabel at h
 simp only at h
 generalize scope.names = names at h ⊢
 induction names with
 | nil => cases h
 | cons y r ih =>
  obtain ⟨n, j⟩ := y
  rw [List.map_cons] at h
  rw [List.lookup_cons]
  cases hx : x == n with
  | true =>
   simp only
   split at h
   ·rename_i hc
    rw [List.lookup_cons, hx] at h
    simp only [Bool.and_eq_true, beq_iff_eq] at hc
    rw [hc.1.1]
    exact .inr ⟨(Option.some.inj h).symm, rfl⟩
   ·rw [List.lookup_cons, hx] at h
    exact .inl h
  | false =>
   simp only
   split at h
   ·rw [List.lookup_cons, hx] at h; exact ih h
   ·rw [List.lookup_cons, hx] at h; exact ih h
theorem YdS {prog : Program} {w : World} {A : Around} {R : Result -> Shared -> Prop} {s : Shared} {elt target iter : Expr} {ifs : List Expr} {scope : Scope} {pos : Pos} {it acc : Value} {env : Env} (I : Nat -> Shared -> Prop)
 (turn : ∀ n s, I n s -> wpAny (model prog w) A (pyNext it) (fun r s₁ => match r with
  | none => R (.ok .next) s₁
  | some v => wpAny (model prog w) A (letOwnedTupleGo target it v) (fun _ s₁' => wpAny (model prog w) A (assign target env v) (fun _ s₂ =>
   wpAny (model prog w) A (forIn ifs true fun c r => if r = true then do let ok <- isTrue c env (eval c env); pure (ForInStep.yield ok) else pure (ForInStep.yield r)) (fun ok s₃ =>
    if ok = true then wpAny (model prog w) A (eval elt env) (fun x s₄ =>
     wpAny (model prog w) A (call (.builtin "list.append") [acc, x]) (fun _ s₅ => ∃ m, m < n /\ I m s₅) (notedBy (model prog w) A env fun e s' => R (.error e) s') s₄) (notedBy (model prog w) A env fun e s' => R (.error e) s') s₃
    else ∃ m, m < n /\ I m s₃) (notedBy (model prog w) A env fun e s' => R (.error e) s') s₂) (notedBy (model prog w) A env fun e s' => R (.error e) s') s₁') (notedBy (model prog w) A env fun e s' => R (.error e) s') s₁) (notedBy (model prog w) A env fun e s' => R (.error e) s') s)
 (n : Nat) (h : I n s) :
 codeAny (model prog w) A (.compLoop (.ListComp elt [⟨target, iter, ifs, 0⟩] scope pos) 0 it acc env) R s := by
 refine codeAny_loop rfl I (fun n s hI => ?_) n h
 show wpAny _ A ((compTurn (.ListComp elt [⟨target, iter, ifs, 0⟩] scope pos) 0 it acc env).onRaise (fun x => do noteFrame x env; theTreesLotGoes x)) _ _ s
 refine wpAny_noted ?_
 rw [compTurn_list]
 refine wpAny_bind (wpAny_standAt (wpAny_bind (wpAny_mono (turn n s hI) (fun r s₁ h₁ => ?_) fun _ _ h' => h')))
 cases r with
 | none => exact wpAny_pure h₁
 | some v =>
  refine wpAny_bind (wpAny_mono h₁ (fun _ s₁' h₁' => ?_) fun _ _ h' => h')
  refine wpAny_bind (wpAny_mono h₁' (fun _ s₂ h₂ => wpAny_bind (wpAny_mono h₂ (fun ok s₃ h₃ => ?_) fun _ _ h' => h')) fun _ _ h' => h')
  cases ok with
  | false => exact wpAny_pure ⟨rfl, h₃⟩
  | true =>
   exact wpAny_bind (wpAny_bind (wpAny_mono h₃ (fun x s₄ h₄ => wpAny_bind (wpAny_mono h₄ (fun _ s₅ h₅ => wpAny_pure (wpAny_pure ⟨rfl, h₅⟩)) fun _ _ h' => h')) fun _ _ h' => h'))
def cxComp (X : Cx) (scope : Scope) (N : List Str) (C : Addr) (s₀ : Shared) (H₀ : Hp) (ex : List Addr) : Cx where
 prog := X.prog
 w := X.w
 K := X.K
 mg := X.mg
 base := X.base
 A := X.A
 N := N
 s₀ := s₀
 H₀ := H₀
 env := compEnvC scope (clFrom X.env.cells scope.names []) C X.env
 outer := X.stack
 stack := X.stack
 ex := ex
 fn := fun _ => false
 calm := X.calm
 pn := []
 xe := fun _ _ => False
structure CompOk (X : Cx) (scope : Scope) (TN FN : List Str) (fr : List Nat) : Prop where
 cell : ∀ y ∈ scope.names, y.2 ≠ .cell
 kind : scope.kind = .function
 names : ∀ y ∈ scope.names, y.2 = .local -> scope.names.lookup y.1 = some .local
 free : ∀ y ∈ scope.names, y.2 = .free -> X.env.kindOf y.1 = some .cell \/ X.env.kindOf y.1 = some .free
 lk : ∀ y, scope.names.lookup y = some .free -> (y, NameKind.free) ∈ scope.names
 flen : FN.length = fr.length
 at_ : ∀ (j : Nat) x k, FN[j]? = some x -> fr[j]? = some k -> X.N[k]? = some x /\ scope.names.lookup x = some .free
def rho0 (n : Nat) (fr : List Nat) (ρ : Rho) : Rho := List.replicate n none ++ fr.map fun k => (ρ[k]?).join
section
variable {X : Cx} {scope : Scope} {TN FN : List Str} {fr : List Nat} {pins : List (Addr × Obj)} {σ : St} {H : Hp} {s₂ s₄ : Shared} {fp : List Addr} {C : Addr}
theorem CompOk.has (c : CompOk X scope TN FN fr) (ok : X.Ok) : ∀ x ∈ scope.names, x.2 = .free -> ∃ c, X.env.cells.lookup x.1 = some c := fun x hx e => ok.has x.1 (c.free x hx e)
theorem CompOk.cl (c : CompOk X scope TN FN fr) {x : Str} {a : Addr} (h : (clFrom X.env.cells scope.names []).lookup x = some a) : X.env.cells.lookup x = some a := by
 rcases Zb h with z | z
 ·cases z
 ·exact z
theorem CompOk.freeOf (c : CompOk X scope TN FN fr) {x : Str} (h : (relabel scope X.env).names.lookup x = some .cell \/ (relabel scope X.env).names.lookup x = some .free) : scope.names.lookup x = some .free := by
 have nc : scope.names.lookup x ≠ some .cell := fun z => c.cell _ (PySem.mem_of_lookup z) rfl
 rcases h with h | h
 ·rcases Zn h with z | ⟨_, z⟩
  ·exact absurd z nc
  ·exact z
 ·rcases Zn h with z | ⟨z, _⟩
  ·exact z
  ·cases z
theorem Yjo (c : CompOk X scope TN FN fr) (I : Inv X pins σ H s₂) (hf : ∀ b ∈ fp, FpOk X pins H b) (hfo : ∀ b ∈ fp, ∃ o, s₂.heap.get? b = some o) (hC : s₂.heap.objs.size <= C) : (cxComp X scope (TN ++ FN) C s₂ H fp).Ok where
 mod := I.ok.mod
 kind := c.kind
 glob := I.ok.glob
 blt := I.ok.blt
 above := hC
 inj := fun x y a h1 h2 => I.ok.inj x y a (c.cl h1) (c.cl h2)
 has := fun x h => by
  have hx := c.freeOf h
  obtain ⟨a, ha⟩ := c.has I.ok _ (c.lk x hx) rfl
  exact Zq ha (c.lk x hx)
 cab := fun x a h => by cases h
 hd := I.ok.hd
 frames := I.ok.frames
 stk := .inl rfl
 exf := fun b hb => by
  obtain ⟨f0, f1, f2, f3, f4, f5⟩ := hf b hb
  obtain ⟨o, ho⟩ := hfo b hb
  exact ⟨Nat.ne_of_lt (Nat.lt_of_lt_of_le (Heap.lt_size ho) hC), fun x a h => f4 x a (c.cl h)⟩
 bs := I.bs
 bsz := Nat.le_trans I.ok.bsz I.sz
 noex := fun b o e hb => by
  obtain ⟨f0, f1, f2, f3, f4, f5⟩ := hf b hb
  rcases f3 with z | z
  ·exact I.ok.noex b o e z
  ·exact absurd (Nat.lt_of_lt_of_le (Heap.lt_size e) (Nat.le_trans I.ok.bsz z)) (Nat.lt_irrefl _)
 exfs := fun b hb hz => by
  obtain ⟨f0, f1, f2, f3, f4, f5⟩ := hf b hb
  rcases List.mem_cons.mp (I.stkSub b hz) with e | e
  ·exact f1 e
  ·exact f2 e
 funs := I.stack
 frf := I.stkFree
theorem getElem?_rho0 {n : Nat} {ρ : Rho} {i : Nat} {p : P} (h : (rho0 n fr ρ)[i]? = some (some p)) : ∃ j k, i = n + j /\ fr[j]? = some k /\ ρ[k]? = some (some p) := by
 unfold rho0 at h
 by_cases hi : i < n
 ·rw [List.getElem?_append_left (by simpa using hi), List.getElem?_replicate, if_pos hi] at h
  cases h
 ·rw [List.getElem?_append_right (by simpa using hi), List.length_replicate, List.getElem?_map] at h
  refine ⟨i - n, ?_⟩
  cases q : fr[i - n]? with
  | none => rw [q] at h; cases h
  | some k =>
   rw [q] at h
   refine ⟨k, by omega, rfl, ?_⟩
   have h' : (ρ[k]?).join = some p := Option.some.inj h
   cases w : ρ[k]? with
   | none => rw [w] at h'; cases h'
   | some o => rw [w] at h'; rw [show o = some p from h']
def sig0 (n : Nat) (fr : List Nat) (σ : St) : St := List.replicate n none ++ fr.map fun k => (σ[k]?).join
theorem Yge {n : Nat} : (sig0 n fr σ).length = n + fr.length := by simp [sig0]
theorem getElem?_sig0 {n : Nat} {i : Nat} {v : V} (h : (sig0 n fr σ)[i]? = some (some v)) : ∃ j k, i = n + j /\ fr[j]? = some k /\ σ[k]? = some (some v) := by
 unfold sig0 at h
 by_cases hi : i < n
 ·rw [List.getElem?_append_left (by simpa using hi), List.getElem?_replicate, if_pos hi] at h
  cases h
 ·rw [List.getElem?_append_right (by simpa using hi), List.length_replicate, List.getElem?_map] at h
  refine ⟨i - n, ?_⟩
  cases q : fr[i - n]? with
  | none => rw [q] at h; cases h
  | some k =>
   rw [q] at h
   refine ⟨k, by omega, rfl, ?_⟩
   have h' : (σ[k]?).join = some v := Option.some.inj h
   cases w : σ[k]? with
   | none => rw [w] at h'; cases h'
   | some o => rw [w] at h'; rw [show o = some v from h']
theorem env0 {K : PySem.W.Frag} {as : List Addr} {ρ : Rho} {n : Nat} (en : EnvOk K as H ρ σ) : EnvOk K as H (rho0 n fr ρ) (sig0 n fr σ) :=
 ⟨by simp [rho0, sig0], fun i p e => by
  obtain ⟨j, k, e1, e2, e3⟩ := getElem?_rho0 e
  obtain ⟨v, h1, h2⟩ := en.val k p e3
  refine ⟨v, ?_, h2⟩
  subst e1
  unfold sig0
  rw [List.getElem?_append_right (by simp), List.length_replicate, List.getElem?_map]
  have : n + j - n = j := by omega
  rw [this, e2]
  simp [h1]⟩
theorem Yf7 (c : CompOk X scope TN FN fr) (I : Inv X pins σ H s₂) (hf : ∀ b ∈ fp, FpOk X pins H b) (hfo : ∀ b ∈ fp, ∃ o, s₂.heap.get? b = some o) (hC : s₂.heap.objs.size <= C) {h' : Heap} {tk : Nat}
 (hk : ∀ b o, s₂.heap.get? b = some o -> h'.get? b = some o) (hn : h'.Ns C fun _ => none) (htk : s₂.toks <= tk) : Inv (cxComp X scope (TN ++ FN) C s₂ H fp) [] (sig0 TN.length fr σ) H { s₂ with heap := h', toks := tk } where
 tk := I.tk.mono htk
 ok := Yjo c I hf hfo hC
 os := rfl
 bare := I.bare
 base := Un.kept hk
 loc := ⟨_, hn, fun i x v h1 h2 h3 => by
  obtain ⟨j, k, e1, e2, e3⟩ := getElem?_sig0 h2
  have h1' : (TN ++ FN)[i]? = some x := h1
  subst e1
  rw [List.getElem?_append_right (by omega)] at h1'
  have : TN.length + j - TN.length = j := by omega
  rw [this] at h1'
  obtain ⟨g1, g2⟩ := c.at_ j x k h1' e2
  obtain ⟨m, _, hl⟩ := I.loc
  have hcf := c.free _ (c.lk x g2) rfl
  have vis : Vis X.env.scope x := .inr hcf
  obtain ⟨u, r, q⟩ := hl k x v g1 e3 vis
  refine ⟨u, r, .inr ?_⟩
  rcases q with ⟨q1, _⟩ | ⟨_, a, q2, q3⟩
  ·rcases hcf with z | z
   ·have : X.env.kindOf x = some .cell := z
    rw [q1] at this; cases this
   ·have : X.env.kindOf x = some .free := z
    rw [q1] at this; cases this
  ·refine ⟨?_, a, ?_, ?_⟩
   ·rcases h3 with z | z | z
    ·have w : (relabel scope X.env).names.lookup x = some .local := z
     rcases Zn w with w | ⟨w, _⟩
     ·rw [g2] at w; cases w
     ·cases w
    ·exact .inl z
    ·exact .inr z
   ·obtain ⟨a', ha'⟩ := Zq (cells := X.env.cells) q2 (acc := []) (c.lk x g2)
    have := c.cl ha'
    rw [q2] at this; cases this
    exact ha'
   ·obtain ⟨o, ho, hd⟩ := q3
    exact ⟨o, hk a o ho, hd⟩⟩
 cell := fun x a h => by
  obtain ⟨v, o, ho, hd⟩ := I.cell x a (c.cl h)
  exact ⟨v, o, hk a o ho, hd⟩
 free := I.hok.fresh hC
 freeC := fun x a h => I.freeC x a (c.cl h)
 pin := fun p hp => absurd (show p ∈ ([] : List (Addr × Obj)) from hp) (by simp)
 hok := I.hok.kept hk
 len := by
  rw [Yge]
  show _ = (TN ++ FN).length
  rw [List.length_append, c.flen]
theorem Inv.track {s : Shared} {D : Addr} {vs : List V} {its : List Value} {n : Nat} (I : Inv X pins σ H s) (hD : s.heap.get? D = some { cls := .type "list", data := .seq its.toArray n }) (hn : H D = none) (rv : Vals vs its) (hz : vs.length <= sizeLine)
 (h1 : X.s₀.heap.objs.size <= D) (h2 : D ≠ X.env.locals) (h3 : ∀ x c, X.env.cells.lookup x = some c -> c ≠ D) (h4 : ∀ p ∈ X.pn ++ pins, p.1 ≠ D) : Inv X pins σ (upd H D (.lst vs)) s := by
 have q := I.step (H' := upd H D (.lst vs)) (h' := s.heap) (g' := s.gens) (t' := s.toks) (d' := s.drawn) (ch := [D]) (fun b hb => by
  have e : b = D := by simpa using hb
  subst e
  exact ⟨.inr h1, h2, h3, h4⟩) (fun b o _ _ _ e _ => e) (fun b o _ _ _ e _ => ⟨o.slots, e⟩) (fun b o hb e n => by rw [Ye (by simpa using hb)]; exact n) (fun b o _ e => ⟨o, e⟩)
  (fun b xs e => by rw [Ye (Ym e hn)]; exact e) (fun b o u e => by rw [Ye (Ym e hn)]; exact e) (fun b ps e => ⟨#[], by rw [Ye (Ym e hn), e]; simp⟩) (fun m h => h) (fun b u e => ?_) I.bare
 ·exact q I.tk
 ·by_cases hb : b = D
  ·subst hb
   rw [Yh] at e
   cases e
   exact ⟨hz, its, n, rv, hD⟩
  ·rw [Ye hb] at e
   exact (I.hok b u e).stay (fun c v _ q => q) (fun c q => by rw [Ye (Ym q hn)]; exact q) fun c xs q => by rw [Ye (Ym q hn)]; exact q
end
def compN (src : Src) (g : MG) (nt : MT) (me : ME) (ρ0 : Rho) : Nat -> Nat -> Stor -> List P -> R (List P)
 | 0, i, st, acc => match src.nx i st with
  | some none => .ok acc st
  | _ => .bad
 | n + 1, i, st, acc => match src.nx i st with
  | some none => .ok acc st
  | none => .bad
  | some (some p) => match g p ρ0 st with
   | none => .bad
   | some ρ1 => match nt ρ1 st with
    | .ok false st1 => compN src g nt me ρ0 n (i + 1) st1 acc
    | .ok true st1 => match me ρ1 st1 with
     | .ok q st2 => if acc.length < cap then compN src g nt me ρ0 n (i + 1) st2 (acc ++ [q]) else .bad
     | _ => .bad
    | _ => .bad
def lComp (mi : MI) (n : Nat) (fr : List Nat) (g : MG) (nt : MT) (me : ME) : MA := fun ρ st => (mi ρ st).bind fun src st1 => compN src g nt me (rho0 n fr ρ) src.n 0 st1 []
def PTs (X : Cx) (ifs : List Expr) (t : TT) : Prop :=
 ∀ (pins : List (Addr × Obj)) (s : Shared) (σ : St) (H : Hp) (Q : Bool -> Hp -> Prop), Inv X pins σ H s -> t σ H Q ->
  wpAny (model X.prog X.w) X.A (forIn ifs true fun c r => if r = true then do let ok <- isTrue c X.env (eval c X.env); pure (ForInStep.yield ok) else pure (ForInStep.yield r)) (TP X pins σ Q) X.xe s
abbrev JTs (X : Cx) (ifs : List Expr) (nt : MT) : Prop := PTs X ifs (tT X nt)
def nTrue : MT := fun _ st => .ok true st
theorem Y1 {X : Cx} : JTs X [] nTrue := fun pins s σ H Q I ⟨as, ρ, st, en, rp, h⟩ => wpAny_tests_nil ⟨H, I, h as H Ext.refl rp⟩
theorem W4 {X : Cx} {c : Expr} {nt : MT} (h : JT X c nt) : JTs X [c] nt := fun pins s σ H Q I t => wpAny_tests_one (h pins s σ H Q I t)
def GOnly (n : Nat) (g : MG) : Prop := ∀ p ρ st ρ1, g p ρ st = some ρ1 -> ρ1.length = ρ.length /\ ∀ i : Nat, n <= i -> ρ1[i]? = ρ[i]?
def GsOnly (n : Nat) (g : MGs) : Prop := ∀ p ρ st ρ1, g p ρ st = some ρ1 -> ρ1.length = ρ.length /\ ∀ i : Nat, n <= i -> ρ1[i]? = ρ[i]?
theorem Yl {n i : Nat} (h : i < n) : GOnly n (mgName i) := fun p ρ st ρ1 e => by
 cases e
 exact ⟨by simp, fun j hj => by rw [List.getElem?_set_ne (by omega)]⟩
theorem Wp {n : Nat} : GsOnly n mgNil := fun p ρ st ρ1 e => by
 cases p with
 | nil => cases e; exact ⟨rfl, fun _ _ => rfl⟩
 | cons a b => cases e
theorem YC {n : Nat} {g : MG} {r : MGs} (h1 : GOnly n g) (h2 : GsOnly n r) : GsOnly n (mgCons g r) := fun p ρ st ρ1 e => by
 cases p with
 | nil => cases e
 | cons a b =>
  have e' : (g a ρ st).bind (fun ρ1 => r b ρ1 st) = some ρ1 := e
  cases z : g a ρ st with
  | none => rw [z] at e'; cases e'
  | some ρ2 =>
   rw [z] at e'
   obtain ⟨a1, a2⟩ := h1 _ _ _ _ z
   obtain ⟨b1, b2⟩ := h2 _ _ _ _ (show r b ρ2 st = some ρ1 from e')
   exact ⟨b1.trans a1, fun i hi => (b2 i hi).trans (a2 i hi)⟩
section
variable {X : Cx}
theorem EnvOk.back {K : PySem.W.Frag} {as : List Addr} {H : Hp} {n : Nat} {fr : List Nat} {ρ ρ1 : Rho} {σ : St} (e : EnvOk K as H ρ1 σ) (hl : ρ1.length = (rho0 n fr ρ).length) (hk : ∀ i : Nat, n <= i -> ρ1[i]? = (rho0 n fr ρ)[i]?) : EnvOk K as H (rho0 n fr ρ) σ :=
 ⟨by rw [<- hl]; exact e.len, fun i p q => by
  obtain ⟨j, k, e1, _, _⟩ := getElem?_rho0 q
  exact e.val i p (by rw [hk i (by omega)]; exact q)⟩
set_option maxHeartbeats 4000000 in
theorem YaK {elt tg iter : Expr} {ifs : List Expr} {scope : Scope} {pos pos0 : Pos} {TN FN : List Str} {fr : List Nat} {mi : MI} {g : MG} {nt : MT} {me : ME} {use : Option (Value -> Sem Unit)} {Q0 : Value -> Shared -> Prop} {pins : List (Addr × Obj)} {s : Shared} {σ : St} {H : Hp} {Q : VK}
 (hc : X.calm = true) (c : CompOk X scope TN FN fr) (hi : JI X tg iter mi) (hgo : GOnly TN.length g)
 (hb : ∀ C s₀ H₀ ex, JG (cxComp X scope (TN ++ FN) C s₀ H₀ ex) tg g /\ JTs (cxComp X scope (TN ++ FN) C s₀ H₀ ex) ifs nt /\ JE (cxComp X scope (TN ++ FN) C s₀ H₀ ex) elt me)
 (hs : ∀ x, foldedSetIterable iter X.env x = pure x) (I : Inv X pins σ H s) (ht : tL X (lComp mi TN.length fr g nt me) σ H Q)
 (hend : ∀ (s4 : Shared) (C D : Addr) (H' : Hp), (∃ m, s4.heap.Ns C m) -> H' C = none -> FpOk X pins H' C -> (∀ h', Heap.SameBut C s4.heap h' -> Inv X pins σ H' { s4 with heap := h' }) -> Q (.ref D) H' -> compPost (model X.prog X.w) X.A X.xe use Q0 (.ref D) C (.ok .next) s4) :
 wpAny (model X.prog X.w) X.A (comprehension (.ListComp elt [⟨tg, iter, ifs, 0⟩] scope pos) scope X.env pos0 (newList []) false (eval iter X.env) use) Q0 X.xe s := by
 obtain ⟨as, ρ, st, en, rp, h⟩ := ht
 refine wpAny_comprehension_free (use := use) rfl hs (J4 (c.has I.ok)) c.kind c.names ?_
 refine thn (hi pins s σ H (fun J H1 => ∃ as1 src st1, Ext as H as1 H1 /\ Rep X.K as1 st1 H1 /\ ItOk X.K as1 H1 src J /\ PostL X as1 H1 ρ (compN src g nt me (rho0 TN.length fr ρ) src.n 0 st1 []) Q) I ⟨as, ρ, st, en, rp, ?_⟩) fun v s1 h1 => thn h1 fun itv s2 h2 => ?_
 ·unfold lComp at h
  cases q : mi ρ st with
  | bad => rw [q] at h; exact h
  | exc k st' => rw [q] at h; exact h
  | ok src st1 =>
   rw [q] at h
   exact fun as1 H1 J x rp1 ok => ⟨as1, src, st1, x, rp1, ok, PostL.ext x h⟩
 obtain ⟨it, fp, tn, J, H2, rfl, I2, T, st2, f2, as1, src, st1, x1, rp1, ok, hp⟩ := h2
 have hfo : ∀ b ∈ fp, ∃ o, s2.heap.get? b = some o := fun b hb => let ⟨o, e, _⟩ := T.obj 0 _ st2 b hb; ⟨o, e⟩
 have hfl : ∀ b ∈ fp, b < s2.heap.objs.size := fun b hb => let ⟨o, e⟩ := hfo b hb; Heap.lt_size e
 refine wpAny_newObj_type (wpAny_newFunctionEnv c.cell (by intro y hy; simp at hy) (fun h₁ hns hsb => ?_) c.kind)
 dsimp only at hns hsb ⊢
 generalize hH2 : s2.heap.push { cls := .type "list", dict := none, data := .seq ([] : List Value).toArray } = G at hns hsb ⊢
 have hGC : G.objs.size = s2.heap.objs.size + 1 := by rw [<- hH2, Heap.size_push]
 have hDC : s2.heap.objs.size ≠ G.objs.size := by omega
 have hC : s2.heap.objs.size <= G.objs.size := by omega
 have keep : ∀ b o, s2.heap.get? b = some o -> h₁.get? b = some o := fun b o e => hsb.extBut b o (Nat.ne_of_lt (Nat.lt_of_lt_of_le (Heap.lt_size e) hC)) (Heap.get?_push_of_some _ (hH2 ▸ Heap.get?_push_of_some _ e))
 have hD0 : h₁.get? s2.heap.objs.size = some { cls := .type "list", data := .seq ([] : List Value).toArray 0 } := hsb.extBut _ _ hDC (Heap.get?_push_of_some _ (hH2 ▸ Heap.get?_push_size _ rfl))
 have hns' : h₁.Ns G.objs.size fun _ => none := by simpa using hns
 obtain ⟨bg, bt, be⟩ := hb G.objs.size s2 H2 fp
 have HD0 : H2 s2.heap.objs.size = none := I2.hok.fresh (Nat.le_refl _)
 have loop : ∀ s₃ : Shared, s₃ = { s2 with heap := h₁, toks := s2.toks + ([] : List (Str × Value)).length } ->
  codeAny (model X.prog X.w) X.A (.compLoop (.ListComp elt [⟨tg, iter, ifs, 0⟩] scope pos) 0 (.ref it) (.ref s2.heap.objs.size) (compEnvC scope (clFrom X.env.cells scope.names []) G.objs.size X.env))
   (compPost (model X.prog X.w) X.A X.xe use Q0 (.ref s2.heap.objs.size) G.objs.size) s₃ := by
  rintro s₃ rfl
  have IY := Yf7 (tk := s2.toks + ([] : List (Str × Value)).length) c I2 f2 hfo hC keep hns' (Nat.le_add_right _ _)
  have stat : ∀ {H' : Hp} {pl : List (Addr × Obj)}, (∀ b ∈ fp, H' b = none) -> (∀ p ∈ pl, ∀ b ∈ fp, p.1 ≠ b) -> ∀ b ∈ fp, FpOk (cxComp X scope (TN ++ FN) G.objs.size s2 H2 fp) pl H' b := fun {H' pl} hn hpl b hb => by
   obtain ⟨f0, f1, f2', f3, f4, f5⟩ := f2 b hb
   refine ⟨hn b hb, ?_, ?_, .inl hb, fun y a e => f4 y a (c.cl e), fun p hp => hpl p hp b hb⟩
   ·exact Nat.ne_of_lt (Nat.lt_of_lt_of_le (hfl b hb) hC)
   ·intro z
    rcases List.mem_cons.mp (I2.stkSub b z) with e | e
    ·exact f1 e
    ·exact f2' e
  have nDf : s2.heap.objs.size ∉ frs X.stack := fun z => by
   rcases List.mem_cons.mp (I2.stkSub _ z) with e | e
   ·exact absurd (e ▸ I2.lt) (Nat.lt_irrefl _)
   ·exact I2.nofs (Nat.le_refl _) e
  have cellD : ∀ y a, X.env.cells.lookup y = some a -> a ≠ s2.heap.objs.size := fun y a e => by
   obtain ⟨v, q⟩ := I2.cell y a e
   exact Nat.ne_of_lt q.lt
  refine YdS (fun n s' => ∃ i as' st' H' σ' acc vs its m, Inv (cxComp X scope (TN ++ FN) G.objs.size s2 H2 fp) [] σ' H' s' /\ EnvOk X.K as' H' (rho0 TN.length fr ρ) σ' /\ Ext as1 H2 as' H' /\ Rep X.K as' st' H' /\ tn i s'.heap /\ (∀ b ∈ fp, H' b = none) /\
   s'.heap.get? s2.heap.objs.size = some { cls := .type "list", data := .seq its.toArray m } /\ H' s2.heap.objs.size = none /\ Vals vs its /\ Dens X.K as' H' vs acc /\ acc.length <= cap /\ PostL X as' H' ρ (compN src g nt me (rho0 TN.length fr ρ) n i st' acc) Q) ?_ src.n
   ⟨0, as1, st1, H2, _, [], [], [], 0, IY, env0 (EnvOk.ext x1 en), Ext.refl, rp1, T.keep _ _ _ st2 fun b hb o e => keep b o e, fun b hb => (f2 b hb).1, hD0, HD0, .nil, .nil, Nat.zero_le _, hp⟩
  rintro n s3 ⟨i, as3, st3, H3, σ3, acc, vs, its, m, I3, en3, x3, rp3, tn3, fr3, hD, nD, rv, dn, hl, h⟩
  have nDloc : s2.heap.objs.size ≠ (cxComp X scope (TN ++ FN) G.objs.size s2 H2 fp).env.locals := hDC
  have IP : Inv (cxComp X scope (TN ++ FN) G.objs.size s2 H2 fp) [(s2.heap.objs.size, { cls := .type "list", data := .seq its.toArray m })] σ3 H3 s3 := I3.pins_of fun p hp => by
   have e : p = (s2.heap.objs.size, { cls := .type "list", data := .seq its.toArray m }) := by simpa using hp
   subst e
   exact ⟨hD, nD, nDloc, nDf, fun v z => by cases z⟩
  have hpl : ∀ p ∈ [(s2.heap.objs.size, ({ cls := .type "list", data := .seq its.toArray m } : Obj))], ∀ b ∈ fp, p.1 ≠ b := fun p hp b hb => by
   have e : p = (s2.heap.objs.size, { cls := .type "list", data := .seq its.toArray m }) := by simpa using hp
   subst e
   exact Nat.ne_of_gt (hfl b hb)
  have done : src.nx i st3 = some none -> PostL X as3 H3 ρ (.ok acc st3) Q -> wpAny (model X.prog X.w) X.A (pyNext (.ref it)) (fun r s₁ => r = none /\ compPost (model X.prog X.w) X.A X.xe use Q0 (.ref s2.heap.objs.size) G.objs.size (.ok .next) s₁)
   (notedBy (model X.prog X.w) X.A (compEnvC scope (clFrom X.env.cells scope.names []) G.objs.size X.env) fun e s' => compPost (model X.prog X.w) X.A X.xe use Q0 (.ref s2.heap.objs.size) G.objs.size (.error e) s') s3 := fun e h => by
   refine thn (T.done (cxComp X scope (TN ++ FN) G.objs.size s2 H2 fp) rfl rfl rfl hc i _ s3 σ3 H3 _ IP (stat fr3 hpl) tn3 (ok.stop i as3 st3 H3 x3 rp3 e)) fun r s4 ⟨hr, I4⟩ => ⟨hr, ?_⟩
   obtain ⟨m4, hn4, _⟩ := id I4.loc
   obtain ⟨hD4, nD4, _⟩ := I4.pin _ (List.mem_append_right _ List.mem_cons_self)
   have inv : ∀ h', Heap.SameBut G.objs.size s4.heap h' -> Inv X pins σ (upd H3 s2.heap.objs.size (.lst vs)) { s4 with heap := h' } := fun h' sb => by
    have un : Un (frs X.stack) fp H2 H3 s2.heap h' := by
     have u := I4.base
     have up : ∀ b o, s2.heap.get? b = some o -> b ≠ G.objs.size := fun b o e => Nat.ne_of_lt (Nat.lt_of_lt_of_le (Heap.lt_size e) hC)
     exact ⟨fun b o e n hb hx => (sb.2 b (up b o e)).trans (u.keep b o e n hb hx), fun b o e n hb hx => let ⟨sl, q⟩ := u.slot b o e n hb hx; ⟨sl, (sb.2 b (up b o e)).trans q⟩, u.free, fun b o e hx => let ⟨o', q⟩ := u.there b o e hx; ⟨o', (sb.2 b (up b o e)).trans q⟩, u.tups, u.frzs, u.tbls⟩
    have hok : HOk X.prog X.w H3 h' := fun b u e => (I4.hok b u e).stay (fun c' v hc' q => by
     refine (sb.2 c' ?_).trans q
     rintro rfl
     have nC : H3 G.objs.size = none := I4.free
     rcases hc' with z | z
     ·rw [<- z, nC] at e; cases e
     ·rw [nC] at z; cases z) (fun _ q => q) fun _ _ q => q
    have IX : Inv X pins σ H3 { s4 with heap := h' } := I2.call' (s' := { s4 with heap := h' }) (ch := fp) I4.os un hok I4.bare (fun b hb => ⟨(f2 b hb).2.2.2.1, (f2 b hb).2.1, (f2 b hb).2.2.2.2.1, (f2 b hb).2.2.2.2.2⟩) I4.tk
    have hDh : h'.get? s2.heap.objs.size = some { cls := .type "list", data := .seq its.toArray m } := (sb.2 _ hDC).trans hD4
    have IT := Inv.track (s := { s4 with heap := h' }) IX hDh nD rv (by rw [dn.length]; exact Nat.le_trans hl Yi) I2.sz (by have := I2.lt; exact Nat.ne_of_gt this) cellD (fun p hp => Nat.ne_of_lt (Heap.lt_size (I2.pin p hp).1))
    exact IT
   have nC : (upd H3 s2.heap.objs.size (.lst vs)) G.objs.size = none := by rw [Ye (Ne.symm hDC)]; exact I4.free
   exact hend s4 G.objs.size s2.heap.objs.size _ ⟨m4, hn4⟩ nC (I2.fpOk hC nC) inv (h as3 _ _ vs (Ext.laid nD) (rp3.laid nD) Yh (rp3.fresh nD) (dn.ext (Ext.laid nD)))
  have bad : ∀ {r : Option Value -> Shared -> Prop} {E : Value -> Shared -> Prop}, False -> wpAny (model X.prog X.w) X.A (pyNext (.ref it)) r E s3 := fun f => f.elim
  cases e : src.nx i st3 with
  | none => cases n <;> (simp only [compN, e] at h; exact h.elim)
  | some o =>
   cases o with
   | none =>
    have h' : PostL X as3 H3 ρ (.ok acc st3) Q := by cases n <;> (simp only [compN, e] at h; exact h)
    exact thn (done e h') fun r s4 ⟨hr, q⟩ => by subst hr; exact q
   | some p =>
    cases n with
    | zero => simp only [compN, e] at h; exact h.elim
    | succ n =>
     obtain ⟨g1, g2⟩ := ok.go i as3 st3 H3 p x3 rp3 e
     cases zg : g p (rho0 TN.length fr ρ) st3 with
     | none => simp only [compN, e, zg] at h; exact h.elim
     | some ρ1 =>
      obtain ⟨gl, gk⟩ := hgo _ _ _ _ zg
      refine thn (T.item (cxComp X scope (TN ++ FN) G.objs.size s2 H2 fp) rfl rfl rfl hc i _ s3 σ3 H3 _ IP (stat fr3 hpl) tn3 g1) fun r s4 ⟨u, hr, h4⟩ => ?_
      subst hr
      refine thn h4 fun _ s5 ⟨x, H5, I5, r5, y5, st5, fr5⟩ => ?_
      obtain ⟨x5, rp5, d5⟩ := g2 x H5 y5
      have nD5 : H5 s2.heap.objs.size = none := (I5.pin _ (List.mem_append_right _ List.mem_cons_self)).2.1
      have I5' := I5.pinned (stat fr5 hpl) (T.obj _ _ st5)
      refine wpAny_mono (bg _ s5 σ3 H5 x u (fun σ' H' => H' = H5 /\ EnvOk X.K as3 H5 ρ1 σ') I5' r5 ⟨as3, _, st3, p, ρ1, en3.ext x5, rp5, d5, zg, fun σ' en' => ⟨rfl, en'⟩⟩) (fun _ s6 ⟨σ6, H6, I6, e6, en6⟩ => ?_) fun _ _ f => f.elim
      subst e6
      cases zt : nt ρ1 st3 with
      | bad => simp only [compN, e, zg, zt] at h; exact h.elim
      | exc k st' => simp only [compN, e, zg, zt] at h; exact h.elim
      | ok k st4 =>
       refine wpAny_mono (bt _ s6 σ6 H6 (fun k' H' => k' = k /\ ∃ as', Ext as3 H6 as' H' /\ Rep X.K as' st4 H') I6 ⟨as3, ρ1, st3, en6, rp5, by rw [zt]; exact fun as' H' x rp => ⟨rfl, as', x, rp⟩⟩) (fun k' s7 ⟨H7, I7, ek, as7, x7, rp7⟩ => ?_) fun _ _ f => f.elim
       subst ek
       have fin : ∀ {H8 : Hp} {s8 : Shared} {as8 : List Addr} {st8 : Stor} {acc' : List P} {vs' : List V} {its' : List Value} {m' : Nat} {s9 : Shared}, Inv (cxComp X scope (TN ++ FN) G.objs.size s2 H2 fp) ([] : List (Addr × Obj)) σ6 H8 s9 -> Ext as7 H7 as8 H8 -> Rep X.K as8 st8 H8 ->
        tn (i + 1) s9.heap -> (∀ b ∈ fp, H8 b = none) -> s9.heap.get? s2.heap.objs.size = some { cls := .type "list", data := .seq its'.toArray m' } -> H8 s2.heap.objs.size = none -> Vals vs' its' -> Dens X.K as8 H8 vs' acc' -> acc'.length <= cap ->
        PostL X as8 H8 ρ (compN src g nt me (rho0 TN.length fr ρ) n (i + 1) st8 acc') Q -> ∃ m, m < n + 1 /\ ∃ i as' st' H' σ' acc vs its m_1, Inv (cxComp X scope (TN ++ FN) G.objs.size s2 H2 fp) [] σ' H' s9 /\ EnvOk X.K as' H' (rho0 TN.length fr ρ) σ' /\ Ext as1 H2 as' H' /\ Rep X.K as' st' H' /\ tn i s9.heap /\ (∀ b ∈ fp, H' b = none) /\
         s9.heap.get? s2.heap.objs.size = some { cls := .type "list", data := .seq its.toArray m_1 } /\ H' s2.heap.objs.size = none /\ Vals vs its /\ Dens X.K as' H' vs acc /\ acc.length <= cap /\ PostL X as' H' ρ (compN src g nt me (rho0 TN.length fr ρ) m i st' acc) Q :=
        fun {H8 s8 as8 st8 acc' vs' its' m' s9} I8 x8 rp8 t8 fr8 hD8 nD8 rv8 dn8 hl8 h8 => ⟨n, Nat.lt_succ_self n, i + 1, as8, st8, H8, σ6, acc', vs', its', m', I8, EnvOk.ext x8 (EnvOk.ext x7 (en6.back gl gk)), ((x3.trans x5).trans x7).trans x8, rp8, t8, fr8, hD8, nD8, rv8, dn8, hl8, h8⟩
       have stay : ∀ {H8 : Hp} {s8 : Shared}, Inv (cxComp X scope (TN ++ FN) G.objs.size s2 H2 fp) ([(s2.heap.objs.size, ({ cls := .type "list", data := .seq its.toArray m } : Obj))] ++ pinsAt fp s5.heap) σ6 H8 s8 ->
        tn (i + 1) s8.heap /\ (∀ b ∈ fp, H8 b = none) /\ s8.heap.get? s2.heap.objs.size = some { cls := .type "list", data := .seq its.toArray m } /\ H8 s2.heap.objs.size = none := fun {H8 s8} I8 => by
        refine ⟨T.keep _ _ _ st5 fun b hb o e => (I8.pin (b, o) (List.mem_append_right _ (List.mem_append_right _ (ZU hb e)))).1, fun b hb => ?_, ?_⟩
        ·obtain ⟨o, e, d⟩ := T.obj _ _ st5 b hb
         exact (I8.pin (b, o) (List.mem_append_right _ (List.mem_append_right _ (ZU hb e)))).2.1
        ·have q := I8.pin (s2.heap.objs.size, { cls := .type "list", data := .seq its.toArray m }) (List.mem_append_right _ (List.mem_append_left _ List.mem_cons_self))
         exact ⟨q.1, q.2.1⟩
       have nopins : ∀ {H8 : Hp} {s8 : Shared} {pl : List (Addr × Obj)}, Inv (cxComp X scope (TN ++ FN) G.objs.size s2 H2 fp) pl σ6 H8 s8 -> Inv (cxComp X scope (TN ++ FN) G.objs.size s2 H2 fp) [] σ6 H8 s8 := fun {H8 s8 pl} I8 => I8.pins_of fun p hp => by cases hp
       cases k' with
       | false =>
        simp only [compN, e, zg, zt] at h
        rw [if_neg Bool.false_ne_true]
        obtain ⟨t7, f7, hD7, nD7⟩ := stay I7
        exact fin (s8 := s7) (nopins I7) Ext.refl rp7 t7 f7 hD7 nD7 rv (dn.ext (x5.trans x7)) hl (PostL.ext (x5.trans x7) h)
       | true =>
        rw [if_pos rfl]
        cases ze : me ρ1 st4 with
        | bad => simp only [compN, e, zg, zt, ze] at h; exact h.elim
        | exc k st' => simp only [compN, e, zg, zt, ze] at h; exact h.elim
        | ok q st8 =>
         simp only [compN, e, zg, zt, ze] at h
         by_cases hlt : acc.length < cap
         ·rw [if_pos hlt] at h
          refine wpAny_mono (be _ s7 σ6 H7 (fun v' H' => ∃ as', Ext as7 H7 as' H' /\ Rep X.K as' st8 H' /\ Den X.K as' H' v' q) I7 ⟨as7, ρ1, st4, en6.ext x7, rp7, by rw [ze]; exact fun as' H' v' x rp d => ⟨as', x, rp, d⟩⟩) (fun w' s8 ⟨y, H8, I8, r8, as8, x8, rp8, d8⟩ => ?_) fun _ _ f => f.elim
          obtain ⟨t8, f8, hD8, nD8⟩ := stay I8
          have hll : its.length <= cap := by rw [<- rv.length, dn.length]; exact hl
          refine call_meets F.slot_list_append ⟨_, hD8, rfl⟩ F.entry_list_append (F.args_list_append_2 _ _) (PySem.list_append s2.heap.objs.size its.toArray m w' (by rw [List.size_toArray]; exact Nat.le_trans hll Yi)) ⟨hD8, ?_⟩
          have hD9 := PySem.IsL.update hD8 (fun a => a.push w')
          rw [show its.toArray.push w' = (its ++ [w']).toArray by simp] at hD9
          have oth : ∀ b o, b ≠ s2.heap.objs.size -> s8.heap.get? b = some o -> (s8.heap.update s2.heap.objs.size (Obj.mapSeq fun a => a.push w')).get? b = some o := fun b o hb e => (Heap.get?_update_other _ _ (Ne.symm hb)).trans e
          have I9 : Inv (cxComp X scope (TN ++ FN) G.objs.size s2 H2 fp) [] σ6 H8 { s8 with heap := s8.heap.update s2.heap.objs.size (Obj.mapSeq fun a => a.push w'), toks := s8.toks } :=
           Inv.turned (it := s2.heap.objs.size) (nopins I8) oth nD8 nDloc (.inr (Nat.le_refl _)) (fun y a e => cellD y a (c.cl e)) fun p hp => by cases hp
          refine fin (s8 := s8) (its' := its ++ [w']) I9 x8 rp8 (T.keep _ _ _ t8 fun b hb o e => oth b o (Nat.ne_of_lt (hfl b hb)) e) f8 hD9 nD8 (rv.append (.cons r8 .nil)) ((dn.ext ((x5.trans x7).trans x8)).append (.cons d8 .nil)) ?_ (PostL.ext ((x5.trans x7).trans x8) h)
          rw [List.length_append, List.length_singleton]; exact hlt
         ·rw [if_neg hlt] at h; exact h.elim
 exact codeAny_compStart_list (loop _ rfl) (T.self _ 0 _ _ _ (T.keep _ _ _ st2 fun b hb o e => keep b o e) (loop _ rfl))
theorem YE {elt tg iter : Expr} {ifs : List Expr} {scope : Scope} {pos : Pos} {TN FN : List Str} {fr : List Nat} {mi : MI} {g : MG} {nt : MT} {me : ME} (hc : X.calm = true) (c : CompOk X scope TN FN fr) (hi : JI X tg iter mi) (hgo : GOnly TN.length g)
 (hb : ∀ C s₀ H₀ ex, JG (cxComp X scope (TN ++ FN) C s₀ H₀ ex) tg g /\ JTs (cxComp X scope (TN ++ FN) C s₀ H₀ ex) ifs nt /\ JE (cxComp X scope (TN ++ FN) C s₀ H₀ ex) elt me)
 (hs : ∀ x, foldedSetIterable iter X.env x = pure x := by intro _; rfl) : JL X (.ListComp elt [⟨tg, iter, ifs, 0⟩] scope pos) (lComp mi TN.length fr g nt me) := by
 intro pins s σ H Q I ht
 rw [eval_ListComp]
 exact YaK hc c hi hgo hb hs I ht fun s4 C D H' ⟨m, hn⟩ _ _ inv q => ⟨m, hn, fun h' sb => ⟨.ref D, H', inv h' sb, rfl, q⟩⟩
def sSetL (i : Nat) (ml : MA) : MS := fun ρ st => RS.ofE ρ (ml ρ st) fun ps st1 => .nx (ρ.set i (some (.ref st1.length))) (st1 ++ [.lst ps])
theorem Jk {elt tg iter : Expr} {ifs : List Expr} {scope : Scope} {pos pos' cpos : Pos} {TN FN : List Str} {fr : List Nat} {mi : MI} {g : MG} {nt : MT} {me : ME} {i : Nat} {x : Str} (hN : X.N.Nodup) (hi' : X.N[i]? = some x) (hx : Loc X.env.scope x)
 (hc : X.calm = true) (c : CompOk X scope TN FN fr) (hi : JI X tg iter mi) (hgo : GOnly TN.length g)
 (hb : ∀ C s₀ H₀ ex, JG (cxComp X scope (TN ++ FN) C s₀ H₀ ex) tg g /\ JTs (cxComp X scope (TN ++ FN) C s₀ H₀ ex) ifs nt /\ JE (cxComp X scope (TN ++ FN) C s₀ H₀ ex) elt me)
 (hs : ∀ x, foldedSetIterable iter X.env x = pure x := by intro _; rfl) (hsw : swapsWith (.ListComp elt [⟨tg, iter, ifs, 0⟩] scope cpos) (some (.Name x pos')) pos.line X.env = pure true := by rfl)
 (hf : X.fn x = true \/ X.env.scope.names.lookup x = some .local := by first | exact .inl rfl | exact .inr rfl | assumption) :
 JS X (.Assign [.Name x pos'] (.ListComp elt [⟨tg, iter, ifs, 0⟩] scope cpos) pos) (sSetL i (lComp mi TN.length fr g nt me)) := by
 intro pins s σ H D I ⟨as, ρ, st, en, rp, h⟩
 rw [exec_Assign_Name_used _ _ _ _ hsw]
 refine wpAny_bind (wpAny_standAt (wpAny_bind ?_))
 rw [arm_evalThenUse_ListComp]
 refine wpAny_bind ?_
 refine YaK (Q := fun v H' => ∃ as' ρ' st', EnvOk X.K as' H' ρ σ /\ Rep X.K as' st' H' /\ Den X.K as' H' v (.ref (st'.length - 1)) /\ ρ' = ρ.set i (some (.ref (st'.length - 1))) /\ PostS X as' H' (.nx ρ' st') D) hc c hi hgo hb hs I ⟨as, ρ, st, en, rp, ?_⟩ ?_
 ·unfold sSetL at h
  cases q : lComp mi TN.length fr g nt me ρ st with
  | bad => rw [q] at h; exact h
  | exc k st' => rw [q] at h; exact h
  | ok ps st1 =>
   rw [q] at h
   intro as' H' l vs x rp' hl fr' d
   have en' : EnvOk X.K (as' ++ [l]) H' ρ σ := (en.ext x).ext Ext.add
   have rp'' : Rep X.K (as' ++ [l]) (st1 ++ [.lst ps]) H' := rp'.add fr' ⟨vs, hl, d.ext Ext.add⟩
   have el : (st1 ++ [O.lst ps]).length - 1 = st1.length := by simp
   refine ⟨as' ++ [l], _, st1 ++ [.lst ps], en', rp'', ?_, rfl, ?_⟩
   ·rw [el]; exact .ref (by rw [<- rp'.len]; exact Jb)
   ·rw [el]; exact PostS.ext (x.trans Ext.add) h
 ·intro s4 C Dl H' ⟨m, hn⟩ nC fo inv ⟨as', ρ', st', en', rp', d', hρ, hq⟩
  have I4 : Inv X pins σ H' s4 := inv s4.heap (Heap.SameBut.refl _ _)
  show wpAny _ _ (assign (.Name x pos') X.env (.ref Dl)) _ _ _
  refine wpAny_assign_Name (Yaw I4 hN hi' hx (v := .ref Dl) rfl (fun s5 I5 ⟨a, sb, ha⟩ => ?_) hf)
  have hCa : C ≠ a := by
   rcases ha with rfl | ha
   ·exact fo.2.1
   ·exact fun z => fo.2.2.2.2.1 x a ha z.symm
  have hn5 : s5.heap.Ns C m := by
   obtain ⟨o, es, ep, e, r⟩ := hn
   exact ⟨o, es, ep, (sb.2 C hCa).trans e, r⟩
  refine ⟨m, hn5, fun h' sb' => wpAny_pure ?_⟩
  have I6 : Inv X pins (σ.set i (some (.ref Dl))) H' { s5 with heap := h', toks := s5.toks } := I5.turned (it := C) (fun b o hb e => (sb'.2 b hb).trans e) nC fo.2.1 fo.2.2.2.1 fo.2.2.2.2.1 fo.2.2.2.2.2
  refine wpAny_pure ⟨σ.set i (some (.ref Dl)), H', I6, hq as' H' _ Ext.refl rp' ?_⟩
  rw [hρ]
  exact en'.set d'
end
abbrev MF := List P -> Stor -> R P
def fnM (n : Nat) (m : MS) : MF := fun ps st => match m (ps.map some ++ List.replicate (n - ps.length) none) st with
 | .nx _ st' => .ok .non st'
 | .rt p st' => .ok p st'
 | _ => .bad
def spM (K : PySem.W.Frag) (n : Nat) (mf : MF) : Sp := fun vs H Q _ => vs.length = n /\ ∃ as st ps, Rep K as st H /\ Dens K as H vs ps /\ match mf ps st with
 | .ok p st' => ∀ as' H' v, Ext as H as' H' -> Rep K as' st' H' -> Den K as' H' v p -> Q v H'
 | _ => False
abbrev FM (P' : Program) (w : World) (K : PySem.W.Frag) (mg : Str -> Option Value) (base : Heap) (k : Nat) (f : Addr) (fd : FuncData) (ps : List Str) (mf : MF) : Prop := FnOk P' w K mg base CX0 k f fd ps (spM K ps.length mf)
theorem YdR {K : PySem.W.Frag} {as : List Addr} {H : Hp} {vs : List V} {ps : List P} {N : List Str} (d : Dens K as H vs ps) : EnvOk K as H (ps.map some ++ List.replicate (N.length - ps.length) none) (L2.start N vs) :=
 ⟨by unfold L2.start; simp [d.length], fun i p e => by
  have hl := d.length
  by_cases hi : i < ps.length
  ·rw [List.getElem?_append_left (by simpa using hi), List.getElem?_map] at e
   cases q : ps[i]? with
   | none => rw [q] at e; cases e
   | some p' =>
    rw [q] at e
    cases e
    obtain ⟨v, h1, h2⟩ := d.get q
    refine ⟨v, ?_, h2⟩
    unfold L2.start
    rw [List.getElem?_append_left (by simp; omega), List.getElem?_map, h1]
    rfl
  ·rw [List.getElem?_append_right (by simpa using hi), List.getElem?_replicate] at e
   split at e <;> cases e⟩
section
variable {P' : Program} {w : World} {K : PySem.W.Frag} {mg : Str -> Option Value} {base : Heap}
theorem Fun.mirror {x qual : Str} {st : Stmt} {f : Addr} {fd : FuncData} {N ps : List Str} {k : Nat} {m : MS} (F : Fun K x qual st f fd) (S : FnScope N ps (defScope st))
 (hbody : ∀ (cdv : Value) (A : Around) (outer : List Env) (s : Shared) (H : Hp) (E : XK), Room k (A.deeper (envOfC qual (defScope st) s.heap.objs.size f cdv)) -> JSs (cxOf CX0 P' w K mg base N qual (defScope st) f cdv A outer s H E).nox (defBody st) m) :
 FM P' w K mg base (k + 1) f fd ps (fnM N.length m) := by
 refine F.ok S (fun vs H Q E h => h.1) (fun cdv A outer s H vs Q E hr h => ⟨_, hbody cdv A outer s H E hr, ?_⟩)
 obtain ⟨hl, as, st', qs, rp, d, h⟩ := h
 refine ⟨as, _, st', YdR d, rp, ?_⟩
 unfold fnM at h
 cases q : m (qs.map some ++ List.replicate (N.length - qs.length) none) st' with
 | nx ρ' s' => rw [q] at h; exact fun as' H' σ' x rp en => h as' H' .non x rp .non
 | rt p s' => rw [q] at h; exact h
 | bk ρ' s' => rw [q] at h; exact h.elim
 | ct ρ' s' => rw [q] at h; exact h.elim
 | exc k ρ' s' => rw [q] at h; exact h.elim
 | bad => rw [q] at h; exact h.elim
end
section
variable {X : Cx} {k : Nat} {f : Addr} {fd : FuncData} {ps : List Str} {mf : MF} {x : Str} {p pos : Pos} {e : Expr} {es : List Expr} {mr : MA}
def eCall (n : Nat) (mf : MF) (mr : MA) : ME := fun ρ st => (mr ρ st).bind fun ps st1 => if ps.length = n then match mf ps st1 with
 | .ok p st2 => .ok p st2
 | _ => .bad else .bad
theorem YgV (F : FM X.prog X.w X.K X.mg X.base k f fd ps mf) (hr : Room k X.A) (hg : Gl X x) (hm : X.mg x = some (.ref f)) (hk : PySem.W.keepIn X.K (.ref f) = true) (hb : Binds X.K fd ps [])
 (ha : JA X (e :: es) mr) (hdb : (x == ("__debug__" : Str)) = false := by decide) (he : starEach (e :: es) X.env = (false, eval e X.env) :: starEach es X.env := by rfl) (hpl : (backTo pos (starEach es X.env)).any (·.1) = false := by rfl) :
 JE X (.Call (.Name x p) (e :: es) [] pos) (eCall ps.length mf mr) :=
 PE.imp (YgK F hr hg hm hk hb .nil (pass0 (X := X)) ha hdb he hpl) fun σ H Q ⟨as, ρ, st, en, rp, h⟩ => ⟨as, ρ, st, en, rp, Post.bindA h fun qs st1 as1 H1 vs x rp1 d h1 => by
  rw [List.append_nil]
  by_cases hl : qs.length = ps.length
  ·rw [if_pos hl] at h1
   refine ⟨by rw [d.length]; exact hl, as1, st1, qs, rp1, d, ?_⟩
   cases z : mf qs st1 with
   | ok p' st2 => rw [z] at h1; exact h1
   | exc k s' => rw [z] at h1; exact h1.elim
   | bad => rw [z] at h1; exact h1.elim
  ·rw [if_neg hl] at h1; exact h1.elim⟩
end
abbrev GC := List P -> Stor -> Option (P × Stor)
def rMC (X : Cx) (g : GC) : List V -> Hp -> VK -> Prop := fun xs H Q => ∃ as st ps, Rep X.K as st H /\ Dens X.K as H xs ps /\ PostO X as H (g ps st) Q
def eB (g : GC) (mr : MA) : ME := fun ρ st => (mr ρ st).bind fun ps st1 => ofO (g ps st1)
section
variable {X : Cx} {x : Str} {p pos : Pos} {e : Expr} {es : List Expr} {mr : MA} {id T : String} {g : GC}
theorem CallR.imp {f : Value} {r r' : List V -> Hp -> VK -> Prop} (h : CallR X f r) (i : ∀ xs H Q, r' xs H Q -> r xs H Q) : CallR X f r' := fun pins s σ H xs us Q I rv q => h pins s σ H xs us Q I rv (i xs H Q q)
theorem YeU {σ : St} {H : Hp} {Q : VK} (h : tE X (eB g mr) σ H Q) : tCB (rMC X g) (tA X mr) σ H Q := by
 obtain ⟨as, ρ, st, en, rp, h⟩ := h
 exact ⟨as, ρ, st, en, rp, Post.bindA h fun ps st1 as1 H1 vs x rp1 d h1 => ⟨as1, st1, ps, rp1, d, Post.ofO h1⟩⟩
theorem je_B (hc : CallR X (.builtin id) (rMC X g)) (hg : Gl X x) (hm : X.mg x = none) (hv : bootBuiltins x = some (.builtin id)) (ha : JA X (e :: es) mr) (hn : x ≠ "__name__" := by decide) (hdb : (x == ("__debug__" : Str)) = false := by decide)
 (he : starEach (e :: es) X.env = (false, eval e X.env) :: starEach es X.env := by rfl) (hpl : (backTo pos (starEach es X.env)).any (·.1) = false := by rfl) : JE X (.Call (.Name x p) (e :: es) [] pos) (eB g mr) :=
 PE.imp (Je hc hg hm hv ha hn hdb he hpl) fun _ _ _ h => YeU h
theorem YhK (hc : CallR X (.type T) (rMC X g)) (hg : Gl X x) (hm : X.mg x = none) (hv : bootBuiltins x = some (.type T)) (ha : JA X (e :: es) mr) (hn : x ≠ "__name__" := by decide) (hdb : (x == ("__debug__" : Str)) = false := by decide)
 (he : starEach (e :: es) X.env = (false, eval e X.env) :: starEach es X.env := by rfl) (hpl : (backTo pos (starEach es X.env)).any (·.1) = false := by rfl) : JE X (.Call (.Name x p) (e :: es) [] pos) (eB g mr) :=
 PE.imp (Yal hc hg hm hv ha hn hdb he hpl) fun _ _ _ h => YeU h
theorem cM {f : Value} (h : ∀ pins s σ H xs us Q as st ps, Inv X pins σ H s -> Vals xs us -> Rep X.K as st H -> Dens X.K as H xs ps -> PostO X as H (g ps st) Q -> wpAny (model X.prog X.w) X.A (call f us) (EP X pins σ Q) X.xe s) : CallR X f (rMC X g) :=
 fun pins s σ H xs us Q I rv ⟨as, st, ps, rp, d, po⟩ => h pins s σ H xs us Q as st ps I rv rp d po
def lenP : GC := fun ps st => match ps with
 | [.str z] => if z.length <= cap then okP (.int z.length) st else none
 | [.ref k] => match st[k]? with
  | some (.lst xs) => okP (.int xs.length) st
  | some (.ro xs) => okP (.int xs.length) st
  | some (.dct kvs) => okP (.int kvs.length) st
  | _ => none
 | [.tup xs] => okP (.int xs.length) st
 | _ => none
theorem Dens.one {K : PySem.W.Frag} {as : List Addr} {H : Hp} {xs : List V} {p : P} (d : Dens K as H xs [p]) : ∃ v, xs = [v] /\ Den K as H v p := by
 cases d with
 | cons a b => cases b; exact ⟨_, rfl, a⟩
theorem Dens.two {K : PySem.W.Frag} {as : List Addr} {H : Hp} {xs : List V} {p q : P} (d : Dens K as H xs [p, q]) : ∃ v w, xs = [v, w] /\ Den K as H v p /\ Den K as H w q := by
 cases d with
 | cons a b =>
  cases b with
  | cons c d => cases d; exact ⟨_, _, rfl, a, c⟩
theorem YjT {ps : List P} {α : Type} {f : P -> Option α} {r : α} (h : (match ps with | [p] => f p | _ => none) = some r) : ∃ p, ps = [p] /\ f p = some r := by
 match ps, h with
 | [p], h => exact ⟨p, rfl, h⟩
theorem Yr : CallR X (.builtin "len") (rMC X lenP) := cM fun pins s σ H xs us Q as st ps I rv rp d h => by
 match ps, d, h with
 | [], _, h => exact h.elim
 | _ :: _ :: _, _, h => exact (by simp only [lenP] at h; exact h.elim)
 | [p], d, h =>
  obtain ⟨v, rfl, d1⟩ := d.one
  cases d1 with
  | @str z =>
   have h' : PostO X as H (if z.length <= cap then okP (.int z.length) st else none) Q := h
   by_cases hz : z.length <= cap
   ·rw [if_pos hz] at h'
    exact Ya8 pins s σ H _ us Q I rv ⟨z, _, rfl, Nat.le_trans hz Yi, h' as H _ Ext.refl rp .int⟩
   ·rw [if_neg hz] at h'; exact h'.elim
  | tup e r =>
   refine ZW pins s σ H _ us Q I rv ⟨_, _, rfl, .inr e, ?_⟩
   rw [r.length]
   exact h as H _ Ext.refl rp .int
  | @ref k a e =>
   have h' : PostO X as H (match st[k]? with | some (.lst xs) => okP (.int xs.length) st | some (.ro xs) => okP (.int xs.length) st | some (.dct kvs) => okP (.int kvs.length) st | _ => none) Q := h
   cases q : st[k]? with
   | none => rw [q] at h'; exact h'.elim
   | some o =>
    rw [q] at h'
    have ob := rp.ob k a o e q
    cases o with
    | lst ys =>
     obtain ⟨vs, h1, h2⟩ := ob
     refine ZW pins s σ H _ us Q I rv ⟨_, _, rfl, .inl (.of h1), ?_⟩
     rw [h2.length]
     exact h' as H _ Ext.refl rp .int
    | ro ys =>
     obtain ⟨vs, h1, h2⟩ := ob
     refine ZW pins s σ H _ us Q I rv ⟨_, _, rfl, .inl (ZA h1), ?_⟩
     rw [h2.length]
     exact h' as H _ Ext.refl rp .int
    | dct kvs =>
     obtain ⟨ws, h1, h2, h3⟩ := ob
     refine Yem pins s σ H _ us Q I rv ⟨_, _, rfl, h1, ?_⟩
     have : ws.length = kvs.length := by simpa using congrArg List.length h2
     rw [this]
     exact h' as H _ Ext.refl rp .int
    | exc c fs => exact h'.elim
    | dtt kvs => exact h'.elim
    | fdc kvs => exact h'.elim
  | _ => exact h.elim
def tupleP : GC := fun ps st => match ps with
 | [p] => match seqAt p st with
  | some xs => okP (.tup xs) st
  | none => none
 | _ => none
theorem YbX : CallR X (.type "tuple") (rMC X tupleP) := cM fun pins s σ H xs us Q as st ps I rv rp d h => by
 match ps, d, h with
 | [], _, h => exact h.elim
 | _ :: _ :: _, _, h => exact (by simp only [tupleP] at h; exact h.elim)
 | [p], d, h =>
  obtain ⟨v, rfl, d1⟩ := d.one
  have h' : PostO X as H (match seqAt p st with | some xs => okP (.tup xs) st | none => none) Q := h
  cases q : seqAt p st with
  | none => rw [q] at h'; exact h'.elim
  | some xs =>
   rw [q] at h'
   obtain ⟨a, vs, rfl, hq, r⟩ := Yhh rp d1 q
   refine WD pins s σ H _ us Q I rv ⟨a, vs, rfl, ?_⟩
   rcases hq with hq | ⟨hq, tk⟩
   ·exact .inl ⟨hq, fun l hl => h' as _ _ (Ext.laid hl) (rp.laid hl) (.tup (.of Yh) (r.ext (Ext.laid hl)))⟩
   ·exact .inr ⟨hq, h' as H _ Ext.refl rp (.tup hq r)⟩
def eTupL (m : MA) : ME := fun ρ st => (m ρ st).bind fun ps st1 => .ok (.tup ps) st1
theorem Zz {m : MA} (hg : Gl X "tuple") (hm : X.mg "tuple" = none) (hv : bootBuiltins "tuple" = some (.type "tuple")) (h : JL X e m)
 (he : starEach [e] X.env = (false, eval e X.env) :: starEach [] X.env := by rfl) : JE X (.Call (.Name "tuple" p) [e] [] pos) (eTupL m) :=
 PE.imp (Yal WD hg hm hv (Wu h JF he) (by decide) (by decide) he) fun σ H Q ⟨as, ρ, st, en, rp, h⟩ => ⟨as, ρ, st, en, rp, Post.bindL h fun ps st1 as1 H1 l vs x rp1 hl fr d h1 =>
  ⟨l, vs, rfl, .inl ⟨.of hl, fun p hp => h1 as1 _ _ (Ext.laid hp) (rp1.laid hp) (.tup (.of Yh) (d.ext (Ext.laid hp)))⟩⟩⟩
end
abbrev GM := P -> List P -> Stor -> Option (P × Stor)
def rMM (X : Cx) (g : GM) : V -> List V -> Hp -> VK -> Prop := fun x xs H Q => ∃ as st p ps, Rep X.K as st H /\ Den X.K as H x p /\ Dens X.K as H xs ps /\ PostO X as H (g p ps st) Q
def isStr : P -> Stor -> Bool := fun p _ => match p with
 | .str _ => true
 | _ => false
def isLst : P -> Stor -> Bool := fun p st => match p with
 | .ref k => (match st[k]? with
  | some (.lst _) => true
  | some (.ro _) => true
  | _ => false)
 | _ => false
def eM (ty : P -> Stor -> Bool) (g : GM) (me : ME) (mr : MA) : ME := fun ρ st => (me ρ st).bind fun p st1 => if ty p st1 = true then (mr ρ st1).bind fun ps st2 => ofO (g p ps st2) else .bad
def TyIs (T : String) (ty : P -> Stor -> Bool) : Prop := ∀ (K : PySem.W.Frag) as st H v p, Rep K as st H -> Den K as H v p -> ty p st = true -> tyV K T v H
theorem Vn : TyIs "str" isStr := fun K as st H v p rp d h => by
 cases d with
 | str => rfl
 | _ => cases h
theorem YcK : TyIs "list" isLst := fun K as st H v p rp d h => by
 cases d with
 | @ref k a e =>
  have h' : (match st[k]? with | some (.lst _) => true | some (.ro _) => true | _ => false) = true := h
  cases q : st[k]? with
  | none => rw [q] at h'; cases h'
  | some o =>
   rw [q] at h'
   have ob := rp.ob k a o e q
   cases o with
   | lst ys => obtain ⟨vs, h1, _⟩ := ob; exact .inl ⟨rfl, vs, .of h1⟩
   | ro ys => obtain ⟨vs, h1, _⟩ := ob; exact .inl ⟨rfl, vs, ZA h1⟩
   | dct ys => cases h'
   | exc c fs => cases h'
   | dtt kvs => cases h'
   | fdc kvs => cases h'
 | _ => cases h
section
variable {X : Cx} {o e : Expr} {es : List Expr} {me : ME} {mr : MA} {name : Str} {apos cpos : Pos} {T id : String} {g : GM} {ty : P -> Stor -> Bool}
theorem je_M (hT : TyIs T ty) (pa : PlainAttrs T) (slot : Slot T name id) (hty : typeOf (.builtin id) = pure (.type "method_descriptor")) (hm : MtR X id (rMM X g)) (ho : JE X o me) (ha : JA X (e :: es) mr)
 (hbase : attributeBase o name X.env (eval o X.env) = eval o X.env := by rfl)
 (hfew : ((backTo cpos (starEach (e :: es) X.env)).all (fun x => !x.1) && (backToKw cpos (keywordEach [] X.env)).all (fun x => x.1.isSome)
  && decide ((e :: es).length + ([] : List Keyword).length + (if ([] : List Keyword).isEmpty then 0 else 1) < 30)) = true := by rfl)
 (hline : (apos.endLine == cpos.line) = true := by rfl) (hs : starEach (e :: es) X.env = (false, eval e X.env) :: starEach es X.env := by rfl) (hplain : (backTo cpos (starEach es X.env)).any (·.1) = false := by rfl) :
 JE X (.Call (.Attribute o name apos) (e :: es) [] cpos) (eM ty g me mr) :=
 PE.imp (YhE pa slot hty hm ho ha hbase hfew hline hs hplain) fun σ H Q ⟨as, ρ, st, en, rp, h⟩ => ⟨as, ρ, st, en, rp, Post.bindE h fun p st1 as1 H1 v x rp1 d h1 => by
  by_cases z : ty p st1 = true
  ·rw [if_pos z] at h1
   exact ⟨hT _ _ _ _ _ _ rp1 d z, as1, ρ, st1, en.ext x, rp1, Post.bindA h1 fun ps st2 as2 H2 vs x2 rp2 d2 h2 => ⟨as2, st2, p, ps, rp2, d.ext x2, d2, Post.ofO h2⟩⟩
  ·rw [if_neg z] at h1; exact h1.elim⟩
theorem mM (h : ∀ pins s σ H x xs v us Q as st p ps, Inv X pins σ H s -> RelV x v -> Vals xs us -> Rep X.K as st H -> Den X.K as H x p -> Dens X.K as H xs ps -> PostO X as H (g p ps st) Q ->
 wpAny (model X.prog X.w) X.A (call (.builtin id) (v :: us)) (EP X pins σ Q) X.xe s) : MtR X id (rMM X g) :=
 fun pins s σ H x xs v us Q I rx rv ⟨as, st, p, ps, rp, d1, d2, po⟩ => h pins s σ H x xs v us Q as st p ps I rx rv rp d1 d2 po
def upperP : GM := fun p ps st => match p, ps with
 | .str x, [] => if x.length <= cap then okP (.str (Txt.upper x)) st else none
 | _, _ => none
def appendP : GM := fun p ps st => match p, ps with
 | .ref k, [q] => match lstAt st k with
  | some xs => if xs.length < cap then some (.non, st.set k (.lst (xs ++ [q]))) else none
  | none => none
 | _, _ => none
theorem VB : MtR X "list.append" (rMM X appendP) := mM fun pins s σ H x xs v us Q as st p ps I rx rv rp d1 d2 h => by
 match p, ps, d1, d2, h with
 | .ref k, [q], d1, d2, h =>
  have h' : PostO X as H (match lstAt st k with | some xs => if xs.length < cap then some (.non, st.set k (.lst (xs ++ [q]))) else none | none => none) Q := h
  cases z : lstAt st k with
  | none => rw [z] at h'; exact h'.elim
  | some ys =>
   rw [z] at h'
   obtain ⟨a, vs, rfl, e, hk, h1, h2⟩ := Ybf rp d1 z
   obtain ⟨y, rfl, dy⟩ := d2.one
   by_cases hl : ys.length < cap
   ·simp only [if_pos hl] at h'
    refine Yey pins s σ H _ _ v us Q I rx rv ⟨a, vs, y, rfl, rfl, h1, by rw [h2.length]; exact Nat.lt_of_lt_of_le hl Yi, ?_⟩
    exact h' as _ _ (Ext.write h1 trivial) (rp.lset e h1 hk (h2.append (.cons dy .nil))) .non
   ·simp only [if_neg hl] at h'; exact h'.elim
 | .ref k, [], _, _, h => exact h.elim
 | .ref k, _ :: _ :: _, _, _, h => exact h.elim
 | .non, _, _, _, h => exact h.elim
 | .bl _, _, _, _, h => exact h.elim
 | .int _, _, _, _, h => exact h.elim
 | .str _, _, _, _, h => exact h.elim
 | .tup _, _, _, _, h => exact h.elim
def strsP : List P -> Option (List Str)
 | [] => some []
 | .str x :: r => (strsP r).map (x :: ·)
 | _ :: _ => none
theorem WS {K : PySem.W.Frag} {as : List Addr} {H : Hp} : ∀ {ps : List P} {vs : List V} {us : List Value} {ys : List Str}, Dens K as H vs ps -> Vals vs us -> strsP ps = some ys -> StrsAre us ys
 | [], _, _, _, .nil, .nil, h => by cases h; exact .nil
 | p :: r, _, _, ys, .cons d d', .cons r1 r2, h => by
  cases d with
  | @str x =>
   have h' : (strsP r).map (x :: ·) = some ys := h
   cases q : strsP r with
   | none => rw [q] at h'; cases h'
   | some zs =>
    rw [q] at h'
    cases h'
    cases r1
    exact .cons x _ (WS d' r2 q)
  | _ => cases h
theorem YbB {vs : List V} {u : Value} (r : Vals vs [u]) : ∃ v, vs = [v] /\ RelV v u := by
 cases r with
 | cons r1 r2 => cases r2; exact ⟨_, rfl, r1⟩
theorem YgJ {K : PySem.W.Frag} {as : List Addr} {H : Hp} {ps : List P} {v : V} {ys : List Str} {z : Str} (d : Dens K as H [v] ps) (h : strsP ps = some ys) : Den K as H v (.str (Txt.join z ys)) := by
 cases d with
 | cons d1 d2 =>
  cases d2
  cases d1 with
  | str hx zx =>
   cases h
   exact .str hx zx
  | _ => cases h
def joinLen (x : Str) (ys : List Str) : Nat := (ys.map (·.length)).sum + ys.length * x.length
def eJoinL (me : ME) (m : MA) : ME := fun ρ st => (me ρ st).bind fun p st1 => match p with
 | .str x => (m ρ st1).bind fun ps st2 => match strsP ps with
  | some ys => if joinLen x ys <= cap then .ok (.str (Txt.join x ys)) st2 else .bad
  | none => .bad
 | _ => .bad
section
variable {prog : Program} {w : World} {A : Around} {E : Value -> Shared -> Prop} {s : Shared} {x : Str} {t : Tok} {Q : Value -> Shared -> Prop}
theorem WM {l : List (Str × Tok)} (hf : (Txt.join x (l.map (·.1))).length <= sizeLine) (h1 : ∀ y u, strValues l = [.str y u] -> Q (.str y u) s) (h2 : Q (.str (Txt.join x (l.map (·.1))) s.toks) { s with toks := s.toks + 1 }) : (joinMade x l).post Q s :=
 match l, hf, h1, h2 with
 | [], hf, _, h2 => ⟨hf, h2⟩
 | [p], _, h1, _ => h1 p.1 p.2 rfl
 | _ :: _ :: _, hf, _, h2 => ⟨hf, h2⟩
theorem Ygi {D : Addr} {items : List Value} {ys : List Str} (hl : s.heap.IsList D items.toArray \/ IsTup s.heap D items.toArray) (hi : StrsAre items ys) (hok : (ys.map (·.length)).sum + ys.length * x.length <= 16777216)
 (h1 : ∀ y u, items = [.str y u] -> Q (.str y u) s) (h2 : Q (.str (Txt.join x ys) s.toks) { s with toks := s.toks + 1 }) : wpAny (model prog w) A (call (.builtin "str.join") [.str x t, .ref D]) Q E s := by
 obtain ⟨l, hv, ht⟩ := strsAre_values hi
 subst hv
 subst ht
 have hok' := joinOk_of hok
 unfold JoinOk at hok'
 rw [Bool.not_eq_true'] at hok'
 rcases hl with hl | ⟨o, ho, hc, n, hd⟩
 ·exact call_meets PySem.F.slot_str_join (typeIs_str _ _ _) PySem.F.entry_str_join (PySem.F.args_str_join_2 _ _) (meets_str_join_list x t D l hok') ⟨hl, WM (joinFit_length hok') h1 h2⟩
 ·exact call_meets PySem.F.slot_str_join (typeIs_str _ _ _) PySem.F.entry_str_join (PySem.F.args_str_join_2 _ _) (meets_str_join_tuple x t D l hok') ⟨⟨o, n, ho, hc, hd⟩, WM (joinFit_length hok') h1 h2⟩
end
theorem Yfm : MtR X "str.join" (fun x xs H Q => ∃ z tz a vs ys, x = .str z tz /\ xs = [.ref a] /\ (SqL X.K H a vs \/ SqT X.K H a vs) /\ (∀ us, Vals vs us -> StrsAre us ys) /\ joinLen z ys <= cap /\ (∀ v, vs = [v] -> Q v H) /\ MkT (Txt.join z ys) Q H) := by
 intro pins s σ H x xs v us Q I rx rv h
 obtain ⟨z, tz, a, vs, ys, rfl, rfl, hq, hs, hl, q0, q⟩ := h
 cases rx
 obtain ⟨u, rfl, ru⟩ := rv.one
 cases ru
 have hc : joinLen z ys <= 16777216 := Nat.le_trans hl (by decide)
 rcases hq with hq | hq
 ·obtain ⟨its, r, p, _⟩ := I.list hq
  refine Ygi (.inl p.isList) (hs _ r) hc (fun y u e => ?_) ⟨.str _ _, _, I.txt, rfl, q _ I.fresh_tok.1 I.fresh_tok.2⟩
  subst e
  obtain ⟨v, rv1, e2⟩ := YbB r
  exact ⟨v, H, I, e2, q0 v rv1⟩
 ·obtain ⟨its, r, p, _⟩ := I.tuple hq
  refine Ygi (.inr p) (hs _ r) hc (fun y u e => ?_) ⟨.str _ _, _, I.txt, rfl, q _ I.fresh_tok.1 I.fresh_tok.2⟩
  subst e
  obtain ⟨v, rv1, e2⟩ := YbB r
  exact ⟨v, H, I, e2, q0 v rv1⟩
theorem ZH {m : MA} (ho : JE X o me) (h : JL X e m)
 (hbase : attributeBase o "join" X.env (eval o X.env) = eval o X.env := by rfl)
 (hfew : ((backTo cpos (starEach [e] X.env)).all (fun x => !x.1) && (backToKw cpos (keywordEach [] X.env)).all (fun x => x.1.isSome)
  && decide (([e] : List Expr).length + ([] : List Keyword).length + (if ([] : List Keyword).isEmpty then 0 else 1) < 30)) = true := by rfl)
 (hline : (apos.endLine == cpos.line) = true := by rfl) (hs : starEach [e] X.env = (false, eval e X.env) :: starEach [] X.env := by rfl) : JE X (.Call (.Attribute o "join" apos) [e] [] cpos) (eJoinL me m) :=
 PE.imp (YhE PySem.F.plainAttrs_str PySem.F.slot_str_join PySem.F.type_str_join Yfm ho (Wu h JF hs) hbase hfew hline hs) fun σ H Q ⟨as, ρ, st, en, rp, h⟩ => ⟨as, ρ, st, en, rp, Post.bindE h fun p st1 as1 H1 v x rp1 d h1 => by
  cases d with
  | @str z =>
   refine ⟨rfl, as1, ρ, st1, en.ext x, rp1, Post.bindL h1 fun ps st2 as2 H2 l vs x2 rp2 hl fr d2 h2 => ?_⟩
   cases q : strsP ps with
   | none => rw [q] at h2; exact h2.elim
   | some ys =>
    rw [q] at h2
    by_cases hz : joinLen z ys <= cap
    ·simp only [if_pos hz] at h2
     exact ⟨z, _, l, vs, ys, rfl, rfl, .inl (.of hl), fun us r => WS d2 r q, hz, fun v e => h2 as2 H2 _ Ext.refl rp2 (by subst e; exact YgJ d2 q), mkT rp2 fun as3 H3 v x3 r3 d3 => h2 as3 H3 v x3 r3 d3⟩
    ·simp only [if_neg hz] at h2; exact h2.elim
  | _ => exact h1.elim⟩
end
def keyP : P -> Option Key
 | .int i => some (.inl i)
 | .str x => some (.inr x)
 | _ => none
theorem Jd {K : PySem.W.Frag} {as : List Addr} {H : Hp} {v : V} {p : P} {k : Key} (d : Den K as H v p) (h : keyP p = some k) : KeyV k v := by
 cases d with
 | int => cases h; rfl
 | str => cases h; exact ⟨_, rfl⟩
 | _ => cases h
def valP {κ : Type} [DecidableEq κ] (kvs : List (κ × P)) (k : κ) : Option P := (kvs.find? fun kv => decide (kv.1 = k)).map (·.2)
def putP {κ : Type} [DecidableEq κ] (kvs : List (κ × P)) (k : κ) (v : P) : List (κ × P) :=
 if (kvs.any fun kv => decide (kv.1 = k)) = true then kvs.map fun kv => if kv.1 = k then (kv.1, v) else kv else kvs ++ [(k, v)]
inductive OptDen (K : PySem.W.Frag) (as : List Addr) (H : Hp) : Option V -> Option P -> Prop where
 | none : OptDen K as H none none
 | some {v : V} {p : P} : Den K as H v p -> OptDen K as H (some v) (some p)
section
variable {K : PySem.W.Frag} {as : List Addr} {H : Hp}
theorem Wh {κ : Type} [DecidableEq κ] {k : κ} : ∀ {ws : List (κ × V)} {kvs : List (κ × P)}, ws.map (·.1) = kvs.map (·.1) -> Dens K as H (ws.map (·.2)) (kvs.map (·.2)) -> OptDen K as H (valV ws k) (valP kvs k)
 | [], [], _, _ => .none
 | [], _ :: _, h, _ => by simp at h
 | _ :: _, [], h, _ => by simp at h
 | (k1, v) :: ws, (k2, p) :: kvs, h, d => by
  simp only [List.map_cons, List.cons.injEq] at h
  obtain ⟨rfl, h⟩ := h
  cases d with
  | cons d1 d2 =>
   by_cases e : k1 = k
   ·rw [Vb (p := (k1, v)) e]
    have : valP ((k1, p) :: kvs) k = some p := by simp [valP, List.find?_cons, e]
    rw [this]; exact .some d1
   ·rw [W3 (p := (k1, v)) e]
    have : valP ((k1, p) :: kvs) k = valP kvs k := by simp [valP, List.find?_cons, e]
    rw [this]; exact Wh h d2
theorem Ydu {κ : Type} [DecidableEq κ] {k : κ} {v : V} {p : P} (dv : Den K as H v p) {ws : List (κ × V)} {kvs : List (κ × P)} (h : ws.map (·.1) = kvs.map (·.1)) (d : Dens K as H (ws.map (·.2)) (kvs.map (·.2))) :
 (putK ws k v).map (·.1) = (putP kvs k p).map (·.1) /\ Dens K as H ((putK ws k v).map (·.2)) ((putP kvs k p).map (·.2)) := by
 have hany : (ws.any fun kv => decide (kv.1 = k)) = (kvs.any fun kv => decide (kv.1 = k)) := by
  have e1 : (ws.any fun kv => decide (kv.1 = k)) = (ws.map (·.1)).any fun x => decide (x = k) := by rw [List.any_map]; rfl
  have e2 : (kvs.any fun kv => decide (kv.1 = k)) = (kvs.map (·.1)).any fun x => decide (x = k) := by rw [List.any_map]; rfl
  rw [e1, e2, h]
 unfold putK putP
 rw [hany]
 by_cases z : (kvs.any fun kv => decide (kv.1 = k)) = true
 ·rw [if_pos z, if_pos z]
  clear z hany
  induction ws generalizing kvs with
  | nil =>
   cases kvs with
   | nil => exact ⟨rfl, .nil⟩
   | cons a b => simp at h
  | cons a ws ih =>
   cases kvs with
   | nil => simp at h
   | cons b kvs =>
    obtain ⟨k1, v1⟩ := a
    obtain ⟨k2, p2⟩ := b
    simp only [List.map_cons, List.cons.injEq] at h
    obtain ⟨rfl, h⟩ := h
    cases d with
    | cons d1 d2 =>
     obtain ⟨i1, i2⟩ := ih h d2
     simp only [List.map_cons]
     by_cases e : k1 = k
     ·simp only [if_pos e]
      exact ⟨by rw [i1], .cons dv i2⟩
     ·simp only [if_neg e]
      exact ⟨by rw [i1], .cons d1 i2⟩
 ·rw [if_neg z, if_neg z, List.map_append, List.map_append, List.map_append, List.map_append, h]
  exact ⟨rfl, d.append (.cons dv .nil)⟩
theorem JR {st : Stor} {k : Nat} {kvs : List (Key × P)} {v : V} (rp : Rep K as st H) (d : Den K as H v (.ref k)) (h : st[k]? = some (.dct kvs)) :
 ∃ a ws, v = .ref a /\ as[k]? = some a /\ H a = some (.dK ws) /\ ws.map (·.1) = kvs.map (·.1) /\ Dens K as H (ws.map (·.2)) (kvs.map (·.2)) := by
 cases d with
 | ref e =>
  obtain ⟨ws, h1, h2, h3⟩ := rp.ob k _ _ e h
  exact ⟨_, ws, rfl, e, h1, h2, h3⟩
end
def ixI (xs : List P) (q : P) (st : Stor) : Option (P × Stor) := match q with
 | .int i => (atI xs i).map fun p => (p, st)
 | _ => none
def ixP : G2 := fun p q st => match p with
 | .str z => (match q with
  | .int i => if z.length <= cap then (atI z.cps.toList i).map fun c => (P.str ⟨#[c]⟩, st) else none
  | _ => none)
 | .tup xs => ixI xs q st
 | .ref k => (match st[k]? with
  | some (.lst xs) => ixI xs q st
  | some (.ro xs) => ixI xs q st
  | some (.dct kvs) => (match keyP q with
   | some k => (valP kvs k).map fun p => (p, st)
   | none => none)
  | _ => none)
 | _ => none
theorem IxR.imp {X : Cx} {r r' : R2} (h : IxR X r) (i : ∀ x y H Q, r' x y H Q -> r x y H Q) : IxR X r' := fun value slice pins s σ H x y v u Q I rx ry q => h value slice pins s σ H x y v u Q I rx ry (i x y H Q q)
theorem Ybo {K : PySem.W.Frag} {as : List Addr} {H : Hp} {vs : List V} {xs : List P} {i : Int} {p : P} (d : Dens K as H vs xs) (h : atI xs i = some p) : ∃ v, atI vs i = some v /\ Den K as H v p := by
 unfold atI at h ⊢
 rw [d.length]
 cases e : ixN xs.length i with
 | none => rw [e] at h; cases h
 | some j =>
  rw [e] at h
  obtain ⟨v, h1, h2⟩ := d.get (show xs[j]? = some p from h)
  exact ⟨v, h1, h2⟩
section
variable {X : Cx} {a b c o i e : Expr} {ma mb mo mi me : ME} {pos pos' : Pos}
theorem Yhm (hu : X.A.units + 1 < cLine) : IxR X (fun x y H Q => ∃ a v, x = .ref a /\ DGet H a y (some v) /\ Q v H) := by
 intro value slice pins s σ H x y v u Q I rx ry h hs
 obtain ⟨a, w, rfl, g, q⟩ := h
 cases rx
 exact tail_any (YbZ I g) PySem.F.slot_dict_getitem.lookup (Yew hu I g ry fun w' s3 I3 rw' => ⟨w, H, I3, rw', q⟩) hs
theorem Yjj (hu : X.A.units + 1 < cLine) : IxR X (rM X ixP) := IxR.imp ((YhT (X := X)).or (Yhm hu)) fun x y H Q ⟨as, st, p, q, rp, d1, d2, h⟩ => by
 cases d1 with
 | @str z =>
  cases d2 with
  | @int j =>
   have h' : PostO X as H (if z.length <= cap then (atI z.cps.toList j).map fun c => (P.str ⟨#[c]⟩, st) else none) Q := h
   by_cases hz : z.length <= cap
   ·rw [if_pos hz] at h'
    cases e : atI z.cps.toList j with
    | none => rw [e] at h'; exact h'.elim
    | some c => rw [e] at h'; exact .inl (.inr (.inr ⟨z, _, j, c, rfl, rfl, Nat.le_trans hz Yi, e, mkT rp fun as1 H1 v x r d => h' as1 H1 v x r d⟩))
   ·rw [if_neg hz] at h'; exact h'.elim
  | _ => exact h.elim
 | @tup a vs xs e r =>
  cases d2 with
  | @int j =>
   have h' : PostO X as H ((atI xs j).map fun p => (p, st)) Q := h
   cases q : atI xs j with
   | none => rw [q] at h'; exact h'.elim
   | some p =>
    rw [q] at h'
    obtain ⟨v, h1, h2⟩ := Ybo r q
    exact .inl (.inr (.inl ⟨a, vs, j, v, rfl, rfl, e, h1, h' as H _ Ext.refl rp h2⟩))
  | _ => exact h.elim
 | @ref k a e =>
  have h' : PostO X as H (match st[k]? with
   | some (.lst xs) => ixI xs q st
   | some (.ro xs) => ixI xs q st
   | some (.dct kvs) => (match keyP q with
    | some k => (valP kvs k).map fun p => (p, st)
    | none => none)
   | _ => none) Q := h
  cases w : st[k]? with
  | none => rw [w] at h'; exact h'.elim
  | some ob =>
   rw [w] at h'
   have r := rp.ob k a ob e w
   cases ob with
   | lst xs =>
    obtain ⟨vs, h1, h2⟩ := r
    cases d2 with
    | @int j =>
     have h' : PostO X as H ((atI xs j).map fun p => (p, st)) Q := h'
     cases q : atI xs j with
     | none => rw [q] at h'; exact h'.elim
     | some p =>
      rw [q] at h'
      obtain ⟨v, g1, g2⟩ := Ybo h2 q
      exact .inl (.inl ⟨a, vs, j, v, rfl, rfl, .of h1, g1, h' as H _ Ext.refl rp g2⟩)
    | _ => exact h'.elim
   | ro xs =>
    obtain ⟨vs, h1, h2⟩ := r
    cases d2 with
    | @int j =>
     have h' : PostO X as H ((atI xs j).map fun p => (p, st)) Q := h'
     cases q : atI xs j with
     | none => rw [q] at h'; exact h'.elim
     | some p =>
      rw [q] at h'
      obtain ⟨v, g1, g2⟩ := Ybo h2 q
      exact .inl (.inl ⟨a, vs, j, v, rfl, rfl, ZA h1, g1, h' as H _ Ext.refl rp g2⟩)
    | _ => exact h'.elim
   | dct kvs =>
    obtain ⟨ws, h1, h2, h3⟩ := r
    cases z : keyP q with
    | none => simp only [z] at h'; exact h'.elim
    | some key =>
     simp only [z] at h'
     have ev := Jd d2 z
     cases zz : valP kvs key with
     | none => rw [zz] at h'; exact h'.elim
     | some p =>
      rw [zz] at h'
      have od := Wh (k := key) h2 h3
      rw [zz] at od
      cases hv : valV ws key with
      | none => rw [hv] at od; cases od
      | some v =>
       rw [hv] at od
       cases od with
       | some dd => exact .inr ⟨a, v, rfl, by rw [<- hv]; exact DGet.k h1 ev, h' as H _ Ext.refl rp dd⟩
   | exc c fs => exact h'.elim
   | dtt kvs => exact h'.elim
   | fdc kvs => exact h'.elim
 | _ => exact h.elim
theorem YjK (hu : X.A.units + 1 < cLine) (ha : JE X a ma) (hb : JE X b mb) (hs : PlainIx b) : JE X (.Subscript a b pos) (eBin ixP ma mb) := PE.imp (Yjk (Yjj hu) ha hb hs) fun _ _ _ h => Ya1 h
def setP (o i v : P) (st : Stor) : Option Stor := match o with
 | .ref k => (match st[k]? with
  | some (.lst xs) => (match i with
   | .int j => (ixN xs.length j).map fun n => st.set k (.lst (xs.set n v))
   | _ => none)
  | some (.dct kvs) => (match keyP i with
   | some key => if kvs.length < cap then some (st.set k (.dct (putP kvs key v))) else none
   | none => none)
  | _ => none)
 | _ => none
def sPut (mo mi me : ME) : MS := fun ρ st => RS.ofE ρ (me ρ st) fun v st1 => RS.ofE ρ (mo ρ st1) fun o st2 => RS.ofE ρ (mi ρ st2) fun i st3 => match setP o i v st3 with
 | some st4 => .nx ρ st4
 | none => .bad
theorem YiB (hu : X.A.units + 1 < cLine) {to ti te : TE} (ho : PE X o to) (hi : PE X i ti) (hv : PE X e te) (hs : swapsWith e (some (.Subscript o i pos')) pos.line X.env = pure false) :
 PS X (.Assign [.Subscript o i pos'] e pos) (fun D σ H => te σ H fun v H1 => to σ H1 fun x H2 => ti σ H2 fun y H3 => rSetL x y v H3 (fun H4 => D.nx σ H4) \/ ∃ a H4, x = .ref a /\ DPut H3 a y v H4 /\ D.nx σ H4) := by
 intro pins s σ H D I h
 refine wpAny_Assign_Subscript (thn (hv pins s σ H _ I h) fun r s1 ⟨v, H1, I1, rv, q1⟩ => thn (ho pins s1 σ H1 _ I1 q1) fun u s2 ⟨x, H2, I2, rx, q2⟩ => thn (hi pins s2 σ H2 _ I2 q2) fun iv s3 ⟨y, H3, I3, ry, q3⟩ => ?_) hs
 rcases q3 with q3 | ⟨a, H4, ex, g, q3⟩
 ·exact thn (Yf4 pins s3 σ H3 x y v u iv r _ I3 rx ry rv q3) fun _ s4 ⟨H4, I4, q4⟩ => ⟨σ, H4, I4, q4⟩
 ·subst ex
  obtain rfl : u = Value.ref a := rx
  exact Yee hu I3 g ry rv fun s4 I4 => ⟨σ, H4, I4, q3⟩
theorem YaY (hu : X.A.units + 1 < cLine) (ho : JE X o mo) (hi : JE X i mi) (hv : JE X e me) (hs : swapsWith e (some (.Subscript o i pos')) pos.line X.env = pure false := by rfl) : JS X (.Assign [.Subscript o i pos'] e pos) (sPut mo mi me) :=
 PS.imp (YiB hu ho hi hv hs) fun D σ H ⟨as, ρ, st, en, rp, h⟩ => ⟨as, ρ, st, en, rp, PostS.ofE h fun pv st1 as1 H1 v x1 rp1 dv h1 => ⟨as1, ρ, st1, en.ext x1, rp1, PostS.ofE h1 fun po st2 as2 H2 x x2 rp2 dx h2 =>
  ⟨as2, ρ, st2, (en.ext x1).ext x2, rp2, PostS.ofE h2 fun pi st3 as3 H3 y x3 rp3 dy h3 => by
   have dv := (dv.ext x2).ext x3
   have dx := dx.ext x3
   have en3 := ((en.ext x1).ext x2).ext x3
   cases q : setP po pi pv st3 with
   | none => rw [q] at h3; exact h3.elim
   | some st4 =>
    rw [q] at h3
    unfold setP at q
    cases po with
    | ref k =>
     simp only at q
     cases w : st3[k]? with
     | none => rw [w] at q; cases q
     | some ob =>
      rw [w] at q
      cases ob with
      | lst xs =>
       simp only at q
       cases pi with
       | int j =>
        simp only at q
        cases z : ixN xs.length j with
        | none => rw [z] at q; cases q
        | some n =>
         rw [z] at q
         cases q
         obtain ⟨a, vs, rfl, e1, e2, h4, h5⟩ := Ybf (xs := xs) rp3 dx (by unfold lstAt; rw [w])
         cases dy with
         | int => exact .inl ⟨a, vs, j, n, rfl, rfl, h4, by rw [h5.length]; exact z, h3 as3 _ _ (Ext.write h4 trivial) (rp3.lset e1 h4 e2 (Dens.set dv n h5)) (en3.ext (Ext.write h4 trivial))⟩
       | _ => cases q
      | dct kvs =>
       simp only at q
       cases z : keyP pi with
       | none => rw [z] at q; cases q
       | some key =>
        rw [z] at q
        simp only at q
        by_cases hl : kvs.length < cap
        ·rw [if_pos hl] at q
         cases q
         obtain ⟨a, ws, rfl, e1, h4, h5, h6⟩ := JR rp3 dx w
         have ev := Jd dy z
         obtain ⟨g1, g2⟩ := Ydu (k := key) dv h5 h6
         have hlen : ws.length = kvs.length := by simpa using congrArg List.length h5
         refine .inr ⟨a, _, rfl, DPut.k h4 ev (by rw [hlen]; exact Nat.lt_of_lt_of_le hl Yi), ?_⟩
         exact h3 as3 _ _ (Ext.write h4 trivial) (rp3.write e1 h4 trivial (fun z => z) (by rw [w]; exact fun z => z) ⟨_, Yh, g1, g2.ext (Ext.write h4 trivial)⟩) (en3.ext (Ext.write h4 trivial))
        ·rw [if_neg hl] at q; cases q
      | ro xs => cases q
      | exc c fs => cases q
      | dtt kvs => cases q
      | fdc kvs => cases q
    | _ => cases q⟩⟩⟩
def eDict0 : ME := fun _ st => .ok (.ref st.length) (st ++ [.dct []])
theorem Ye4 : JE X (.Dict [] [] pos) eDict0 := PE.imp Yfs fun σ H Q ⟨as, ρ, st, en, rp, h⟩ p hp =>
 h (as ++ [p]) _ _ (Ext.new hp) (rp.new hp ⟨[], Yh, rfl, .nil⟩) (.ref (by rw [<- rp.len]; exact Jb))
def eGet (md mk mx : ME) : ME := fun ρ st => (md ρ st).bind fun d st1 => match d with
 | .ref k => (match st1[k]? with
  | some (.dct _) => (mk ρ st1).bind fun y st2 => (mx ρ st2).bind fun z st3 => (match st3[k]?, keyP y with
   | some (.dct kvs), some key => .ok ((valP kvs key).getD z) st3
   | _, _ => .bad)
  | _ => .bad)
 | _ => .bad
theorem Yi0 {md mk mx : ME} {f : Expr} {apos cpos : Pos} (hu : X.A.units + 1 < cLine) (ho : JE X o md) (he : JE X e mk) (hf : JE X f mx) (m : M2 X o "get" apos e f cpos) : JE X (.Call (.Attribute o "get" apos) [e, f] [] cpos) (eGet md mk mx) :=
 PE.imp (YfO hu ho he hf m) fun σ H Q ⟨as, ρ, st, en, rp, h⟩ => ⟨as, ρ, st, en, rp, Post.bindE h fun pd st1 as1 H1 x x1 rp1 dx h1 => by
  cases dx with
  | @ref k a ek =>
   simp only at h1
   cases w : st1[k]? with
   | none => rw [w] at h1; exact h1.elim
   | some ob =>
    rw [w] at h1
    cases ob with
    | dct kvs0 =>
     simp only at h1
     obtain ⟨a', ws, e0, e1, h4, h5, h6⟩ := JR rp1 (.ref ek) w
     cases e0
     refine ⟨a, rfl, .inl ⟨ws, .inl h4⟩, as1, ρ, st1, en.ext x1, rp1, Post.bindE h1 fun py st2 as2 H2 y x2 rp2 dy h2 => ⟨as2, ρ, st2, (en.ext x1).ext x2, rp2, Post.bindE h2 fun pz st3 as3 H3 z x3 rp3 dz h3 => ?_⟩⟩
     cases w3 : st3[k]? with
     | none => rw [w3] at h3; exact h3.elim
     | some ob3 =>
      rw [w3] at h3
      cases ob3 with
      | dct kvs =>
       cases zk : keyP py with
       | none => rw [zk] at h3; exact h3.elim
       | some key =>
        rw [zk] at h3
        simp only at h3
        have ea : as3[k]? = some a := x3.pre _ _ (x2.pre _ _ ek)
        obtain ⟨a3, ws3, e3, _, g4, g5, g6⟩ := JR rp3 (.ref ea) w3
        cases e3
        have ev := Jd (dy.ext x3) zk
        refine ⟨_, DGet.k g4 ev, ?_⟩
        have od := Wh (k := key) g5 g6
        refine h3 as3 H3 _ Ext.refl rp3 ?_
        cases hv : valV ws3 key with
        | none =>
         rw [hv] at od
         cases hp : valP kvs key with
         | none => exact dz
         | some q => rw [hp] at od; cases od
        | some v =>
         rw [hv] at od
         cases hp : valP kvs key with
         | none => rw [hp] at od; cases od
         | some q => rw [hp] at od; cases od with | some dd => exact dd
      | lst xs => exact h3.elim
      | ro xs => exact h3.elim
      | exc c fs => exact h3.elim
      | dtt kvs => exact h3.elim
      | fdc kvs => exact h3.elim
    | lst xs => exact h1.elim
    | ro xs => exact h1.elim
    | exc c fs => exact h1.elim
    | dtt kvs => exact h1.elim
    | fdc kvs => exact h1.elim
  | _ => exact h1.elim⟩
def inP : G2 := fun p q st => match p, q with
 | .str x, .str y => okP (.bl (!(Builtin.Str.occurrences y x 0 y.length 1).isEmpty)) st
 | p, .ref k => (match st[k]? with
  | some (.dct kvs) => (match keyP p with
   | some key => okP (.bl (valP kvs key).isSome) st
   | none => none)
  | _ => none)
 | _, _ => none
def notInP : G2 := fun p q st => match p, q with
 | .str x, .str y => okP (.bl (!(!(Builtin.Str.occurrences y x 0 y.length 1).isEmpty))) st
 | p, .ref k => (match st[k]? with
  | some (.dct kvs) => (match keyP p with
   | some key => okP (.bl (!(valP kvs key).isSome)) st
   | none => none)
  | _ => none)
 | _, _ => none
theorem WF {K : PySem.W.Frag} {as : List Addr} {H : Hp} {v : Option V} {p : Option P} (h : OptDen K as H v p) : v.isSome = p.isSome := by cases h <;> rfl
theorem Yan (hu : X.A.units + 1 < cLine) : OpR X (compareOp .In) (rM X inP) := opM fun pins s σ H x y v u Q as st p q I rx ry rp d1 d2 h => by
 cases d2 with
 | str =>
  cases d1 with
  | str => exact Yec pins s σ H _ _ v u Q I rx ry ⟨_, _, _, _, rfl, rfl, h as H _ Ext.refl rp .bl⟩
  | _ => exact h.elim
 | @ref k a e =>
  have h' : PostO X as H (match st[k]? with
   | some (.dct kvs) => (match keyP p with
    | some key => okP (.bl (valP kvs key).isSome) st
    | none => none)
   | _ => none) Q := by cases d1 <;> exact h
  cases w : st[k]? with
  | none => rw [w] at h'; exact h'.elim
  | some ob =>
   rw [w] at h'
   cases ob with
   | dct kvs =>
    cases z : keyP p with
    | none => simp only [z] at h'; exact h'.elim
    | some key =>
     simp only [z] at h'
     obtain ⟨a', ws, e0, _, g4, g5, g6⟩ := JR rp (.ref e) w
     cases e0
     have ev := Jd d1 z
     cases ry
     refine d_in hu I (DGet.k (k := key) g4 ev) rx fun s3 I3 => ⟨.bl _, H, I3, rfl, ?_⟩
     rw [WF (Wh (k := key) g5 g6)]
     exact h' as H _ Ext.refl rp .bl
   | _ => exact h'.elim
 | _ => cases d1 <;> exact h.elim
theorem YfY (hu : X.A.units + 1 < cLine) : OpR X (compareOp .NotIn) (rM X notInP) := opM fun pins s σ H x y v u Q as st p q I rx ry rp d1 d2 h => by
 cases d2 with
 | str =>
  cases d1 with
  | str => exact Ybj pins s σ H _ _ v u Q I rx ry ⟨_, _, _, _, rfl, rfl, h as H _ Ext.refl rp .bl⟩
  | _ => exact h.elim
 | @ref k a e =>
  have h' : PostO X as H (match st[k]? with
   | some (.dct kvs) => (match keyP p with
    | some key => okP (.bl (!(valP kvs key).isSome)) st
    | none => none)
   | _ => none) Q := by cases d1 <;> exact h
  cases w : st[k]? with
  | none => rw [w] at h'; exact h'.elim
  | some ob =>
   rw [w] at h'
   cases ob with
   | dct kvs =>
    cases z : keyP p with
    | none => simp only [z] at h'; exact h'.elim
    | some key =>
     simp only [z] at h'
     obtain ⟨a', ws, e0, _, g4, g5, g6⟩ := JR rp (.ref e) w
     cases e0
     have ev := Jd d1 z
     cases ry
     refine Yg4 hu I (DGet.k (k := key) g4 ev) rx fun s3 I3 => ⟨.bl _, H, I3, rfl, ?_⟩
     rw [WF (Wh (k := key) g5 g6)]
     exact h' as H _ Ext.refl rp .bl
   | _ => exact h'.elim
 | _ => cases d1 <;> exact h.elim
end
section
variable {prog : Program} {w : World} {A : Around} {E : Value -> Shared -> Prop} {s : Shared}
theorem Wy {t sl : Addr} {items : Array Value} {vl vu : Value} {lo hi : Option Int} {Q : Value -> Shared -> Prop} (ht : IsTup s.heap t items) (hs : s.heap.IsSliceOf sl vl vu .none) (pl : IsPart vl lo) (pu : IsPart vu hi)
 (hw : HT.sIx items.size 0 lo = 0 /\ HT.sIx items.size items.size hi = items.size) (h : Q (.ref t) s) : wpAny (model prog w) A (getItem (.ref t) (.ref sl)) Q E s := by
 obtain ⟨os, hos, hcs, hds⟩ := id hs
 have hTs : s.TypeIs (.ref sl) "slice" := ⟨os, hos, hcs⟩
 unfold getItem
 try with_reducible refine wpAny_holding ?_
 first | refine wpAny_bind (wpAny_pure ?_) | skip
 refine wpAny_bind (wpAny_sequenceKey ht.typeIs (by decide) ?_)
 refine wpAny_bind (wpAny_callSpecial?_slot (name := Str.ofString "__getitem__") ht.typeIs PyProof.Rows.slot_tuple_getitem
  (wpAny_call_entry PyProof.Rows.slot_tuple_getitem ht.typeIs entry_tuple_getitem ?_ (args_tuple_getitem _ _)))
 show wpAny _ _ (Builtin.Tuple.tupleItemsOf (.ref t) >>= _) _ _ s
 refine wpAny_bind (tupleItemsOf_ ht ?_)
 refine wpAny_bind (wpAny_typeOf hTs ?_)
 rw [if_pos (by decide)]
 refine wpAny_bind (HT.sliceApplied_gen hs pl pu ?_)
 have hno : (((HT.sIx items.size 0 lo : Nat) : Int) == 0 && (1 : Int) == 1 && (HT.sIx items.size items.size hi - HT.sIx items.size 0 lo) == items.size) = true := by
  rw [hw.1, hw.2]; simp
 show wpAny _ _ (if (((HT.sIx items.size 0 lo : Nat) : Int) == 0 && (1 : Int) == 1 && (HT.sIx items.size items.size hi - HT.sIx items.size 0 lo) == items.size) = true then _ else _) _ _ s
 rw [if_pos hno]
 refine wpAny_bind ?_
 unfold Builtin.Tuple.tupleIsExact
 refine wpAny_bind (wpAny_typeOf ht.typeIs (wpAny_pure ?_))
 rw [if_pos (by decide)]
 exact wpAny_bind (wpAny_rule (wpAny_pure ⟨_, rfl, wpAny_pure h⟩))
theorem Vq {sl : Addr} {n : Nat} {t : Tok} {Q : Int × Int × Nat -> Shared -> Prop} (hs : s.heap.IsSliceOf sl .none .none (.int (-1) t))
 (h : Q ((n : Int) - 1, -1, n) s) : wpAny (model prog w) A (Builtin.Slice.sliceApplied (.ref sl) (pure (n : Int))) Q E s := by
 obtain ⟨os, hos, hcs, hds⟩ := id hs
 unfold Builtin.Slice.sliceApplied Builtin.Slice.sliceFields
 refine wpAny_bind (wpAny_bind (wpAny_field hos hds (x := .none) rfl (wpAny_bind (wpAny_field hos hds (x := .none) rfl (wpAny_bind (wpAny_field hos hds (x := .int (-1) t) rfl (wpAny_pure ?_)))))))
 refine wpAny_bind (slicePart_int ?_)
 show wpAny _ _ (if ((-1 : Int) == 0) = true then _ else _) _ _ s
 rw [if_neg (by decide)]
 refine wpAny_bind (slicePart_none (wpAny_bind (slicePart_none (wpAny_bind (wpAny_pure ?_)))))
 show wpAny _ _ (match Builtin.Slice.sliceAdjust none none (-1) (n : Int) with | (lo, hi) => pure (lo, (-1 : Int), Builtin.Slice.slicePlaces lo hi (-1))) _ _ s
 have e1 : Builtin.Slice.sliceAdjust none none (-1) (n : Int) = ((n : Int) - 1, -1) := by
  unfold Builtin.Slice.sliceAdjust
  simp
 have e2 : Builtin.Slice.slicePlaces ((n : Int) - 1) (-1) (-1) = n := by
  unfold Builtin.Slice.slicePlaces
  simp
  split <;> omega
 rw [e1]
 show wpAny _ _ (pure ((n : Int) - 1, (-1 : Int), Builtin.Slice.slicePlaces ((n : Int) - 1) (-1) (-1))) _ _ s
 rw [e2]
 exact wpAny_pure h
theorem YeJ (xs : List Value) : ((List.range xs.length).filterMap fun (m : Nat) => xs.toArray[(((xs.length : Nat) : Int) - 1 + (m : Int) * (-1)).toNat]?) = xs.reverse := by
 apply List.ext_getElem?
 intro i
 have : ∀ n : Nat, n <= xs.length -> ((List.range n).filterMap fun (m : Nat) => xs.toArray[(((xs.length : Nat) : Int) - 1 + (m : Int) * (-1)).toNat]?) = xs.reverse.take n := by
  intro n hn
  induction n with
  | zero => rfl
  | succ n ih =>
   rw [List.range_succ, List.filterMap_append, ih (by omega)]
   have e : (((xs.length : Nat) : Int) - 1 + (n : Int) * (-1)).toNat = xs.length - 1 - n := by omega
   have hl : xs.length - 1 - n < xs.length := by omega
   have h2 : xs.reverse[n]? = some xs[xs.length - 1 - n] := by
    rw [List.getElem?_reverse (by omega)]
    simp [hl]
   rw [List.take_add_one, h2]
   simp only [List.filterMap_cons, List.filterMap_nil]
   rw [e]
   simp [hl]
 have t := this xs.length (Nat.le_refl _)
 rw [List.take_of_length_le (by simp)] at t
 rw [t]
theorem Vf {t sl : Addr} {items : List Value} {u : Tok} {Q : Value -> Shared -> Prop} (ht : IsTup s.heap t items.toArray) (hs : s.heap.IsSliceOf sl .none .none (.int (-1) u))
 (h : Q (.ref s.heap.objs.size) { s with heap := s.heap.push { cls := .type "tuple", data := .seq items.reverse.toArray } }) (hsz : items.length <= sizeLine) : wpAny (model prog w) A (getItem (.ref t) (.ref sl)) Q E s := by
 obtain ⟨os, hos, hcs, hds⟩ := id hs
 have hTs : s.TypeIs (.ref sl) "slice" := ⟨os, hos, hcs⟩
 have htake : sizeOk (.seq items.reverse.toArray) := by
  show items.reverse.toArray.size <= sizeLine
  simpa using hsz
 unfold getItem
 try with_reducible refine wpAny_holding ?_
 first | refine wpAny_bind (wpAny_pure ?_) | skip
 refine wpAny_bind (wpAny_sequenceKey ht.typeIs (by decide) ?_)
 refine wpAny_bind (wpAny_callSpecial?_slot (name := Str.ofString "__getitem__") ht.typeIs PyProof.Rows.slot_tuple_getitem
  (wpAny_call_entry PyProof.Rows.slot_tuple_getitem ht.typeIs entry_tuple_getitem ?_ (args_tuple_getitem _ _)))
 show wpAny _ _ (Builtin.Tuple.tupleItemsOf (.ref t) >>= _) _ _ s
 refine wpAny_bind (tupleItemsOf_ ht ?_)
 refine wpAny_bind (wpAny_typeOf hTs ?_)
 rw [if_pos (by decide)]
 refine wpAny_bind (Vq hs ?_)
 show wpAny _ _ (if ((((items.toArray.size : Nat) : Int) - 1) == 0 && (-1 : Int) == 1 && items.toArray.size == items.toArray.size) = true then _ else _) _ _ s
 rw [if_neg (by intro q; rw [Bool.and_eq_true, Bool.and_eq_true] at q; exact absurd q.1.2 (by decide))]
 have e : ((List.range items.toArray.size).filterMap fun (k : Nat) => items.toArray[((items.toArray.size : Int) - 1 + (k : Int) * (-1)).toNat]?).toArray = items.reverse.toArray := by
  have := YeJ items
  simp only [List.size_toArray]
  rw [this]
 rw [e]
 first
  | exact wpAny_bind (m := Builtin.Tuple.tupleExact _) (wpAny_newObj_type (wpAny_pure ⟨_, rfl, wpAny_pure h⟩) htake)
  | exact wpAny_bind (m := Builtin.Tuple.tupleExact _) (wpAny_newObj_type (wpAny_bind (wpAny_pure (wpAny_pure ⟨_, rfl, wpAny_pure h⟩))) htake)
  | exact wpAny_bind (wpAny_bind (m := Builtin.Tuple.tupleExact _) (wpAny_newObj_type (wpAny_pure (wpAny_pure ⟨_, rfl, wpAny_pure h⟩)) htake))
  | exact wpAny_bind (wpAny_bind (m := Builtin.Tuple.tupleExact _) (wpAny_newObj_type (wpAny_pure ⟨_, rfl, wpAny_pure h⟩) htake))
end
abbrev MO := Rho -> Stor -> R (Option Int)
def PostN (X : Cx) (as : List Addr) (H : Hp) (ρ : Rho) (r : R (Option Int)) (Q : Option Int -> Hp -> Prop) : Prop :=
 match r with
 | .ok o st' => ∀ as' H', Ext as H as' H' -> Rep X.K as' st' H' -> Q o H'
 | .exc k st' => XOk X as H ρ k st'
 | .bad => False
def tO (X : Cx) (m : MO) : TO := fun σ H Q => ∃ as ρ st, EnvOk X.K as H ρ σ /\ Rep X.K as st H /\ PostN X as H ρ (m ρ st) Q
abbrev JO (X : Cx) (e : Option Expr) (m : MO) : Prop := PO X e (tO X m)
theorem PO.imp {X : Cx} {e : Option Expr} {t t' : TO} (h : PO X e t) (i : ∀ σ H Q, t' σ H Q -> t σ H Q) : PO X e t' := fun pins s σ H Q I q => h pins s σ H Q I (i σ H Q q)
def oNone : MO := fun _ st => .ok none st
def oSome (me : ME) : MO := fun ρ st => (me ρ st).bind fun p st1 => match p with
 | .int i => .ok (some i) st1
 | _ => .bad
section
variable {X : Cx} {e : Expr} {me : ME} {lo hi : Option Expr} {ml mh : MO} {pos p2 : Pos}
theorem PostN.ext {as as1 : List Addr} {H H1 : Hp} {ρ : Rho} {r : R (Option Int)} {Q : Option Int -> Hp -> Prop} (x : Ext as H as1 H1) (h : PostN X as H ρ r Q) : PostN X as1 H1 ρ r Q := by
 cases r with
 | ok p st' => exact fun as' H' y => h as' H' (x.trans y)
 | exc k st' => exact XOk.ext x h
 | bad => exact h
theorem PostN.bindE {as : List Addr} {H : Hp} {ρ : Rho} {r : R P} {f : P -> Stor -> R (Option Int)} {Q : Option Int -> Hp -> Prop} {Q' : VK} (h : PostN X as H ρ (r.bind f) Q)
 (go : ∀ p st1 as1 H1 v, Ext as H as1 H1 -> Rep X.K as1 st1 H1 -> Den X.K as1 H1 v p -> PostN X as1 H1 ρ (f p st1) Q -> Q' v H1) : Post X as H ρ r Q' := by
 cases r with
 | ok p st1 => exact fun as1 H1 v x rp d => go p st1 as1 H1 v x rp d (PostN.ext x h)
 | exc k st' => exact h
 | bad => exact h
theorem Post.bindN {as : List Addr} {H : Hp} {ρ : Rho} {r : R (Option Int)} {f : Option Int -> Stor -> R P} {Q : VK} {Q' : Option Int -> Hp -> Prop} (h : Post X as H ρ (r.bind f) Q)
 (go : ∀ b st1 as1 H1, Ext as H as1 H1 -> Rep X.K as1 st1 H1 -> Post X as1 H1 ρ (f b st1) Q -> Q' b H1) : PostN X as H ρ r Q' := by
 cases r with
 | ok p st1 => exact fun as1 H1 x rp => go p st1 as1 H1 x rp (Post.ext x h)
 | exc k st' => exact h
 | bad => exact h
theorem Ws : JO X none oNone := PO.imp Yg1 fun σ H Q ⟨as, ρ, st, en, rp, h⟩ => h as H Ext.refl rp
theorem YS (he : JE X e me) : JO X (some e) (oSome me) := PO.imp (Yg6 he) fun σ H Q ⟨as, ρ, st, en, rp, h⟩ => ⟨as, ρ, st, en, rp, PostN.bindE h fun p st1 as1 H1 v x rp1 d h1 => by
 cases d with
 | int => exact ⟨_, rfl, h1 as1 H1 Ext.refl rp1⟩
 | _ => exact h1.elim⟩
def cutP (xs : List P) (lo hi : Option Int) : List P := (xs.drop (HT.sIx xs.length 0 lo)).take (HT.sIx xs.length xs.length hi - HT.sIx xs.length 0 lo)
theorem Ybq {K : PySem.W.Frag} {as : List Addr} {H : Hp} {vs : List V} {xs : List P} (d : Dens K as H vs xs) (lo hi : Option Int) : Dens K as H (cutV vs lo hi) (cutP xs lo hi) := by
 unfold cutV cutP
 rw [d.length]
 exact (d.drop _).take _
def slP (p : P) (lo hi : Option Int) (st : Stor) : Option (P × Stor) := match p with
 | .str z => if z.length <= cap then okP (.str (Txt.slice z lo hi)) st else none
 | .tup xs => okP (.tup (cutP xs lo hi)) st
 | .ref k => (match st[k]? with
  | some (.lst xs) => newL (cutP xs lo hi) st
  | some (.ro xs) => newL (cutP xs lo hi) st
  | _ => none)
 | _ => none
def rMS (X : Cx) : V -> Option Int -> Option Int -> Hp -> VK -> Prop := fun x lo hi H Q => ∃ as st p, Rep X.K as st H /\ Den X.K as H x p /\ PostO X as H (slP p lo hi st) Q
theorem Yb4 {v : Value} {o : Option Int} (p : IsPart v o) : ∃ q : Option (Int × Tok), v = partValue q /\ q.map (·.1) = o := by
 cases p with
 | none => exact ⟨none, rfl, rfl⟩
 | int i t => exact ⟨some (i, t), rfl, rfl⟩
theorem YaU {s : Shared} {c : Prop} [Decidable c] {y z : Str} {t : Tok} {Q : Value -> Shared -> Prop} (h1 : c -> Q (.str y t) s) (h2 : ¬ c -> z.length <= sizeLine /\ Q (.str z s.toks) { s with toks := s.toks + 1 }) : (if c then Made.val (.str y t) else Made.str z).post Q s := by
 by_cases hc : c
 ·rw [if_pos hc]; exact h1 hc
 ·rw [if_neg hc]; exact h2 hc
theorem Yic : SlR X (fun x lo hi H Q => ∃ z tz, x = .str z tz /\ z.length <= cap /\ (Txt.slice z lo hi = z -> Q (.str z tz) H) /\ MkT (Txt.slice z lo hi) Q H) := by
 intro pins s σ H x v vl vu lo hi sl Q I rx hs pl pu h
 obtain ⟨z, t, rfl, hz, q0, q⟩ := h
 cases rx
 obtain ⟨ql, rfl, el⟩ := Yb4 pl
 obtain ⟨qu, rfl, eu⟩ := Yb4 pu
 obtain ⟨o, ho, hc, hd⟩ := id hs
 refine ⟨"str", _, PySem.F.slot_str_getitem.lookup, typeIs_str _ _ _, wpAny_getItem_str_slice (l := ql) (u := qu) (st := none) ⟨o, ho, hc, hd⟩ rfl ?_⟩
 unfold sliceMade
 have e : slicePicked z ql qu none = Builtin.Str.strSliceIndices lo hi 1 z.length := by unfold slicePicked; rw [el, eu]; rfl
 rw [e]
 have hle : (Txt.slice z lo hi).length <= sizeLine := Nat.le_trans (Txt.slice_le z lo hi) (Nat.le_trans hz Yi)
 refine YaU (fun c => ⟨.str z t, H, I, rfl, q0 (if_pos c)⟩) fun c => ?_
 have es : Txt.slice z lo hi = ⟨((Builtin.Str.strSliceIndices lo hi 1 z.length).filterMap (z.cps[·]?)).toArray⟩ := if_neg c
 rw [es] at hle q
 exact ⟨hle, .str _ _, _, I.txt, rfl, q _ I.fresh_tok.1 I.fresh_tok.2⟩
theorem YhB : SlR X (fun x lo hi H Q => ∃ a xs, x = .ref a /\ SqT X.K H a xs /\ HT.sIx xs.length 0 lo = 0 /\ HT.sIx xs.length xs.length hi = xs.length /\ Q (.ref a) H) := by
 intro pins s σ H x v vl vu lo hi sl Q I rx hs pl pu h
 obtain ⟨a, xs, rfl, hx, h1, h2, q⟩ := h
 cases rx
 obtain ⟨its, r, ht, hz⟩ := I.tuple hx
 have hlen : its.toArray.size = xs.length := by rw [List.size_toArray]; exact r.length.symm
 exact ⟨"tuple", _, PyProof.Rows.slot_tuple_getitem.lookup, ht.typeIs, Wy ht hs pl pu (by rw [hlen]; exact ⟨h1, h2⟩) ⟨.ref a, H, I, rfl, q⟩⟩
theorem SlR.imp {r r' : V -> Option Int -> Option Int -> Hp -> VK -> Prop} (h : SlR X r) (i : ∀ x lo hi H Q, r' x lo hi H Q -> r x lo hi H Q) : SlR X r' := fun pins s σ H x v vl vu lo hi sl Q I rx hs pl pu q => h pins s σ H x v vl vu lo hi sl Q I rx hs pl pu (i x lo hi H Q q)
theorem YjF : SlR X (rMS X) := SlR.imp ((Yic (X := X)).or ((Yii (X := X)).or ((YhB (X := X)).or (Yha (X := X))))) fun x lo hi H Q ⟨as, st, p, rp, d, h⟩ => by
 cases d with
 | @str z tz hx zx =>
  have h' : PostO X as H (if z.length <= cap then okP (.str (Txt.slice z lo hi)) st else none) Q := h
  by_cases hz : z.length <= cap
  ·rw [if_pos hz] at h'
   exact .inl ⟨z, _, rfl, hz, fun e => h' as H _ Ext.refl rp (by rw [e]; exact .str hx zx), mkT rp fun as1 H1 v x r d => h' as1 H1 v x r d⟩
  ·rw [if_neg hz] at h'; exact h'.elim
 | @tup a vs xs e r =>
  have h' : PostO X as H (okP (.tup (cutP xs lo hi)) st) Q := h
  by_cases w : HT.sIx vs.length 0 lo = 0 /\ HT.sIx vs.length vs.length hi = vs.length
  ·refine .inr (.inr (.inl ⟨a, vs, rfl, e, w.1, w.2, ?_⟩))
   have ec : cutP xs lo hi = xs := by
    unfold cutP
    rw [<- r.length, w.1, w.2, List.drop_zero, List.take_of_length_le (by rw [r.length]; exact Nat.le_refl _)]
   rw [ec] at h'
   exact h' as H _ Ext.refl rp (.tup e r)
  ·exact .inr (.inl ⟨a, vs, rfl, e, w, fun p hp => h' as _ _ (Ext.laid hp) (rp.laid hp) (.tup (.of Yh) ((Ybq r lo hi).ext (Ext.laid hp)))⟩)
 | @ref k a e =>
  have h' : PostO X as H (match st[k]? with | some (.lst xs) => newL (cutP xs lo hi) st | some (.ro xs) => newL (cutP xs lo hi) st | _ => none) Q := h
  cases w : st[k]? with
  | none => rw [w] at h'; exact h'.elim
  | some ob =>
   rw [w] at h'
   have r := rp.ob k a ob e w
   cases ob with
   | lst xs => obtain ⟨vs, h1, h2⟩ := r; exact .inr (.inr (.inr ⟨a, vs, rfl, .of h1, fun p hp => Wm rp (Ybq h2 lo hi) h' hp⟩))
   | ro xs => obtain ⟨vs, h1, h2⟩ := r; exact .inr (.inr (.inr ⟨a, vs, rfl, ZA h1, fun p hp => Wm rp (Ybq h2 lo hi) h' hp⟩))
   | dct kvs => exact h'.elim
   | exc c fs => exact h'.elim
   | dtt kvs => exact h'.elim
   | fdc kvs => exact h'.elim
 | _ => exact h.elim
def eSl (me : ME) (ml mh : MO) : ME := fun ρ st => (me ρ st).bind fun p st1 => (ml ρ st1).bind fun l st2 => (mh ρ st2).bind fun u st3 => ofO (slP p l u st3)
theorem Y4 (he : JE X e me) (hl : JO X lo ml) (hu : JO X hi mh) : JE X (.Subscript e (.Slice lo hi none p2) pos) (eSl me ml mh) :=
 PE.imp (YeK YjF he hl hu) fun σ H Q ⟨as, ρ, st, en, rp, h⟩ => ⟨as, ρ, st, en, rp, Post.bindE h fun p st1 as1 H1 v x rp1 d h1 => ⟨as1, ρ, st1, en.ext x, rp1, Post.bindN h1 fun l st2 as2 H2 x2 rp2 h2 =>
  ⟨as2, ρ, st2, (en.ext x).ext x2, rp2, Post.bindN h2 fun u st3 as3 H3 x3 rp3 h3 => ⟨as3, st3, p, rp3, (d.ext x2).ext x3, Post.ofO h3⟩⟩⟩⟩
end
def tyP (p : P) (st : Stor) : Option String := match p with
 | .non => some "NoneType"
 | .bl _ => some "bool"
 | .int _ => some "int"
 | .str _ => some "str"
 | .tup _ => some "tuple"
 | .ref k => (match st[k]? with
  | some (.lst _) => some "list"
  | some (.ro _) => some "list"
  | some (.dct _) => some "dict"
  | _ => none)
def isiB (t T : String) : Bool := t == T || (t == "bool" && T == "int")
def KitTab (T : String) : Prop := ∀ (K : PySem.W.Frag) (t : String), t ∈ ["NoneType", "bool", "int", "str", "tuple", "list", "dict"] -> PySem.W.kitOne K (.type t) (.type T) = some (isiB t T)
theorem YjP : KitTab "str" := fun K t h => by
 simp only [List.mem_cons, List.not_mem_nil, or_false] at h
 rcases h with rfl | rfl | rfl | rfl | rfl | rfl | rfl <;> rfl
theorem Ye9 : KitTab "bool" := fun K t h => by
 simp only [List.mem_cons, List.not_mem_nil, or_false] at h
 rcases h with rfl | rfl | rfl | rfl | rfl | rfl | rfl <;> rfl
def eIsi (T : String) (me : ME) : ME := fun ρ st => (me ρ st).bind fun p st1 => match tyP p st1 with
 | some t => .ok (.bl (isiB t T)) st1
 | none => .bad
section
variable {X : Cx} {e : Expr} {me : ME} {pos p p' : Pos}
theorem YfT {T : String} (kt : KitTab T) : CallR X (.builtin "isinstance") (fun xs H Q => ∃ x as st p t, xs = [x, .ty T] /\ Rep X.K as st H /\ Den X.K as H x p /\ tyP p st = some t /\ Q (.bl (isiB t T)) H) := by
 intro pins s σ H xs us Q I rv h
 obtain ⟨x, as, st, p, t, rfl, rp, d, ht, q⟩ := h
 obtain ⟨u, c, rfl, ru, rc⟩ := rv.two
 obtain rfl : c = Value.type T := rc
 have fin : ∀ tk, s.toks <= tk -> EP X pins σ Q (.bool (isiB t T)) { s with toks := tk } := fun tk le => ⟨.bl _, H, I.tok tk le, rfl, q⟩
 cases d with
 | non => cases ru; cases ht; exact Tk.wpAny_le (PySem.W.kia_one PySem.W.kitx_none I.kIn True.intro (kt _ _ (by decide)) (fun z => nomatch z) fin)
 | bl => cases ru; cases ht; exact Tk.wpAny_le (PySem.W.kia_one PySem.W.kitx_bool I.kIn True.intro (kt _ _ (by decide)) (fun z => nomatch z) fin)
 | int => obtain ⟨t', rfl⟩ := ru; cases ht; exact Tk.wpAny_le (PySem.W.kia_one PySem.W.kitx_int I.kIn True.intro (kt _ _ (by decide)) (fun z => nomatch z) fin)
 | str => cases ru; cases ht; exact Tk.wpAny_le (PySem.W.kia_one PySem.W.kitx_str I.kIn True.intro (kt _ _ (by decide)) (fun z => nomatch z) fin)
 | tup e r =>
  cases ru; cases ht
  obtain ⟨its, _, ⟨o, h1, h2, _⟩, _⟩ := I.tuple e
  exact Tk.wpAny_le (PySem.W.kia_one PySem.W.kitx_tuple I.kIn ⟨o, h1, h2⟩ (kt _ _ (by decide)) (fun z => nomatch z) fin)
 | @ref k a e =>
  cases ru
  have ht' : (match st[k]? with | some (.lst _) => some "list" | some (.ro _) => some "list" | some (.dct _) => some "dict" | _ => none) = some t := ht
  cases w : st[k]? with
  | none => rw [w] at ht'; cases ht'
  | some ob =>
   rw [w] at ht'
   have r := rp.ob k a ob e w
   cases ob with
   | lst xs =>
    cases ht'
    obtain ⟨vs, h1, _⟩ := r
    obtain ⟨its, _, ⟨o, n, g1, g2, _⟩, _⟩ := I.list (.of h1)
    exact Tk.wpAny_le (PySem.W.kia_one PySem.W.kitx_list I.kIn ⟨o, g1, g2⟩ (kt _ _ (by decide)) (fun z => nomatch z) fin)
   | ro xs =>
    cases ht'
    obtain ⟨vs, h1, _⟩ := r
    obtain ⟨its, _, ⟨o, n, g1, g2, _⟩, _⟩ := I.list (ZA h1)
    exact Tk.wpAny_le (PySem.W.kia_one PySem.W.kitx_list I.kIn ⟨o, g1, g2⟩ (kt _ _ (by decide)) (fun z => nomatch z) fin)
   | dct kvs =>
    cases ht'
    obtain ⟨ws, h1, _⟩ := r
    obtain ⟨_, _, vs, _, o, es, ep, g1, g2, _⟩ := I.hok a _ h1
    exact Tk.wpAny_le (PySem.W.kia_one PySem.W.kitx_dict I.kIn ⟨o, g1, g2.1⟩ (kt _ _ (by decide)) (fun z => nomatch z) fin)
   | exc c fs => cases ht'
   | dtt kvs => cases ht'
   | fdc kvs => cases ht'
theorem YiT {T : String} {y : Str} (kt : KitTab T) (hg : Gl X "isinstance") (hm : X.mg "isinstance" = none) (hv : bootBuiltins "isinstance" = some (.builtin "isinstance")) (gy : Gl X y) (my : X.mg y = none) (vy : bootBuiltins y = some (.type T)) (he : JE X e me)
 (hy : y ≠ "__name__" := by decide) (hyd : (y == ("__debug__" : Str)) = false := by decide)
 (h1 : starEach [e, .Name y p'] X.env = (false, eval e X.env) :: starEach [.Name y p'] X.env := by rfl) (h2 : starEach [.Name y p'] X.env = (false, eval (.Name y p') X.env) :: starEach [] X.env := by rfl) (hpl : (backTo pos (starEach [.Name y p'] X.env)).any (·.1) = false := by rfl) :
 JE X (.Call (.Name "isinstance" p) [e, .Name y p'] [] pos) (eIsi T me) :=
 PE.imp (Je (YfT kt) hg hm hv (Wu he (Wu (Ygt (v := .ty T) gy my vy rfl hy hyd) JF h2) h1) (by decide) (by decide) h1 hpl) fun σ H Q ⟨as, ρ, st, en, rp, h⟩ => ⟨as, ρ, st, en, rp, Post.bindE h fun p st1 as1 H1 v x rp1 d h1 => by
  cases w : tyP p st1 with
  | none => rw [w] at h1; exact h1.elim
  | some t => rw [w] at h1; exact ⟨v, as1, st1, p, t, rfl, rp1, d, w, h1 as1 H1 _ Ext.refl rp1 .bl⟩⟩
def mgTup (n : Nat) (r : MGs) : MG := fun p ρ st => match seqAt p st with
 | some xs => if xs.length = n then r xs ρ st else none
 | none => none
theorem Vm {n k : Nat} {r : MGs} (h : GsOnly n r) : GOnly n (mgTup k r) := fun p ρ st ρ1 e => by
 unfold mgTup at e
 cases q : seqAt p st with
 | none => rw [q] at e; cases e
 | some xs =>
  rw [q] at e
  simp only at e
  by_cases z : xs.length = k
  ·rw [if_pos z] at e; exact h _ _ _ _ e
  ·rw [if_neg z] at e; cases e
theorem YaI {prog : Program} {w : World} {A : Around} {E : Value -> Shared -> Prop} {it t : Addr} {items : Array Value} (hne : t ≠ it) : ∀ (n i : Nat) (s : Shared) (Q : List Value -> Shared -> Prop), s.heap.IsListIter it t i -> s.heap.IsList t items -> i + n <= items.size ->
 (∀ h', h'.IsListIter it t (i + n) -> Heap.SameBut it s.heap h' -> Q ((items.toList.drop i).take n) { s with heap := h' }) -> wpAny (model prog w) A (draw (.ref it) n) Q E s
 | 0, i, s, Q, hit, ht, hl, hQ => by
  show wpAny _ _ (pure []) Q E s
  exact wpAny_pure (hQ s.heap hit (.refl ..))
 | n + 1, i, s, Q, hit, ht, hl, hQ => by
  have hlt : i < items.size := by omega
  show wpAny _ _ (pyNext (.ref it) >>= _) Q E s
  refine wpAny_bind (wpAny_pyNext_list_item hit ht (x := items[i]) (by simp [hlt]) fun h₁ hit₁ hs₁ => ?_)
  refine wpAny_bind (wpAny_holding (YaI hne n (i + 1) _ _ hit₁ (ht.extBut hs₁.extBut hne) (by omega) fun h₂ hit₂ hs₂ => wpAny_pure ?_))
  have hd : items.toList.drop i = items[i] :: items.toList.drop (i + 1) := by simp [List.drop_eq_getElem_cons, hlt]
  have := hQ h₂ (by rw [show i + (n + 1) = i + 1 + n by omega]; exact hit₂) (hs₁.trans hs₂)
  rw [hd, List.take_succ_cons] at this
  exact this
theorem Vt {prog : Program} {w : World} {A : Around} {E : Value -> Shared -> Prop} {s : Shared} {t : Addr} {items : Array Value} {Q : List Value -> Shared -> Prop} (hh : A.handled = none) (ht : s.heap.IsList t items)
 (hQ : ∀ h', Heap.ExtBut s.heap.objs.size s.heap h' -> Q items.toList { s with heap := h' }) : wpAny (model prog w) A (unpackItems (.ref t) items.size none) Q E s := by
 have hlt : t ≠ s.heap.objs.size := by obtain ⟨o, ho, _⟩ := ht; exact Nat.ne_of_lt (Heap.lt_size ho)
 unfold unpackItems
 refine wpAny_bind ?_
 ·unfold notIterableAtAll
  refine wpAny_bind (wpAny_specialOf ht.typeIs PySem.F.slot_list_iter.lookup ?_)
  refine wpAny_pure ?_
  simp only [Bool.false_eq_true, if_false]
  refine wpAny_bind (wpAny_holding (wpAny_pyIter_list ht ?_))
  refine wpAny_bind (wpAny_holding (YaI hlt items.size 0 _ _ ⟨_, Heap.get?_push_size _ rfl, rfl, rfl⟩ (ht.push _) (by omega) fun h₁ hit₁ hs₁ => ?_))
  have hall : List.take items.size (List.drop 0 items.toList) = items.toList := by
   rw [List.drop_zero]; exact List.take_of_length_le (by simp)
  rw [hall]
  rw [if_neg (by simp)]
  have ht₁ : h₁.IsList t items := (ht.push _).extBut hs₁.extBut hlt
  refine wpAny_bind (wpAny_holding (wpAny_pyNext_list_end hh hit₁ ht₁ (by simp) fun h₂ he₂ => ?_))
  simp only [Option.isSome_none, Bool.false_eq_true, if_false]
  refine wpAny_pure (hQ h₂ fun b o hb e => he₂ b o hb (hs₁.extBut b o hb (Heap.get?_push_of_some _ e)))
theorem Vh {prog : Program} {w : World} {A : Around} {E : Value -> Shared -> Prop} {s : Shared} {env : Env} {elts : List Expr} {x1} {pos : Pos} {t : Addr} {items : Array Value} {Q : Unit -> Shared -> Prop} (hh : A.handled = none) (ht : s.heap.IsList t items)
 (hn : (assignEach elts env).length = items.size) (hstar : (assignEach elts env).findIdx? (·.1) = none)
 (h : ∀ h', Heap.ExtBut s.heap.objs.size s.heap h' -> wpAny (model prog w) A (assignInOrder ((assignEach elts env).map (·.2)) items.toList) Q E { s with heap := h' }) :
 wpAny (model prog w) A (assign (.Tuple elts x1 pos) env (.ref t)) Q E s := by
 rw [assign_Tuple]
 refine wpAny_bind (wpAny_standAt ?_)
 unfold unpack
 rw [hn, hstar]
 exact wpAny_bind (wpAny_holding (Vt hh ht h))
theorem Yib {es : List Expr} {k : Nat} {t : TGs} {n : Nat} (hc : X.calm = true) (h : PGs X es t)
 (hn : (assignEach es X.env).length = n := by rfl) (hst : (assignEach es X.env).findIdx? (·.1) = none := by rfl) : PG X (.Tuple es k pos) (fun v σ H Q => ∃ a xs, v = .ref a /\ (SqL X.K H a xs \/ SqT X.K H a xs) /\ xs.length = n /\ t xs σ H Q) := by
 intro pins s σ H v u Q I r hw
 obtain ⟨a, xs, e1, hq, hl, hw⟩ := hw
 subst e1
 rcases hq with hq | hq
 ·cases r
  obtain ⟨its, rv, ht, hz⟩ := I.list hq
  refine Vh (I.ok.hd hc) ht.isList (by simp [hn, <- hl, rv.length]) hst fun h' hx => ?_
  have I1 : Inv X pins σ H { s with heap := h' } := I.kept (t' := s.toks) fun b o e => hx b o (Nat.ne_of_lt (Heap.lt_size e)) e
  exact h pins _ σ H xs _ Q I1 (by simpa using rv) hw
 ·exact Yig hc h hn hst pins s σ H _ u Q I r ⟨a, xs, rfl, hq, hl, hw⟩
theorem Z8 {es : List Expr} {k : Nat} {r : MGs} {n : Nat} (hc : X.calm = true) (h : JGs X es r)
 (hn : (assignEach es X.env).length = n := by rfl) (hst : (assignEach es X.env).findIdx? (·.1) = none := by rfl) : JG X (.Tuple es k pos) (mgTup n r) :=
 PG.imp (Yib hc h hn hst) fun v σ H Q ⟨as, ρ, st, p, ρ', en, rp, d, g, q⟩ => by
  unfold mgTup at g
  cases w : seqAt p st with
  | none => rw [w] at g; cases g
  | some xs =>
   rw [w] at g
   simp only at g
   by_cases z : xs.length = n
   ·rw [if_pos z] at g
    obtain ⟨a, vs, rfl, hq, r⟩ := Yc1 rp d w
    exact ⟨a, vs, rfl, hq, by rw [r.length]; exact z, as, ρ, st, xs, ρ', en, rp, r, g, q⟩
   ·rw [if_neg z] at g; cases g
def sTup (me : ME) (g : MG) : MS := fun ρ st => RS.ofE ρ (me ρ st) fun p st1 => match g p ρ st1 with
 | some ρ' => .nx ρ' st1
 | none => .bad
theorem YfN {tg : Expr} {g : MG} (he : JE X e me) (hg : JG X tg g) (hs : swapsWithSole [tg] e pos.line X.env = pure false := by rfl) (hw : swappedStores [tg] e X.env = pure none := by rfl)
 (h1 : (assignEach [tg] X.env).map (·.2) = [assign tg X.env] := by rfl) : JS X (.Assign [tg] e pos) (sTup me g) :=
 PS.imp (Yi5 he hg hs hw h1) fun D σ H ⟨as, ρ, st, en, rp, h⟩ => ⟨as, ρ, st, en, rp, PostS.ofE h fun p st1 as1 H1 v x rp1 d h1 => by
  cases w : g p ρ st1 with
  | none => rw [w] at h1; exact h1.elim
  | some ρ' => rw [w] at h1; exact ⟨as1, ρ, st1, p, ρ', en.ext x, rp1, d, w, fun σ' en' => h1 as1 H1 σ' Ext.refl rp1 en'⟩⟩
end
structure ZAp (z TI TO i1 i2 : Addr) : Prop where
 TIz : TI ≠ z
 TOz : TO ≠ z
 i1z : i1 ≠ z
 i2z : i2 ≠ z
 TITO : TI ≠ TO
 TIi1 : TI ≠ i1
 TIi2 : TI ≠ i2
 TOi1 : TO ≠ i1
 TOi2 : TO ≠ i2
 i12 : i1 ≠ i2
section
variable {X : Cx} {elts : List Expr} {x1 : Nat} {tp p pos : Pos} {e f : Expr}
def listAt (st : Stor) (k : Nat) : Option (List P) := match st[k]? with
 | some (.lst xs) => some xs
 | some (.ro xs) => some xs
 | _ => none
theorem V5 {K : PySem.W.Frag} {as : List Addr} {st : Stor} {H : Hp} {k : Nat} {xs : List P} {a : Addr} (rp : Rep K as st H) (e : as[k]? = some a) (h : listAt st k = some xs) : ∃ vs, SqL K H a vs /\ Dens K as H vs xs := by
 unfold listAt at h
 cases q : st[k]? with
 | none => rw [q] at h; cases h
 | some o =>
  rw [q] at h
  have ob := rp.ob k a _ e q
  cases o with
  | lst ys => cases h; obtain ⟨vs, h1, h2⟩ := ob; exact ⟨vs, .of h1, h2⟩
  | ro ys => cases h; obtain ⟨vs, h1, h2⟩ := ob; exact ⟨vs, ZA h1, h2⟩
  | dct ys => cases h
  | exc c ys => cases h
  | dtt kvs => cases h
  | fdc kvs => cases h
end
section
variable {M : Model} {A : Around} {E : Value -> Shared -> Prop} {s : Shared}
theorem Yd1 {src : Source} {n : Nat} {Q : Nat -> Shared -> Prop} (hn : n ≠ 0) (h : ∀ i, i < n -> Q i { s with drawn := s.drawn.bump src }) : wpAny M A (choose src n) Q E s :=
 fun _ _ _ => ⟨hn, h _ (Nat.mod_lt _ (Nat.pos_of_ne_zero hn))⟩
end
theorem Ycu (t : SetTable) (es : Array (Int × Value)) (h : Int) (x : Value) : (layNew t es h x).2.1.led = t.led := by
 unfold layNew
 split
 ·simp only [SetTable.orStandIn]
  split <;> rfl
 ·rfl
theorem YaQ (t : SetTable) (es : Array (Int × Value)) (h : Int) (x : Value) (p : t.plain = false) : (layNew t es h x).2.1.plain = false := by
 unfold layNew
 split
 ·simp only [SetTable.orStandIn]
  split
  ·exact p
  ·rfl
 ·rfl
theorem JJ {mask finger moves : Nat} {led plain : Bool} {hs : Array Int} {t : SetTable} {o : Array Nat} (h : SetTable.laid mask finger moves led plain hs = some (t, o)) : t.led = led /\ t.plain = plain := by
 unfold SetTable.laid at h
 cases q : SetTable.layClean mask hs with
 | none => rw [q] at h; cases h
 | some ow =>
  rw [q] at h
  cases h
  exact ⟨rfl, rfl⟩
theorem Ya2 (t : SetTable) (es : Array (Int × Value)) (n : Nat) : (relayAll t es n).2.1.led = t.led := by
 unfold relayAll
 split
 ·rename_i t' o e
  dsimp only
  split
  ·exact (JJ e).1
  ·rfl
 ·rfl
theorem JD (t : SetTable) (es : Array (Int × Value)) (n : Nat) (p : t.plain = false) : (relayAll t es n).2.1.plain = false := by
 unfold relayAll
 split
 ·rename_i t' o e
  dsimp only
  split
  ·exact (JJ e).2.trans p
  ·rfl
 ·rfl
abbrev byText (w : World) : Bool := w.params.followText "set-order"
def setObj (es : Array (Int × Value)) (ep : Nat) (t : SetTable) : Obj := { cls := .type "set", dict := none, data := .set es ep t, slots := #[] }
structure TT1 (prog : Program) (w : World) (es : Array (Int × Value)) (t : SetTable) (ks : List Str) (G : Value -> Prop) : Prop where
 el : ElemsOf (strKind prog w) es.toList
 fit : t.fits es.size = true
 led : t.led = !(byText w)
 pl : es.size = 0 \/ t.plain = false
 pm : (es.toList.map fun e => strOf e.2).Perm ks
 gd : ∀ e ∈ es.toList, G e.2
def TS (prog : Program) (w : World) (h : Heap) (a : Addr) (ks : List Str) (G : Value -> Prop) : Prop := ∃ es ep t, h.get? a = some (setObj es ep t) /\ TT1 prog w es t ks G
theorem TT1.sz {prog : Program} {w : World} {es : Array (Int × Value)} {t : SetTable} {ks : List Str} {G : Value -> Prop} (h : TT1 prog w es t ks G) : es.size = ks.length := by
 rw [<- h.pm.length_eq]; simp
theorem TT1.mem {prog : Program} {w : World} {es : Array (Int × Value)} {t : SetTable} {ks : List Str} {G : Value -> Prop} (h : TT1 prog w es t ks G) (k : Str) : k ∈ ks ↔ ∃ e ∈ es.toList, (strKind prog w).is k e.2 = true := by
 rw [<- h.pm.mem_iff, List.mem_map]
 constructor
 ·rintro ⟨e, he, rfl⟩
  obtain ⟨⟨k', hk, _⟩, _⟩ := h.el e he
  obtain ⟨t', e'⟩ := Value.isStrOf_shape hk
  exact ⟨e, he, by rw [e']; exact strKind_is _ _ _ _⟩
 ·rintro ⟨e, he, hk⟩
  obtain ⟨t', e'⟩ := Value.isStrOf_shape hk
  exact ⟨e, he, by rw [e']; rfl⟩
section
variable {prog : Program} {w : World} {A : Around} {E : Value -> Shared -> Prop} {s : Shared}
theorem V8 {g : Bool -> Sem Unit} (hg : ∀ (b : Bool) (s1 : Shared) (Q1 : Unit -> Shared -> Prop), Q1 () s1 -> wpAny (model prog w) A (g b) Q1 E s1)
 {a : Addr} {es es1 : Array (Int × Value)} {ep : Nat} {t t2 : SetTable} (ho : s.heap.get? a = some (setObj es ep t)) (hb : es1.size < scanBound) {dm : Bool} {R : Option Bool -> Shared -> Prop}
 (hf : t2.fits es1.size = true) (hp : t2.plain = false)
 (fin : ∀ h' es' ep' t', Heap.SameBut a s.heap h' -> h'.get? a = some (setObj es' ep' t') -> es'.toList.Perm es1.toList -> t'.fits es'.size = true -> t'.led = t2.led -> t'.plain = false -> R (some true) { s with heap := h' }) :
 wpAny (model prog w) A (do
  storeSet a es1 t2
  if (!dm && t2.tooFull) = true then do
   g (relayAll t2 es1 (SetTable.grown es1.size)).2.2
   storeSet a (relayAll t2 es1 (SetTable.grown es1.size)).1 (relayAll t2 es1 (SetTable.grown es1.size)).2.1
   pure (some true)
  else pure (some true)) R E s := by
 refine wpAny_bind (wpAny_storeSet_of ho rfl ?_ (fits_of_scanBound hb))
 have g1 : (s.heap.update a (Obj.putSet es1 t2)).get? a = some (setObj es1 (ep + 1) t2) := by
  have := Heap.get?_update_self (Obj.putSet es1 t2) ho (by rw [putSet_of es1 t2 rfl]; rfl)
  rw [putSet_of es1 t2 rfl] at this
  exact this
 have b1 := Heap.SameBut.update s.heap a (Obj.putSet es1 t2)
 split
 ·have e1 := relayAll_perm t2 es1 (SetTable.grown es1.size)
  have e2 := relayAll_fits t2 es1 (SetTable.grown es1.size)
  have e3 := Ya2 t2 es1 (SetTable.grown es1.size)
  have e4 := JD t2 es1 (SetTable.grown es1.size) hp
  generalize relayAll t2 es1 (SetTable.grown es1.size) = r at e1 e2 e3 e4 ⊢
  obtain ⟨es2, t3, gw⟩ := r
  dsimp only at e1 e2 e3 e4 ⊢
  have hb2 : es2.size < scanBound := by
   have := e1.length_eq
   simp only [Array.length_toList] at this
   rw [this]; exact hb
  refine wpAny_bind (hg _ _ _ ?_)
  refine wpAny_bind (wpAny_storeSet_of g1 rfl ?_ (fits_of_scanBound hb2))
  have g2 : ((s.heap.update a (Obj.putSet es1 t2)).update a (Obj.putSet es2 t3)).get? a = some (setObj es2 (ep + 1 + 1) t3) := by
   have := Heap.get?_update_self (Obj.putSet es2 t3) g1 (by rw [putSet_of es2 t3 rfl]; rfl)
   rw [putSet_of es2 t3 rfl] at this
   exact this
  exact wpAny_pure (fin _ _ _ _ (b1.trans (Heap.SameBut.update _ a _)) g2 e1 e2 e3 e4)
 ·exact wpAny_pure (fin _ _ _ _ b1 g1 .rfl hf rfl hp)
def putK (ks : List Str) (k : Str) : List Str := if k ∈ ks then ks else ks ++ [k]
theorem Yd4 {a : Addr} {ks : List Str} {k : Str} {tk : Tok} {Q : Bool -> Shared -> Prop} {G : Value -> Prop} (hG : G (.str k tk)) (hS : TS prog w s.heap a ks G) (hr : ks.length + 1 < scanBound)
 (h : ∀ h' b, Heap.SameBut a s.heap h' -> TS prog w h' a (putK ks k) G -> Q b { s with heap := h' }) : wpAny (model prog w) A (setAddHashed a (.str k tk) ((strKind prog w).hash k)) Q E s := by
 obtain ⟨es, ep, t, ho, T⟩ := hS
 have hk : (strKind prog w).is k (.str k tk) = true := strKind_is _ _ _ _
 have hb : es.size < scanBound := by rw [T.sz]; omega
 have hb1 : es.size + 1 < scanBound := by rw [T.sz]; exact hr
 unfold setAddHashed setAddHashedIn
 refine wpAny_holding (wpAny_bind (wpAny_setState_of ho rfl T.fit ?_))
 dsimp only
 rw [byScan_of (knd := strKind prog w) (x := .str k tk) rfl hb T.el]
 simp only [↓reduceIte]
 unfold setAddByScan
 refine wpAny_bind ?_
 refine wpAny_bind (wpAny_rule ?_)
 refine wpAny_bind (wpAny_setScan_of hk ho rfl T.fit T.el ?_)
 cases q : List.findIdx? (fun e => (strKind prog w).is k e.2) es.toList with
 | some j =>
  dsimp only
  obtain ⟨hj, hpj, _⟩ := List.findIdx?_eq_some_iff_getElem.mp q
  have hin : k ∈ ks := (T.mem k).mpr ⟨es.toList[j], List.getElem_mem hj, hpj⟩
  refine wpAny_pure (wpAny_pure ?_)
  have := h s.heap false (Heap.SameBut.refl a s.heap) (by rw [putK, if_pos hin]; exact ⟨es, ep, t, ho, T⟩)
  cases s; exact this
 | none =>
  dsimp only
  have hin : k ∉ ks := fun z => by
   obtain ⟨e, he, hp⟩ := (T.mem k).mp z
   have := List.findIdx?_eq_none_iff.mp q e he
   rw [hp] at this; cases this
  have hgw : ∀ (b : Bool) {s1 : Shared} {Q1 : Unit -> Shared -> Prop}, Q1 () s1 -> wpAny (model prog w) A (match b with | true => rule "set.scan.the-table-gave-way" | false => pure ()) Q1 E s1 :=
   fun b s1 Q1 z => by
    cases b
    ·exact wpAny_pure z
    ·exact wpAny_rule z
  have e1 := layNew_perm t es ((strKind prog w).hash k) (.str k tk)
  have e2 := layNew_fits t es ((strKind prog w).hash k) (.str k tk)
  have e3 := Ycu t es ((strKind prog w).hash k) (.str k tk)
  have e4 := YaQ t es ((strKind prog w).hash k) (.str k tk)
  generalize layNew t es ((strKind prog w).hash k) (.str k tk) = L at e1 e2 e3 e4 ⊢
  obtain ⟨es1, t1, dm, gv⟩ := L
  dsimp only at e1 e2 e3 e4 ⊢
  rw [Array.toList_push] at e1
  have hz : es1.size < scanBound := by
   have := e1.length_eq
   simp only [Array.length_toList, List.length_append, List.length_singleton] at this
   rw [this]; exact hb1
  have el1 : ElemsOf (strKind prog w) es1.toList := (T.el.push hk rfl).perm e1
  have fin : ∀ (t2 : SetTable), t2.led = t1.led -> ∀ (h' : Heap) (es' : Array (Int × Value)) (ep' : Nat) (t' : SetTable), Heap.SameBut a s.heap h' -> h'.get? a = some (setObj es' ep' t') -> es'.toList.Perm es1.toList -> t'.fits es'.size = true -> t'.led = t2.led -> t'.plain = false ->
   Q true { s with heap := h' } := fun t2 l2 h' es' ep' t' sb g' pm ft ld pl =>
   h h' true sb ⟨es', ep', t', g', el1.perm pm, ft, by rw [ld, l2, e3, T.led], .inr pl, by
    rw [putK, if_neg hin]
    refine ((pm.trans e1).map _).trans ?_
    rw [List.map_append]
    exact T.pm.append_right _, fun e he => by
    rcases List.mem_append.mp ((pm.trans e1).mem_iff.mp he) with z | z
    ·exact T.gd e z
    ·rw [List.mem_singleton.mp z]; exact hG⟩
  refine wpAny_bind (hgw _ ?_)
  split
  ·refine wpAny_bind ?_
   rw [hashByValue_scannable 8 rfl]
   refine wpAny_pure ?_
   have hpk : plainKind (.str k tk) = false := rfl
   rw [hpk]
   simp only [Bool.false_eq_true, ↓reduceIte]
   refine V8 ?_ ho hz ?_ rfl ?_
   ·intro b s1 Q1 z
    cases b
    ·exact wpAny_pure z
    ·exact wpAny_rule z
   ·exact SetTable.fits_plain_off e2
   ·intro h' es' ep' t' c1 c2 c3 c4 c5 c6
    dsimp only
    exact wpAny_pure (fin _ (by rfl) h' es' ep' t' c1 c2 c3 c4 c5 c6)
  ·rename_i np
   refine wpAny_bind (wpAny_pure ?_)
   simp only [↓reduceIte]
   refine V8 ?_ ho hz e2 (by simpa using np) ?_
   ·intro b s1 Q1 z
    cases b
    ·exact wpAny_pure z
    ·exact wpAny_rule z
   ·intro h' es' ep' t' c1 c2 c3 c4 c5 c6
    dsimp only
    exact wpAny_pure (fin _ rfl h' es' ep' t' c1 c2 c3 c4 c5 c6)
end
def once (ks : List Str) : List Str := ks.foldl putK []
theorem YeB (ks : List Str) (k : Str) : once (ks ++ [k]) = putK (once ks) k := by simp [once, List.foldl_append]
theorem YeY (ks : List Str) (k : Str) : (putK ks k).length <= ks.length + 1 := by
 unfold putK; split <;> simp
theorem Wi : ∀ (ks acc : List Str), (ks.foldl putK acc).length <= acc.length + ks.length
 | [], acc => by simp
 | k :: r, acc => by
  rw [List.foldl_cons]
  have h1 := Wi r (putK acc k)
  have h2 := YeY acc k
  simp only [List.length_cons]; omega
theorem YeW (ks : List Str) : (once ks).length <= ks.length := by simpa [once] using Wi ks []
theorem Yfx {ks : List Str} {k x : Str} : x ∈ putK ks k ↔ x ∈ ks \/ x = k := by
 unfold putK
 split
 ·rename_i h
  exact ⟨.inl, fun z => z.elim id fun e => e ▸ h⟩
 ·simp
theorem Wb {x : Str} : ∀ (ks acc : List Str), x ∈ ks.foldl putK acc ↔ x ∈ acc \/ x ∈ ks
 | [], acc => by simp
 | k :: r, acc => by
  rw [List.foldl_cons, Wb r, Yfx, List.mem_cons]
  exact or_assoc
theorem mem_once {ks : List Str} {x : Str} : x ∈ once ks ↔ x ∈ ks := by simpa [once] using Wb (x := x) ks []
theorem Yc6 {ks : List Str} {k : Str} (h : ks.Nodup) : (putK ks k).Nodup := by
 unfold putK
 split
 ·exact h
 ·rename_i hk
  rw [List.nodup_append]
  exact ⟨h, by simp, fun a ha b hb e => hk (by rw [List.mem_singleton] at hb; subst hb; exact e ▸ ha)⟩
theorem ZF : ∀ (ks acc : List Str), acc.Nodup -> (ks.foldl putK acc).Nodup
 | [], _, h => h
 | k :: r, acc, h => by rw [List.foldl_cons]; exact ZF r _ (Yc6 h)
theorem YcG (ks : List Str) : (once ks).Nodup := ZF ks [] List.nodup_nil
theorem TS.keep {prog : Program} {w : World} {h h' : Heap} {a : Addr} {ks : List Str} {G : Value -> Prop} (x : TS prog w h a ks G) (k : ∀ o, h.get? a = some o -> h'.get? a = some o) : TS prog w h' a ks G :=
 let ⟨es, ep, t, ho, T⟩ := x; ⟨es, ep, t, k _ ho, T⟩
theorem TS.typeIs {prog : Program} {w : World} {s : Shared} {a : Addr} {ks : List Str} {G : Value -> Prop} (x : TS prog w s.heap a ks G) : s.TypeIs (.ref a) "set" :=
 let ⟨_, _, _, ho, _⟩ := x; ⟨_, ho, rfl⟩
theorem TS.empty {prog : Program} {w : World} {h : Heap} {a : Addr} {G : Value -> Prop} (e : h.get? a = some (setObj #[] 0 (.fresh 0 0 (!(byText w))))) : TS prog w h a [] G :=
 ⟨_, _, _, e, fun e he => by simp at he, rfl, rfl, .inl rfl, .refl _, fun e he => by simp at he⟩
section
variable {prog : Program} {w : World} {A : Around} {R : Result -> Shared -> Prop} {I : Addr} {fp wr : List Addr} {G : Array GenState -> Array GenState -> Prop} {P : Nat -> Value -> Prop} {St : Nat -> Shared -> Prop}
theorem Ybi {ys : List Str} {Gd : Value -> Prop} (W : WalksS prog w A.in1 I fp wr G ys.length P St) (S : Addr) (hS : S ∉ fp) (hv : ∀ i v, P i v -> ∃ x t, ys[i]? = some x /\ v = .str x t /\ Gd v) (hb : ys.length + 1 < scanBound) :
 ∀ (k i : Nat) (s : Shared), ys.length - i = k -> i <= ys.length -> St i s -> TS prog w s.heap S (once (ys.take i)) Gd ->
  (∀ s', Moved (S :: wr) G s s' -> TS prog w s'.heap S (once ys) Gd -> R (.ok (.ret .none)) s') -> codeAny (model prog w) A (.builtin "set.update.loop" ⟨[.ref S, .ref I], []⟩) R s := by
 have nw : S ∉ wr := fun h => hS (W.sub _ h)
 have sub : ∀ b ∈ wr, b ∈ S :: wr := fun b hb => List.mem_cons_of_mem _ hb
 intro k
 induction k with
 | zero =>
  intro i s hk hi hst T hR
  have e : i = ys.length := by omega
  subst e
  rw [List.take_length] at T
  refine codeAny_builtin F.entry_set_update_loop ?_
  rw [Around.under_plainId F.plain_set_update_loop _]
  show wpAny _ A.in1 (pyNext (.ref I) >>= _) _ _ s
  refine wpAny_bind (W.done s _ _ hst fun s' hm => ?_)
  show wpAny _ A.in1 (ret Value.none) _ _ s'
  exact wpAny_pure (hR s' (hm.mono sub) (T.keep fun o e => hm.heap S o nw e))
 | succ k ih =>
  intro i s hk hi hst T hR
  have hlt : i < ys.length := by omega
  refine codeAny_builtin F.entry_set_update_loop ?_
  rw [Around.under_plainId F.plain_set_update_loop _]
  show wpAny _ A.in1 (pyNext (.ref I) >>= _) _ _ s
  refine wpAny_bind (W.item i s _ _ hlt hst fun v s' hP hst' hm => ?_)
  obtain ⟨x, t, hx, rfl, hgd⟩ := hv i v hP
  have T' : TS prog w s'.heap S (once (ys.take i)) Gd := T.keep fun o e => hm.heap S o nw e
  show wpAny _ A.in1 (holding [Value.str x t] (setAdd S (.str x t)) >>= _) _ _ s'
  refine wpAny_bind (wpAny_holding ?_)
  unfold setAdd
  refine wpAny_holding ?_
  refine wpAny_bind ((strKind prog w).pyHash (k := x) (strKind_is _ _ _ _) ?_)
  have room : (once (ys.take i)).length + 1 < scanBound := by
   have := YeW (ys.take i)
   rw [List.length_take] at this
   omega
  refine Yd4 (s := { s' with toks := s'.toks + 1 }) hgd T' room fun h' b sb T2 => ?_
  have T3 : TS prog w h' S (once (ys.take (i + 1))) Gd := by
   rw [List.take_add_one, hx]
   simp only [Option.toList_some]
   rw [YeB]
   exact T2
  refine wpAny_pure ⟨plainId_quiet F.plain_set_update_loop _, ih (i + 1) _ (by omega) hlt (W.frame _ s' _ _ hst' (Nat.le_succ _) fun b hb o e => ?_) T3 fun s2 hm2 T4 => ?_⟩
  ·rw [sb.2 b fun z : b = S => hS (z ▸ hb)]; exact e
  ·refine hR s2 (Moved.trans W.gtrans ((hm.mono sub).then_heap (Nat.le_succ _) fun b o hb e => ?_) hm2) T4
   rw [sb.2 b fun z : b = S => hb (z ▸ List.mem_cons_self)]; exact e
end
section
variable {prog : Program} {w : World} {A : Around} {E : Value -> Shared -> Prop} {s : Shared}
theorem Ych (a : Value) {Q : Value -> Shared -> Prop}
 (h : Q (.ref s.heap.objs.size) { s with heap := s.heap.push (setObj #[] 0 (.fresh 0 0 (!(byText w)))) }) :
 codeAny (model prog w) A (.call (.builtin "set.__new__") ⟨[.type "set", a], []⟩) (wants Q E) s := by
 refine codeAny_of_tree ?_
 show wpAny _ A.in1 (do checkBuiltinCall "set.__new__" ⟨[.type "set", a], []⟩; again (.builtin "set.__new__" ⟨[.type "set", a], []⟩)) _ _ s
 refine wpAny_bind (wpAny_of_eq (F.newCall_set_1 a) (wpAny_pure ⟨plainId_quiet F.plain_set_new _, codeAny_builtin F.entry_set_new ?_⟩))
 rw [Around.under_plainId F.plain_set_new _]
 unfold Builtin.«set.__new__» Builtin.Frozenset.newClass
 have q1 := sub_set_self
 obtain ⟨hp, g, d, tk, os⟩ := s
 dsimp only
 wp_walk
 refine wpAny_askSetting (wpAny_pure ?_)
 dsimp only
 simp only [newObj]
 refine wpAny_bind (wpAny_alloc (wpAny_pure ?_))
 exact wpAny_pure h
set_option maxHeartbeats 3200000 in
theorem Yeq {l : Addr} {items : Array Value} {ys : List Str} {Gd : Value -> Prop} {Q : Value -> Shared -> Prop} (hgd : ∀ v ∈ items.toList, Gd v)
 (hh : A.handled = none) (hl : s.heap.IsList l items) (hi : StrsAre items.toList ys) (hb : ys.length + 1 < scanBound)
 (h : ∀ (h' : Heap) (tk : Nat), TS prog w h' s.heap.objs.size (once ys) Gd -> s.heap.objs.size < h'.objs.size -> (∀ b o, s.heap.get? b = some o -> h'.get? b = some o) -> Q (.ref s.heap.objs.size) { s with heap := h', toks := tk }) :
 wpAny (model prog w) A (call (.type "set") [.ref l]) Q E s := by
 have hn : items.size = ys.length := by have := StrsAre.length hi; simpa using this
 obtain ⟨c, tl, hmro⟩ := F.called_set.mro
 have q1 := F.called_set.made
 have q2 := F.called_set.sub
 refine wpAny_call (codeAny_of_tree ?_)
 show wpAny _ _ (callAny (.type "set") _) _ _ _
 refine wpAny_pure ⟨Code.quiet_builtin _ (by decide +kernel), codeAny_builtin F.entry_type_call ?_⟩
 rw [Around.under_plain (weight_type_call_type "set" [.ref l] []) rfl]
 have q3 := F.called_set.notType
 have q4 := F.called_set.canCreate
 have q5 := F.typeCall_set_1 (.ref l)
 repeat (any_goals (first | assumption | wp_step))
 refine codeAny_mono (Ych (.ref l) (E := E) (Q := fun obj s1 => obj = .ref s.heap.objs.size /\ s1 = { s with heap := s.heap.push (setObj #[] 0 (.fresh 0 0 (!(byText w)))) }) ⟨rfl, rfl⟩) fun r s1 hr => ?_
 cases r with
 | error e => exact hr
 | ok fl =>
  cases fl with
  | ret obj =>
   obtain ⟨rfl, rfl⟩ := hr
   have gS : (s.heap.push (setObj #[] 0 (.fresh 0 0 (!(byText w))))).get? s.heap.objs.size = some (setObj #[] 0 (.fresh 0 0 (!(byText w)))) := Heap.get?_push_size _ rfl
   have hT : Shared.TypeIs { s with heap := s.heap.push (setObj #[] 0 (.fresh 0 0 (!(byText w)))) } (.ref s.heap.objs.size) "set" := ⟨_, gS, rfl⟩
   have q6 := F.called_set.init.lookup
   have q7 := F.called_set.init.bind (.ref s.heap.objs.size)
   repeat (any_goals (first | assumption | wp_step))
   refine codeAny_mono (codeAny_call_builtin (R := wants (fun r s2 => r = .none /\ ∃ h' tk, s2 = { s with heap := h', toks := tk } /\ TS prog w h' s.heap.objs.size (once ys) Gd /\ (∀ b o, s.heap.get? b = some o -> h'.get? b = some o)) E)
    F.called_set.init.plain F.entry_set_init (check_set_init_1 hT ?_)) fun r2 s2 hr2 => ?_
   ·obtain ⟨ol, hol, hcl, nl, hdl⟩ := hl
    obtain ⟨ocls, odict, odata, oslots⟩ := ol
    simp only at hcl hdl
    subst hcl; subst hdl
    have hol1 : (s.heap.push (setObj #[] 0 (.fresh 0 0 (!(byText w))))).get? l = some { cls := .type "list", dict := odict, data := .seq items nl, slots := oslots } := Heap.get?_push_of_some _ hol
    have q8 := F.sub_list_set
    have q9 := F.sub_list_frozenset
    have q10 : (Value.type "list" == Value.type "dict") = false := by decide
    have hl1 : (s.heap.push (setObj #[] 0 (.fresh 0 0 (!(byText w))))).IsList l items := ⟨_, hol1, rfl, nl, rfl⟩
    unfold Builtin.«set.__init__» noKeywords Builtin.Frozenset.updateFrom
    generalize hPI : pyIter = PI
    wp_walk
    subst hPI
    refine wpAny_pyIter_list hl1 ?_
    refine wpAny_bind (wpAny_runValue ?_)
    have lt : l < s.heap.objs.size := Heap.lt_size hol
    have hh3 : A.in1.in1.in1.handled = none := by simp [hh]
    have hneI : l ≠ (s.heap.push (setObj #[] 0 (.fresh 0 0 (!(byText w))))).objs.size := by
     rw [Heap.size_push]; exact Nat.ne_of_lt (Nat.lt_succ_of_lt lt)
    have hSf : s.heap.objs.size ∉ [(s.heap.push (setObj #[] 0 (.fresh 0 0 (!(byText w))))).objs.size, l] := by
     rw [Heap.size_push]; simp only [List.mem_cons, List.mem_singleton, List.not_mem_nil, or_false, not_or]
     exact ⟨Nat.ne_of_lt (Nat.lt_succ_self _), Nat.ne_of_gt lt⟩
    have hv : ∀ (i : Nat) (v : Value), items[i]? = some v -> ∃ x t, ys[i]? = some x /\ v = .str x t /\ Gd v := fun i v hv => by
     have e1 : v ∈ items.toList := by
      rw [<- Array.getElem?_toList] at hv
      exact List.mem_of_getElem? hv
     obtain ⟨x, t, rfl⟩ := hi.all v e1
     refine ⟨x, t, ?_, rfl, hgd _ e1⟩
     have := hi.strs
     rw [<- this, List.getElem?_map, Array.getElem?_toList, hv]
     rfl
    have W := (Walks.list (prog := prog) (w := w) hh3 _ l hneI items).toS
    rw [hn] at W
    refine Ybi W s.heap.objs.size hSf hv hb (ys.length - 0) 0 _ (by omega) (Nat.zero_le _)
     ⟨⟨_, Heap.get?_push_size _ rfl, rfl, rfl⟩, (hl1.push _)⟩ ?hS0 ?hR
    case hS0 =>
     exact TS.empty (Heap.get?_push_of_some _ gS)
    case hR =>
     intro s3 hm T3
     obtain ⟨h3, g3, d3, tk3, os3⟩ := s3
     have eg : g3 = s.gens := hm.gens
     have ed : d3 = s.drawn := hm.drawn
     have eo : os3 = s.os := hm.os
     subst eg; subst ed; subst eo
     show wpAny _ _ _ _ _ _
     refine wpAny_pure ?_
     show wpAny _ _ (ret Value.none) _ _ _
     refine wpAny_pure ⟨rfl, h3, tk3, rfl, T3, fun b o e => ?_⟩
     have hb := Heap.lt_size e
     have hb1 : b ≠ s.heap.objs.size := Nat.ne_of_lt hb
     have hb2 : b ≠ (s.heap.push (setObj #[] 0 (.fresh 0 0 (!(byText w))))).objs.size := by
      rw [Heap.size_push]; exact Nat.ne_of_lt (Nat.lt_succ_of_lt hb)
     exact hm.heap b o (by simp only [List.mem_cons, List.mem_singleton, List.not_mem_nil, or_false, not_or]; exact ⟨hb1, hb2⟩) (Heap.get?_push_of_some _ (Heap.get?_push_of_some _ e))
   ·cases r2 with
    | error e => exact hr2
    | ok fl2 =>
     cases fl2 with
     | ret r =>
      obtain ⟨rfl, h', tk, rfl, hS', hk'⟩ := hr2
      repeat (any_goals (first | assumption | wp_step))
      obtain ⟨es, ep, t, ho, T⟩ := hS'
      exact h _ _ ⟨es, ep, t, ho, T⟩ (Heap.lt_size ho) hk'
     | _ => exact hr2.elim
  | _ => exact hr.elim
end
theorem slot_seti_next : Slot "set_iterator" "__next__" "set_iterator.__next__" :=
 .of (owner := "set_iterator") (n := "__next__") (by rw [typeLookup_type, builtinLookup_eq_fast]; kernel_rfl) (by decide +kernel) (by decide +kernel) (by decide +kernel)
  (by first | exact .inl (by decide +kernel) | exact .inr (by decide +kernel)) (by rw [isSubtype_type]; kernel_rfl)
theorem Z9 : Slot "set_iterator" "__iter__" "set_iterator.__iter__" :=
 .of (owner := "set_iterator") (n := "__iter__") (by rw [typeLookup_type, builtinLookup_eq_fast]; kernel_rfl) (by decide +kernel) (by decide +kernel) (by decide +kernel)
  (by first | exact .inl (by decide +kernel) | exact .inr (by decide +kernel)) (by rw [isSubtype_type]; kernel_rfl)
theorem YT : entryFor table "set_iterator.__next__" = some Builtin.«set_iterator.__next__» := entryFor_of_fast (by kernel_rfl)
theorem VX : entryFor table "set_iterator.__iter__" = some Builtin.«dict_keyiterator.__iter__» :=
 entryFor_alias (id' := "dict_keyiterator.__iter__") (by kernel_rfl) rfl (by decide +kernel) (by kernel_rfl)
theorem VY : entryFor table "set.__iter__" = some Builtin.«frozenset.__iter__» :=
 entryFor_alias (id' := "frozenset.__iter__") (by kernel_rfl) rfl (by decide +kernel) (by kernel_rfl)
theorem Y2 (a : Value) : argsOk "set_iterator.__next__" ⟨[a], []⟩ := by unfold argsOk; kernel_rfl
theorem Ju (a : Value) : argsOk "set_iterator.__iter__" ⟨[a], []⟩ := by unfold argsOk; kernel_rfl
def itObj (f : Value) (i : Nat) (S : Addr) (n ep : Nat) : Obj := { cls := .type "set_iterator", dict := none, data := .fields #[f, .int i 0, .ref S, .int n 0, .int ep 0], slots := #[] }
section
variable {prog : Program} {w : World} {A : Around} {E : Value -> Shared -> Prop} {s : Shared} {I S : Addr} {f : Value} {i ep : Nat} {es : Array (Int × Value)} {t : SetTable} {Q : Option Value -> Shared -> Prop}
theorem Wn (hI : s.heap.get? I = some (itObj f i S es.size ep)) (hS : s.heap.get? S = some (setObj es ep t)) (hf : t.fits es.size = true)
 {P : Fin -> Shared -> Prop}
 (h : wpAny (model prog w) A (match f with
  | .int slot _ => (do
   match <- setNext S slot.toNat i ep with
   | some (x, next) =>
    setField (.ref I) 0 (rawInt next)
    setField (.ref I) 1 (rawInt ((i : Int) + 1))
    ret x
   | none => setField (.ref I) 2 .none; raiseNew (<- newExc (.type "StopIteration") []))
  | _ => (do
   let some places <- seqItems? f | unsupported "internal:set_iterator"
   match places[i]? with
   | some (.int place _) =>
    let x <- setNextDrawn S place.toNat ep
    setField (.ref I) 1 (rawInt ((i : Int) + 1))
    ret x
   | some _ => unsupported "internal:set_iterator"
   | none => setField (.ref I) 0 (rawInt 0); setField (.ref I) 2 .none; raiseNew (<- newExc (.type "StopIteration") []))) P E s) :
 wpAny (model prog w) A (Builtin.«set_iterator.__next__» ⟨[.ref I], []⟩) P E s := by
 unfold Builtin.«set_iterator.__next__» slotArgs
 simp only [List.isEmpty_nil, Bool.not_true, Bool.false_eq_true, ↓reduceIte, List.length_nil, bne_self_eq_false]
 refine wpAny_bind (wpAny_pure ?_)
 dsimp only
 unfold fieldsOf
 refine wpAny_bind (wpAny_bind (wpAny_load hI ?_))
 refine wpAny_pure ?_
 dsimp only
 refine wpAny_bind (wpAny_setEntries_of hS rfl hf ?_)
 simp only [bne_self_eq_false, Bool.false_eq_true, ↓reduceIte, Int.toNat_natCast]
 cases f <;> exact h
end
section
variable {prog : Program} {w : World} {A : Around} {E : Value -> Shared -> Prop} {s : Shared} {I S : Addr} {f : Value} {i ep : Nat} {es : Array (Int × Value)} {t : SetTable} {Q : Option Value -> Shared -> Prop}
theorem Y3 (hI : s.heap.get? I = some (itObj f i S es.size ep)) : s.TypeIs (.ref I) "set_iterator" := ⟨_, hI, rfl⟩
theorem VA {h0 : Heap} (hh : A.handled = none) (k : Heap.ExtBut I h0 s.heap) {P : Fin -> Shared -> Prop}
 (h : ∀ h' x, Heap.ExtBut I h0 h' -> (∃ o, h'.get? x = some o /\ o.cls = .type "StopIteration") -> E (.ref x) { s with heap := h' }) :
 wpAny (model prog w) A (do raiseNew (<- newExc (.type "StopIteration") [])) P E s := by
 refine wpAny_bind ?_
 simp only [newExc, newTuple]
 refine wpAny_bind (wpAny_newObj_type ?_ (by size_fits))
 refine wpAny_bind (m := firstArgMember _ _) (wpAny_of_eq (a := Value.none) (by first | rfl | (simp only [firstArgMember]; rfl)) ?_)
 refine wpAny_newObj_type ?_ (by size_fits)
 simp only [raiseNew]
 refine wpAny_bind (wpAny_handled ?_)
 rw [hh]
 refine wpAny_bind (wpAny_pure (wpAny_throw ?_))
 exact h _ _ ((k.push _).push _) ⟨_, Heap.get?_push_size _ rfl, rfl⟩
theorem JZ {slot next : Nat} {x : Value} (hI : s.heap.get? I = some (itObj (.int slot 0) i S es.size ep)) (hS : s.heap.get? S = some (setObj es ep t)) (hf : t.fits es.size = true)
 (hn : ∀ (A' : Around) (E' : Value -> Shared -> Prop) (Q' : Option (Value × Nat) -> Shared -> Prop), Q' (some (x, next)) s -> wpAny (model prog w) A' (setNext S slot i ep) Q' E' s)
 (h : ∀ h', h'.get? I = some (itObj (.int next 0) (i + 1) S es.size ep) -> Heap.SameBut I s.heap h' -> Q (some x) { s with heap := h' }) : wpAny (model prog w) A (pyNext (.ref I)) Q E s := by
 unfold pyNext
 refine wpAny_bind (wpAny_attempt (wpAny_callSpecial?_slot (name := Str.ofString "__next__") (Y3 hI) slot_seti_next
  (wpAny_call_entry slot_seti_next (Y3 hI) YT (Wn hI hS hf ?_) (Y2 _))))
 dsimp only
 refine wpAny_bind ?_
 simp only [Int.toNat_natCast]
 refine hn _ _ _ ?_
 dsimp only
 refine wpAny_bind (wpAny_setField_rec hI (by simp) fun h1 g1 b1 => ?_)
 refine wpAny_bind (wpAny_setField_rec g1 (by simp) fun h2 g2 b2 => ?_)
 exact wpAny_pure ⟨_, rfl, wpAny_pure (h h2 (by rw [g2]; simp [itObj, rawInt]) (b1.trans b2))⟩
theorem Vv {slot : Nat} (hh : A.handled = none) (hI : s.heap.get? I = some (itObj (.int slot 0) i S es.size ep)) (hS : s.heap.get? S = some (setObj es ep t)) (hf : t.fits es.size = true)
 (hn : ∀ (A' : Around) (E' : Value -> Shared -> Prop) (Q' : Option (Value × Nat) -> Shared -> Prop), Q' none s -> wpAny (model prog w) A' (setNext S slot i ep) Q' E' s)
 (h : ∀ h', Heap.ExtBut I s.heap h' -> Q none { s with heap := h' }) : wpAny (model prog w) A (pyNext (.ref I)) Q E s := by
 unfold pyNext
 refine wpAny_bind (wpAny_attempt (wpAny_callSpecial?_slot (name := Str.ofString "__next__") (Y3 hI) slot_seti_next
  (wpAny_call_entry slot_seti_next (Y3 hI) YT (Wn hI hS hf ?_) (Y2 _))))
 dsimp only
 refine wpAny_bind ?_
 simp only [Int.toNat_natCast]
 refine hn _ _ _ ?_
 dsimp only
 refine wpAny_bind (wpAny_setField_rec hI (by simp) fun h1 g1 b1 => ?_)
 refine VA (h0 := s.heap) (s := { s with heap := h1 }) (A := A.in1) hh b1.extBut fun h2 x k ⟨o, ho, hc⟩ => ?_
 refine wpAny_bind (wpAny_isInstance (T := "StopIteration") (b := true) ⟨o, ho, hc⟩ isSubtype_stop ?_)
 exact wpAny_pure (h _ k)
theorem YcP {T : Addr} {pl : Array Value} {n p : Nat} {tk : Tok} {hx : Int} {x : Value} (hI : s.heap.get? I = some (itObj (.ref T) i S es.size ep)) (hS : s.heap.get? S = some (setObj es ep t)) (hf : t.fits es.size = true)
 (hT : s.heap.get? T = some { cls := .type "tuple", data := .seq pl n }) (hp : pl[i]? = some (.int p tk)) (he : es[p]? = some (hx, x))
 (h : ∀ h', h'.get? I = some (itObj (.ref T) (i + 1) S es.size ep) -> Heap.SameBut I s.heap h' -> Q (some x) { s with heap := h' }) : wpAny (model prog w) A (pyNext (.ref I)) Q E s := by
 unfold pyNext
 refine wpAny_bind (wpAny_attempt (wpAny_callSpecial?_slot (name := Str.ofString "__next__") (Y3 hI) slot_seti_next
  (wpAny_call_entry slot_seti_next (Y3 hI) YT (Wn hI hS hf ?_) (Y2 _))))
 dsimp only
 refine wpAny_bind (wpAny_seqItems hT rfl ?_)
 dsimp only
 rw [hp]
 dsimp only
 unfold setNextDrawn
 refine wpAny_bind (wpAny_bind (wpAny_setState_of hS rfl hf ?_))
 simp only [bne_self_eq_false, Bool.false_eq_true, ↓reduceIte, Int.toNat_natCast, he]
 refine wpAny_pure ?_
 refine wpAny_bind (wpAny_setField_rec hI (by simp) fun h1 g1 b1 => ?_)
 exact wpAny_pure ⟨_, rfl, wpAny_pure (h h1 (by rw [g1]; simp [itObj, rawInt]) b1)⟩
theorem YdI {T : Addr} {pl : Array Value} {n : Nat} (hh : A.handled = none) (hI : s.heap.get? I = some (itObj (.ref T) i S es.size ep)) (hS : s.heap.get? S = some (setObj es ep t)) (hf : t.fits es.size = true)
 (hT : s.heap.get? T = some { cls := .type "tuple", data := .seq pl n }) (hp : pl[i]? = none)
 (h : ∀ h', Heap.ExtBut I s.heap h' -> Q none { s with heap := h' }) : wpAny (model prog w) A (pyNext (.ref I)) Q E s := by
 unfold pyNext
 refine wpAny_bind (wpAny_attempt (wpAny_callSpecial?_slot (name := Str.ofString "__next__") (Y3 hI) slot_seti_next
  (wpAny_call_entry slot_seti_next (Y3 hI) YT (Wn hI hS hf ?_) (Y2 _))))
 dsimp only
 refine wpAny_bind (wpAny_seqItems hT rfl ?_)
 dsimp only
 rw [hp]
 dsimp only
 refine wpAny_bind (wpAny_setField_rec hI (by simp) fun h1 g1 b1 => ?_)
 refine wpAny_bind (wpAny_setField_rec g1 (by simp) fun h2 g2 b2 => ?_)
 refine VA (h0 := s.heap) (s := { s with heap := h2 }) (A := A.in1) hh (b1.trans b2).extBut fun h3 x k ⟨o, ho, hc⟩ => ?_
 refine wpAny_bind (wpAny_isInstance (T := "StopIteration") (b := true) ⟨o, ho, hc⟩ isSubtype_stop ?_)
 exact wpAny_pure (h _ k)
theorem Vw (hI : s.heap.get? I = some (itObj f i S es.size ep)) {Q : Value -> Shared -> Prop} (h : Q (.ref I) s) : wpAny (model prog w) A (pyIter (.ref I)) Q E s := by
 refine wpAny_pyIter_slot (Y3 hI) Z9 (wpAny_call_entry Z9 (Y3 hI) VX ?_ (Ju _))
 show wpAny _ _ (ret (.ref I)) _ _ s
 exact wpAny_pure ⟨_, rfl, "set_iterator", _, Y3 hI, slot_seti_next.lookup, h⟩
end
theorem Ja {α : Type} {xs : Array α} (h : xs.size = 1) : ∃ x, xs = #[x] := by
 obtain ⟨l⟩ := xs
 match l, h with
 | [x], _ => exact ⟨x, rfl⟩
theorem WJ {α : Type} : ∀ {l : List α} {i : Nat} (h : i < l.length), (l[i] :: l.eraseIdx i).Perm l
 | [], _, h => by simp at h
 | x :: l, 0, _ => .refl _
 | x :: l, i + 1, h => by
  have h' : i < l.length := by simpa using h
  simp only [List.getElem_cons_succ, List.eraseIdx_cons_succ]
  exact (List.Perm.swap _ _ _).trans ((WJ h').cons _)
theorem VJ {α : Type} (next : Nat -> Nat) : ∀ (n k : Nat) (left : List α) (out : Array α), left.length = n -> (pickOrder.go next n k left out).toList.Perm (out.toList ++ left)
 | 0, k, left, out, h => by
  have : left = [] := List.length_eq_zero_iff.mp h
  subst this
  simp [pickOrder.go]
 | n + 1, k, left, out, h => by
  have hlt : next k % left.length < left.length := Nat.mod_lt _ (by omega)
  unfold pickOrder.go
  rw [List.getElem?_eq_getElem hlt]
  dsimp only
  refine (VJ next n (k + 1) _ _ (by rw [List.length_eraseIdx_of_lt hlt]; omega)).trans ?_
  rw [Array.toList_push, List.append_assoc]
  refine List.Perm.append_left _ ?_
  exact WJ hlt
theorem Vj {α : Type} (next : Nat -> Nat) (xs : Array α) : (pickOrder next xs).toList.Perm xs.toList := by
 have := VJ next xs.size 0 xs.toList #[] (by simp)
 simpa [pickOrder] using this
section
variable {prog : Program} {w : World} {A : Around} {E : Value -> Shared -> Prop} {s : Shared} {I S : Addr} {i ep slot : Nat} {es : Array (Int × Value)} {t : SetTable}
theorem WV (hb : byText w = true) (hS : s.heap.get? S = some (setObj es ep t)) (hf : t.fits es.size = true) {Q : Option (Value × Nat) -> Shared -> Prop}
 (h : Q (((pickOrder (w.params.setOrder S ep) es)[i]?).map fun e => (e.2, slot)) s) : wpAny (model prog w) A (setNext S slot i ep) Q E s := by
 unfold setNext
 refine wpAny_bind (wpAny_setState_of hS rfl hf ?_)
 dsimp only
 unfold setsByText
 refine wpAny_bind (wpAny_bind (wpAny_askSetting (wpAny_pure ?_)))
 rw [if_pos (show (model prog w).w.params.followText "set-order" = true from hb)]
 simp only [bne_self_eq_false, Bool.false_eq_true, ↓reduceIte]
 unfold setWalk
 refine wpAny_bind (wpAny_bind (wpAny_setState_of hS rfl hf ?_))
 dsimp only
 unfold setsByText
 refine wpAny_bind (wpAny_bind (wpAny_askSetting (wpAny_pure ?_)))
 rw [if_pos (show (model prog w).w.params.followText "set-order" = true from hb)]
 refine wpAny_bind (wpAny_askSetting (wpAny_pure ?_))
 exact wpAny_pure h
theorem Wf (hb : byText w = false) (hS : s.heap.get? S = some (setObj es ep t)) (hf : t.fits es.size = true) (hl : t.led = true) (hz : es.size <= 1) {Q : Option (Value × Nat) -> Shared -> Prop}
 (h : Q (match es[SetTable.below t.place slot]?, t.place[SetTable.below t.place slot]? with
  | some (_, x), some j => some (x, j + 1)
  | _, _ => none) s) : wpAny (model prog w) A (setNext S slot i ep) Q E s := by
 unfold setNext
 refine wpAny_bind (wpAny_setState_of hS rfl hf ?_)
 dsimp only
 unfold setsByText
 refine wpAny_bind (wpAny_bind (wpAny_askSetting (wpAny_pure ?_)))
 rw [if_neg (show ¬ (model prog w).w.params.followText "set-order" = true from by show ¬ byText w = true; rw [hb]; simp)]
 split
 ·rename_i z
  have z' : (!t.plain && decide (es.size > 1)) = true := z
  rw [Bool.and_eq_true] at z'
  have := of_decide_eq_true z'.2
  omega
 ·refine wpAny_bind (m := if (!t.led && !es.isEmpty) = true then unsupported "set:maker-not-led" else pure ()) ?_
  rw [hl]
  simp only [Bool.not_true, Bool.false_and, Bool.false_eq_true, ↓reduceIte]
  exact wpAny_pure (wpAny_pure h)
theorem Yc9 (hh : A.handled = none) (hb : byText w = true) (hne : S ≠ I) (hf : t.fits es.size = true) :
 Walks prog w A I [I, S] [I] es.size (fun i v => ((pickOrder (w.params.setOrder S ep) es).map (·.2))[i]? = some v) (fun i h => h.get? I = some (itObj (.int 0 0) i S es.size ep) /\ h.get? S = some (setObj es ep t)) where
 sub := fun b hb => by simp at hb; simp [hb]
 frame := fun _ _ _ st hk => ⟨hk I (by simp) _ st.1, hk S (by simp) _ st.2⟩
 item := fun i s Q E hi st hQ => by
  have hsz : (pickOrder (w.params.setOrder S ep) es).size = es.size := by
   have := (Vj (w.params.setOrder S ep) es).length_eq
   simpa using this
  have hi' : i < (pickOrder (w.params.setOrder S ep) es).size := by omega
  refine JZ (slot := 0) (next := 0) (x := ((pickOrder (w.params.setOrder S ep) es)[i]).2) st.1 st.2 hf (fun A' E' Q' hq => WV hb st.2 hf ?_) fun h' g' b' => ?_
  ·rw [Array.getElem?_eq_getElem hi']; exact hq
  ·exact hQ _ h' s.toks (by simp [hi']) ⟨g', b'.extBut S _ hne st.2⟩ fun b o hb e => b'.extBut b o (fun z => hb (by simp [z])) e
 done := fun s Q E st hQ => by
  have hsz : (pickOrder (w.params.setOrder S ep) es).size = es.size := by
   have := (Vj (w.params.setOrder S ep) es).length_eq
   simpa using this
  refine Vv (slot := 0) hh st.1 st.2 hf (fun A' E' Q' hq => WV hb st.2 hf ?_) fun h' b' => ?_
  ·rw [Array.getElem?_eq_none (by omega)]; exact hq
  ·exact hQ h' s.toks fun b o hb e => b' b o (fun z => hb (by simp [z])) e
 self := fun _ _ _ _ st hQ => Vw st.1 hQ
theorem YdW (hh : A.handled = none) (hb : byText w = false) (hne : S ≠ I) (hf : t.fits es.size = true) (hl : t.led = true) (hz : es.size <= 1) :
 Walks prog w A I [I, S] [I] es.size (fun i v => (es.map (·.2))[i]? = some v) (fun i h => h.get? I = some (itObj (.int (if i = 0 then 0 else t.place.getD 0 0 + 1 : Nat) 0) i S es.size ep) /\ h.get? S = some (setObj es ep t)) where
 sub := fun b hb => by simp at hb; simp [hb]
 frame := fun _ _ _ st hk => ⟨hk I (by simp) _ st.1, hk S (by simp) _ st.2⟩
 item := fun i s Q E hi st hQ => by
  have e0 : i = 0 := by omega
  have e1 : es.size = 1 := by omega
  subst e0
  have hp : t.place.size = 1 := by
   have : (t.place.size == es.size && decide (t.fill <= t.mask)) = true := hf
   rw [Bool.and_eq_true, beq_iff_eq] at this
   omega
  obtain ⟨j, ej⟩ : ∃ j, t.place = #[j] := Ja hp
  obtain ⟨y, ey⟩ : ∃ y, es = #[y] := Ja e1
  refine JZ (slot := 0) (next := j + 1) (x := y.2) st.1 st.2 hf (fun A' E' Q' hq => Wf hb st.2 hf hl hz ?_) fun h' g' b' => ?_
  ·have hbl : SetTable.below t.place 0 = 0 := by rw [ej]; simp [SetTable.below, SetTable.below.go]
   rw [hbl, ej, ey]
   exact hq
  ·refine hQ _ h' s.toks (by rw [ey]; simp) ⟨?_, b'.extBut S _ hne st.2⟩ fun b o hb e => b'.extBut b o (fun z => hb (by simp [z])) e
   rw [g', ej]; rfl
 done := fun s Q E st hQ => by
  rcases Nat.lt_or_ge 0 es.size with h0 | h0
  ·have e1 : es.size = 1 := by omega
   have hp : t.place.size = 1 := by
    have : (t.place.size == es.size && decide (t.fill <= t.mask)) = true := hf
    rw [Bool.and_eq_true, beq_iff_eq] at this
    omega
   obtain ⟨j, ej⟩ : ∃ j, t.place = #[j] := Ja hp
   refine Vv (slot := j + 1) hh (by have := st.1; rw [e1] at this ⊢; rw [ej] at this; exact this) st.2 hf (fun A' E' Q' hq => Wf hb st.2 hf hl hz ?_) fun h' b' => ?_
   ·have hbl : SetTable.below t.place (j + 1) = 1 := by rw [ej]; simp [SetTable.below, SetTable.below.go]
    rw [hbl, Array.getElem?_eq_none (by omega : es.size <= 1)]
    exact hq
   ·exact hQ h' s.toks fun b o hb e => b' b o (fun z => hb (by simp [z])) e
  ·have e0 : es.size = 0 := by omega
   refine Vv (slot := 0) hh (by have := st.1; rw [e0] at this ⊢; exact this) st.2 hf (fun A' E' Q' hq => Wf hb st.2 hf hl hz ?_) fun h' b' => ?_
   ·rw [Array.getElem?_eq_none (by omega : es.size <= _)]
    exact hq
   ·exact hQ h' s.toks fun b o hb e => b' b o (fun z => hb (by simp [z])) e
 self := fun _ _ _ _ st hQ => Vw st.1 hQ
theorem Yb0 {T : Addr} {od : List Nat} {n : Nat} (hh : A.handled = none) (hne : S ≠ I) (hnT : T ≠ I) (hf : t.fits es.size = true) (hod : od.Perm (List.range es.size)) :
 Walks prog w A I [I, S, T] [I] es.size (fun i v => (od.filterMap fun j => (es[j]?).map (·.2))[i]? = some v)
  (fun i h => h.get? I = some (itObj (.ref T) i S es.size ep) /\ h.get? S = some (setObj es ep t) /\ h.get? T = some { cls := .type "tuple", data := .seq (od.map fun (j : Nat) => rawInt j).toArray n }) where
 sub := fun b hb => by simp at hb; simp [hb]
 frame := fun _ _ _ st hk => ⟨hk I (by simp) _ st.1, hk S (by simp) _ st.2.1, hk T (by simp) _ st.2.2⟩
 item := fun i s Q E hi st hQ => by
  have hl : od.length = es.size := by simpa using hod.length_eq
  have hi' : i < od.length := by omega
  have hj : od[i] < es.size := by
   have := hod.mem_iff.mp (List.getElem_mem hi')
   simpa using this
  have key : ∀ (od' : List Nat), (∀ j ∈ od', j < es.size) -> od'.filterMap (fun j => (es[j]?).map (·.2)) = od'.map fun j => (es.getD j (0, .none)).2 := by
   intro od'
   induction od' with
   | nil => intro _; rfl
   | cons j r ih =>
    intro hm
    have h1 := hm j (List.mem_cons_self ..)
    rw [List.filterMap_cons, Array.getElem?_eq_getElem h1]
    simp only [Option.map_some, List.map_cons]
    rw [ih fun k hk => hm k (List.mem_cons_of_mem _ hk)]
    simp [h1]
  refine YcP (p := od[i]) (tk := 0) (hx := es[od[i]].1) (x := es[od[i]].2) st.1 st.2.1 hf st.2.2 (by simp [hi', rawInt]) (by rw [Array.getElem?_eq_getElem hj]) fun h' g' b' => ?_
  refine hQ _ h' s.toks ?_ ⟨g', b'.extBut S _ hne st.2.1, b'.extBut T _ hnT st.2.2⟩ fun b o hb e => b'.extBut b o (fun z => hb (by simp [z])) e
  rw [key od fun j hj => by simpa using hod.mem_iff.mp hj]
  simp [hi', hj]
 done := fun s Q E st hQ => by
  have hl : od.length = es.size := by simpa using hod.length_eq
  refine YdI hh st.1 st.2.1 hf st.2.2 (by simp [hl]) fun h' b' => ?_
  exact hQ h' s.toks fun b o hb e => b' b o (fun z => hb (by simp [z])) e
 self := fun _ _ _ _ st hQ => Vw st.1 hQ
theorem WX {α : Type} : ∀ (n : Nat) (xs : List α) (s : Shared) (Q : List α -> Shared -> Prop), xs.length = n -> (∀ ys d, ys.Perm xs -> Q ys { s with drawn := d }) -> wpAny (model prog w) A (drawOrder n xs) Q E s
 | 0, xs, s, Q, hn, h => by
  have : xs = [] := List.length_eq_zero_iff.mp hn
  subst this
  unfold drawOrder
  exact wpAny_pure (h [] s.drawn (.refl _))
 | n + 1, [], s, Q, hn, h => by cases hn
 | n + 1, x :: xs, s, Q, hn, h => by
  unfold drawOrder
  refine wpAny_bind (Yd1 (by simp) fun i hi => ?_)
  rw [List.getElem?_eq_getElem hi]
  dsimp only
  refine wpAny_bind (WX n _ _ _ (by rw [List.length_eraseIdx_of_lt hi]; omega) fun ys d hp => wpAny_pure ?_)
  exact h _ d ((List.Perm.cons _ hp).trans (WJ hi))
end
section
variable {prog : Program} {w : World} {A : Around} {E : Value -> Shared -> Prop} {s : Shared} {S : Addr}
structure SetIt (prog : Program) (w : World) (s : Shared) (S : Addr) (ks : List Str) (Gd : Value -> Prop) (I : Addr) (s' : Shared) : Prop where
 old : ∀ b o, s.heap.get? b = some o -> s'.heap.get? b = some o
 new : s.heap.objs.size <= I
 gens : s'.gens = s.gens
 os : s'.os = s.os
 toks : s'.toks = s.toks
 ty : s'.TypeIs (.ref I) "set_iterator"
 wk : ∀ A' : Around, A'.handled = none -> ∃ (fp : List Addr) (items : List Value) (St : Nat -> Heap -> Prop), Walks prog w A' I fp [I] ks.length (fun i v => items[i]? = some v) St /\ St 0 s'.heap /\ (∀ b ∈ fp, b < s'.heap.objs.size) /\ (∀ b ∈ fp, b = S \/ s.heap.objs.size <= b) /\
  items.length = ks.length /\ (∃ ys, StrsAre items ys /\ ys.Perm ks) /\ ∀ v ∈ items, Gd v
theorem ZR {es : Array (Int × Value)} {t : SetTable} {ks : List Str} {Gd : Value -> Prop} (T : TT1 prog w es t ks Gd) {items : List Value} (hp : items.Perm (es.toList.map (·.2))) : items.length = ks.length /\ (∃ ys, StrsAre items ys /\ ys.Perm ks) /\ ∀ v ∈ items, Gd v := by
 refine ⟨by rw [hp.length_eq, <- T.sz]; simp, ⟨items.map strOf, strsAre_map items fun v hv => ?_, ?_⟩, fun v hv => ?_⟩
 ·have := hp.mem_iff.mp hv
  obtain ⟨e, he, rfl⟩ := List.mem_map.mp this
  obtain ⟨⟨k, hk, _⟩, _⟩ := T.el e he
  obtain ⟨tk, e'⟩ := Value.isStrOf_shape hk
  exact ⟨k, tk, e'⟩
 ·refine (hp.map strOf).trans ?_
  rw [List.map_map]
  exact T.pm
 ·obtain ⟨e, he, rfl⟩ := List.mem_map.mp (hp.mem_iff.mp hv)
  exact T.gd e he
theorem VZ {es : Array (Int × Value)} : (List.range es.size).filterMap (fun j => (es[j]?).map (·.2)) = es.toList.map (·.2) := by
 have e : (fun j => (es[j]?).map (·.2)) = fun j : Nat => ((fun j => es[j]?) j).map (fun p : Int × Value => p.2) := rfl
 rw [e, <- List.map_filterMap, filterMap_getElem?_range]
theorem YfL {ks : List Str} {Gd : Value -> Prop} {Q : Value -> Shared -> Prop} (T : TS prog w s.heap S ks Gd) (hb : ks.length < scanBound) (h : ∀ I s', SetIt prog w s S ks Gd I s' -> Q (.ref I) s') : wpAny (model prog w) A (pyIter (.ref S)) Q E s := by
 have hT := T.typeIs
 obtain ⟨es, ep, t, ho, T⟩ := T
 have hlt : S < s.heap.objs.size := Heap.lt_size ho
 refine wpAny_pyIter_slot hT F.slot_set_iter (wpAny_call_entry F.slot_set_iter hT VY ?_ (F.args_set_iter_1 _))
 unfold Builtin.«frozenset.__iter__» Builtin.Frozenset.slot0 slotArgs
 simp only [List.isEmpty_nil, Bool.not_true, Bool.false_eq_true, ↓reduceIte, List.length_nil, bne_self_eq_false]
 unfold Builtin.Frozenset.addrOf Builtin.Frozenset.sizeOf
 refine wpAny_bind (wpAny_bind (wpAny_pure (wpAny_pure ?_)))
 refine wpAny_bind (wpAny_bind (wpAny_setEntries_of ho rfl T.fit (wpAny_pure ?_)))
 unfold setDrawn
 refine wpAny_bind (wpAny_bind (wpAny_setState_of ho rfl T.fit ?_))
 dsimp only
 unfold setsByText
 refine wpAny_bind (wpAny_bind (wpAny_askSetting (wpAny_pure (wpAny_pure ?_))))
 split
 ·rename_i z
  have z' : (!(byText w) && (!t.plain && decide (es.size > 1))) = true := z
  refine wpAny_bind (WX es.size _ _ _ (by simp) fun od d hp => ?_)
  have hz : od.length <= sizeLine := by
   have := hp.length_eq
   rw [List.length_range] at this
   rw [this, T.sz]
   exact fits_of_scanBound hb
  refine wpAny_bind (wpAny_newTuple ?_ (by simpa using hz))
  refine wpAny_bind (wpAny_setEpoch_of (Heap.get?_push_of_some _ ho) rfl T.fit ?_)
  refine wpAny_bind (wpAny_newObj_type (wpAny_pure ⟨_, rfl, "set_iterator", _, ⟨_, Heap.get?_push_size _ rfl, rfl⟩, slot_seti_next.lookup, h _ _ ?_⟩))
  refine ⟨fun b o e => Heap.get?_push_of_some _ (Heap.get?_push_of_some _ e), by rw [Heap.size_push]; exact Nat.le_succ _, rfl, rfl, rfl, ⟨_, Heap.get?_push_size _ rfl, rfl⟩, fun A' hh => ?_⟩
  have hne : S ≠ (s.heap.push { cls := .type "tuple", dict := none, data := .seq (od.map fun (i : Nat) => rawInt i).toArray }).objs.size := by
   rw [Heap.size_push]; exact Nat.ne_of_lt (Nat.lt_succ_of_lt hlt)
  have hnT : s.heap.objs.size ≠ (s.heap.push { cls := .type "tuple", dict := none, data := .seq (od.map fun (i : Nat) => rawInt i).toArray }).objs.size := by
   rw [Heap.size_push]; exact Nat.ne_of_lt (Nat.lt_succ_self _)
  have W := Yb0 (prog := prog) (w := w) (ep := ep) (n := 0) hh hne hnT T.fit hp
  rw [T.sz] at W
  refine ⟨_, _, _, W, ⟨?_, ?_, ?_⟩, ?_, ?_, ZR T ?_⟩
  ·refine (Heap.get?_push_size _ rfl).trans ?_
   simp [itObj, rawInt, T.sz]
  ·exact Heap.get?_push_of_some _ (Heap.get?_push_of_some _ ho)
  ·exact Heap.get?_push_of_some _ (Heap.get?_push_size _ rfl)
  ·intro b hb
   rw [Heap.size_push, Heap.size_push]
   simp only [List.mem_cons, List.not_mem_nil, or_false] at hb
   rcases hb with rfl | rfl | rfl
   ·rw [Heap.size_push]; exact Nat.lt_succ_self _
   ·exact Nat.lt_succ_of_lt (Nat.lt_succ_of_lt hlt)
   ·exact Nat.lt_succ_of_lt (Nat.lt_succ_self _)
  ·intro b hb
   simp only [List.mem_cons, List.not_mem_nil, or_false] at hb
   rcases hb with rfl | rfl | rfl
   ·rw [Heap.size_push]; exact .inr (Nat.le_succ _)
   ·exact .inl rfl
   ·exact .inr (Nat.le_refl _)
  ·rw [<- VZ]
   exact hp.filterMap _
 ·rename_i z
  refine wpAny_bind (wpAny_pure ?_)
  refine wpAny_bind (wpAny_setEpoch_of ho rfl T.fit ?_)
  refine wpAny_bind (wpAny_newObj_type (wpAny_pure ⟨_, rfl, "set_iterator", _, ⟨_, Heap.get?_push_size _ rfl, rfl⟩, slot_seti_next.lookup, h _ _ ?_⟩))
  refine ⟨fun b o e => Heap.get?_push_of_some _ e, Nat.le_refl _, rfl, rfl, rfl, ⟨_, Heap.get?_push_size _ rfl, rfl⟩, fun A' hh => ?_⟩
  have hne : S ≠ s.heap.objs.size := Nat.ne_of_lt hlt
  have small : ∀ b ∈ [s.heap.objs.size, S], b < (s.heap.push { cls := .type "set_iterator", dict := none, data := .fields [rawInt 0, rawInt 0, .ref S, rawInt es.size, rawInt ep].toArray }).objs.size := by
   intro b hb
   rw [Heap.size_push]
   simp only [List.mem_cons, List.not_mem_nil, or_false] at hb
   rcases hb with rfl | rfl
   ·exact Nat.lt_succ_self _
   ·exact Nat.lt_succ_of_lt hlt
  have apart : ∀ b ∈ [s.heap.objs.size, S], b = S \/ s.heap.objs.size <= b := by
   intro b hb
   simp only [List.mem_cons, List.not_mem_nil, or_false] at hb
   rcases hb with rfl | rfl
   ·exact .inr (Nat.le_refl _)
   ·exact .inl rfl
  cases hbt : byText w with
  | true =>
   have W := Yc9 (prog := prog) (es := es) (ep := ep) hh hbt hne T.fit
   simp only [<- Array.getElem?_toList, Array.toList_map] at W
   rw [T.sz] at W
   refine ⟨_, _, _, W, ⟨?_, Heap.get?_push_of_some _ ho⟩, small, apart, ZR T ?_⟩
   ·refine (Heap.get?_push_size _ rfl).trans ?_
    simp [itObj, rawInt, T.sz]
   ·exact (Vj _ es).map _
  | false =>
   have hl : t.led = true := by rw [T.led, hbt]; rfl
   have hz : es.size <= 1 := by
    rcases T.pl with h0 | h0
    ·omega
    ·have z' : ¬ (!(byText w) && (!t.plain && decide (es.size > 1))) = true := z
     rw [hbt, h0] at z'
     simp at z'
     omega
   have W := YdW (prog := prog) (es := es) (ep := ep) hh hbt hne T.fit hl hz
   simp only [<- Array.getElem?_toList, Array.toList_map] at W
   rw [T.sz] at W
   refine ⟨_, _, _, W, ⟨?_, Heap.get?_push_of_some _ ho⟩, small, apart, ZR T (.refl _)⟩
   refine (Heap.get?_push_size _ rfl).trans ?_
   simp [itObj, rawInt, T.sz]
end
section
variable {prog : Program} {w : World} {A : Around} {E : Value -> Shared -> Prop} {s : Shared} {S : Addr}
theorem Yfc {r : Addr} {Q : Bool -> Shared -> Prop} (hT : s.TypeIs (.ref r) "set") (h : Q false s) : wpAny (model prog w) A (Builtin.List.listLengthHint (.ref r)) Q E s := by
 unfold Builtin.List.listLengthHint
 refine wpAny_bind (wpAny_specialOf hT F.slot_set_len.lookup ?_)
 generalize hid : ("set.__len__" : String) = id0
 wp_delta
 rw [show splitId id0 = some ("set", "__len__") from by subst hid; decide +kernel]
 subst hid
 refine wpAny_bind (wpAny_isInstance (T := "set") (b := true) hT (by rw [isSubtype_type]; kernel_rfl) ?_)
 refine wpAny_ite_split (fun hab => absurd hab (by decide)) (fun _ => ?_)
 refine wpAny_ite_split (fun _ => ?_) (fun hab => absurd (by decide +kernel) hab)
 refine wpAny_bind (wpAny_typeOf hT ?_)
 exact wpAny_pure h
theorem YcR {items : List Value} {acc : Array Value} (h : ItemsOf (fun i v => items[i]? = some v) acc items.length) : acc.toList = items := by
 refine List.ext_getElem? fun i => ?_
 by_cases hi : i < acc.size
 ·have e : acc[i]? = some acc[i] := by simp [hi]
  rw [Array.getElem?_toList, e, h.2 i _ e]
 ·rw [Array.getElem?_toList, Array.getElem?_eq_none (by omega), List.getElem?_eq_none (by have := h.1; omega)]
theorem Yc2 {R : Result -> Shared -> Prop} {ks : List Str} {Gd : Value -> Prop} (T : TS prog w s.heap S ks Gd) (hb : ks.length < scanBound) (hh : A.handled = none) (L : Addr) (hLS : L ≠ S) (res : Value)
 (hL : s.heap.get? L = some { cls := .type "list", data := .seq #[] })
 (hR : ∀ (s' : Shared) (acc : Array Value) (c : Nat) (ys : List Str), (∀ b o, b ≠ L -> s.heap.get? b = some o -> s'.heap.get? b = some o) -> s'.gens = s.gens -> s'.os = s.os ->
  s'.heap.get? L = some { cls := .type "list", dict := none, data := .seq acc c, slots := #[] } -> StrsAre acc.toList ys -> ys.Perm ks -> (∀ v ∈ acc.toList, Gd v) -> R (.ok (.ret res)) s') :
 wpAny (model prog w) A.in1 (Builtin.List.listExtendWith (.ref L) (.ref S) res)
  (fun fin s' => match fin with | .done f => R (.ok f) s' | .again c' => c'.quiet = true /\ codeAny (model prog w) A c' R s') (fun e s' => R (.error e) s') s := by
 have hT := T.typeIs
 unfold Builtin.List.listExtendWith
 refine wpAny_bind (wpAny_typeOf (T := "set") hT ?_)
 have h1 : Builtin.List.listSameRef (.ref L) (.ref S) = false := by simp [Builtin.List.listSameRef, hLS]
 have h2 : (Value.type "set" == Value.type "list") = false := by decide
 have h3 : (Value.type "set" == Value.type "tuple") = false := by decide
 simp only [h1, h2, h3, Bool.or_false, Bool.false_eq_true, if_false]
 refine wpAny_bind (YfL T hb fun I s1 X => ?_)
 obtain ⟨fp, items, St, W, st, small, apart, hlen, ⟨ys, hys, hp⟩, hgd⟩ := X.wk A.in1 hh
 have hLf : L ∉ fp := fun z => by
  rcases apart L z with e | e
  ·exact hLS e
  ·exact absurd (Heap.lt_size hL) (Nat.not_lt.mpr e)
 have hn : ks.length <= sizeLine := fits_of_scanBound hb
 have hL1 := X.old _ _ hL
 have hLI : L ≠ I := fun z => absurd (Heap.lt_size hL) (Nat.not_lt.mpr (by rw [z]; exact X.new))
 have key : ∀ (h : Heap) (c₁ : Nat), St 0 h -> (∀ b o, b ≠ L -> s.heap.get? b = some o -> h.get? b = some o) -> h.get? L = some { cls := .type "list", data := .seq #[] c₁ } ->
  codeAny (model prog w) A (.builtin "list.extend.loop" ⟨[.ref L, .ref I, res], []⟩) R { s1 with heap := h } := by
  intro h c₁ hst hk hS₁
  refine codeAny_extend_loopS W.toS hn L hLf res ks.length 0 _ #[] c₁ rfl (Nat.zero_le _) hst hS₁ (ItemsOf.nil _) fun s' acc' c' hm hS' hacc => ?_
  rw [<- hlen] at hacc
  have e := YcR hacc
  refine hR s' acc' c' ys (fun b o hb' e' => ?_) ?_ ?_ hS' (by rw [e]; exact hys) hp (by rw [e]; exact hgd)
  ·refine hm.heap b o (fun hmem => ?_) (hk b o hb' e')
   rcases List.mem_cons.mp hmem with e'' | hmem
   ·exact hb' e''
   ·rw [List.mem_singleton.mp hmem] at e'
    exact absurd (Heap.lt_size e') (Nat.not_lt.mpr X.new)
  ·have := hm.gens; exact this.trans X.gens
  ·exact hm.os.trans X.os
 refine wpAny_bind (wpAny_holding (Yfc (T.keep (X.old S)).typeIs ?_))
 refine wpAny_ite_split (fun _ => ?_) (fun _ => wpAny_pure ⟨plainId_quiet PySem.F.plain_extend_loop _, key s1.heap 0 st (fun b o _ e => X.old b o e) hL1⟩)
 refine wpAny_bind (wpAny_rule ?_)
 refine wpAny_bind ?_
 show wpAny _ _ (updateSeq L (·.push .none) >>= fun _ => updateSeq L (·.pop)) _ _ _
 refine wpAny_bind (wpAny_updateSeq hL1 rfl ?_)
 have hS₂ := Heap.get?_update_self (Obj.mapSeq (·.push Value.none)) hL1 rfl
 refine wpAny_updateSeq (hz := by seq_fits) hS₂ rfl ?_
 have hS₃ := Heap.get?_update_self (Obj.mapSeq (·.pop)) hS₂ rfl
 refine wpAny_pure ⟨plainId_quiet PySem.F.plain_extend_loop _, key _ _ ?_ (fun b o hb e => ?_) hS₃⟩
 ·refine W.frame 0 _ _ st fun b hb o e => ?_
  have hbS : b ≠ L := fun h => hLf (h ▸ hb)
  exact (Heap.get?_update_other _ _ (Ne.symm hbS)).trans ((Heap.get?_update_other _ _ (Ne.symm hbS)).trans e)
 ·exact (Heap.get?_update_other _ _ (Ne.symm hb)).trans ((Heap.get?_update_other _ _ (Ne.symm hb)).trans (X.old b o e))
theorem Yca {R : List Value -> Shared -> Prop} {ks : List Str} {Gd : Value -> Prop} (T : TS prog w s.heap S ks Gd) (hb : ks.length < scanBound) (hh : A.handled = none)
 (h : ∀ (s' : Shared) (acc : List Value) (ys : List Str), (∀ b o, s.heap.get? b = some o -> s'.heap.get? b = some o) -> s'.gens = s.gens -> s'.os = s.os -> s.heap.objs.size < s'.heap.objs.size -> StrsAre acc ys -> ys.Perm ks -> (∀ v ∈ acc, Gd v) -> R acc s') :
 wpAny (model prog w) A (collect (.ref S)) R E s := by
 have hlt : S < s.heap.objs.size := let ⟨_, _, _, ho, _⟩ := T; Heap.lt_size ho
 unfold collect
 refine wpAny_bind (wpAny_runValue (codeAny_builtin entry_proto_collect' ?_))
 rw [Around.under_plainId PySem.F.plain_proto_collect _]
 show wpAny _ A.in1 (newList [] >>= fun l => again (.builtin "list.__iadd__" ⟨[l, .ref S], []⟩)) _ _ s
 refine wpAny_bind (wpAny_newObj_type ?_)
 refine wpAny_pure ⟨plainId_quiet PySem.F.plain_list_iadd _, codeAny_builtin entry_list_iadd' ?_⟩
 rw [Around.under_plainId PySem.F.plain_list_iadd _]
 have hS₁ : (s.heap.push { cls := .type "list", data := .seq ([] : List Value).toArray }).get? s.heap.objs.size = some { cls := .type "list", data := .seq #[] } := Heap.get?_push_size _ rfl
 show wpAny _ A.in1 (Builtin.List.listExtendWith (.ref s.heap.objs.size) (.ref S) (.ref s.heap.objs.size)) _ _ _
 have key := Yc2 (A := A) (s := { s with heap := s.heap.push { cls := .type "list", data := .seq ([] : List Value).toArray } })
  (R := fun (q : Result) (s' : Shared) => ∃ (acc : Array Value) (c : Nat) (ys : List Str), q = .ok (.ret (.ref s.heap.objs.size)) /\
   (∀ b o, s.heap.get? b = some o -> s'.heap.get? b = some o) /\ s'.gens = s.gens /\ s'.os = s.os /\ s'.heap.get? s.heap.objs.size = some { cls := .type "list", dict := none, data := .seq acc c, slots := #[] } /\ StrsAre acc.toList ys /\ ys.Perm ks /\ ∀ v ∈ acc.toList, Gd v)
  (T.keep fun o e => Heap.get?_push_of_some _ e) hb hh s.heap.objs.size (Nat.ne_of_gt hlt) (.ref s.heap.objs.size) hS₁
  (fun s' acc c ys hk hg ho hS' hacc hp hgd => ⟨acc, c, ys, rfl, fun b o e => hk b o (Nat.ne_of_lt (Heap.lt_size e)) (Heap.get?_push_of_some _ e), hg, ho, hS', hacc, hp, hgd⟩)
 refine wpAny_mono key (fun fin s' x => ?_) fun e s' x => ?_
 ·cases fin with
  | done f =>
   obtain ⟨acc, c, ys, e, hk, hg, ho, hS', hacc, hp, hgd⟩ := x
   cases e
   show wpAny _ A (load s.heap.objs.size >>= _) _ _ _
   refine wpAny_bind (wpAny_load hS' ?_)
   exact wpAny_pure (h s' acc.toList ys hk hg ho (Heap.lt_size hS') hacc hp hgd)
  | again c₁ =>
   refine ⟨x.1, codeAny_mono x.2 fun q s₂ y => ?_⟩
   obtain ⟨acc, c, ys, rfl, hk, hg, ho, hS', hacc, hp, hgd⟩ := y
   show wpAny _ A (load s.heap.objs.size >>= _) _ _ _
   refine wpAny_bind (wpAny_load hS' ?_)
   exact wpAny_pure (h s₂ acc.toList ys hk hg ho (Heap.lt_size hS') hacc hp hgd)
 ·obtain ⟨_, _, _, e', _⟩ := x
  cases e'
theorem VW {ks : List Str} {Gd : Value -> Prop} {Q : Value -> Shared -> Prop} (T : TS prog w s.heap S ks Gd) (hb : ks.length < 64) (hh : A.handled = none)
 (h : ∀ (D : Addr) (s' : Shared) (out : List Value) (ss : List Str) (n : Nat), s.heap.objs.size <= D -> (∀ b o, s.heap.get? b = some o -> s'.heap.get? b = some o) -> s'.gens = s.gens -> s'.os = s.os ->
  s'.heap.get? D = some { cls := .type "list", data := .seq out.toArray n } -> StrsAre out ss -> ss.Perm ks -> sortedS ss = true -> (∀ v ∈ out, Gd v) -> Q (.ref D) s') :
 wpAny (model prog w) A (call (.builtin "sorted") [.ref S]) Q E s := by
 refine Calls.call_function_entry kind_sorted plain_sorted entry_sorted (args_sorted1 _) ?_
 unfold Builtin.«sorted»
 refine wpAny_bind (m := checkCount "sorted" 1 1 _) (wpAny_pure ?_)
 refine wpAny_bind (Yca (A := A.in1) T (Nat.lt_trans hb (by decide)) hh fun s1 acc ys hk hg ho hsz0 hacc hp hgd => ?_)
 have hl : acc.length = ks.length := by have := StrsAre.length hacc; rw [this, hp.length_eq]
 refine wpAny_bind (wpAny_newList ?_ (by rw [hl]; exact Nat.le_trans (Nat.le_of_lt hb) (by rw [sizeLine_eq]; decide)))
 have hoL : (s1.heap.push (seqObj "list" acc.toArray 0)).get? s1.heap.objs.size = some (seqObj "list" acc.toArray 0) := Heap.get?_push_size _ rfl
 refine wpAny_bind (wpAny_holding (wpAny_call_entry (s := { s1 with heap := s1.heap.push (seqObj "list" acc.toArray 0) }) slot_list_sort ⟨_, hoL, rfl⟩ entry_list_sort
  (list_sort_treeK strKind_oneLt hoL hacc.keysOf (fun v₁ v₂ rest e => keyKind_strs (by rw [<- e]; exact hacc)) (by rw [hl]; exact hb) fun st' a1 a2 => ⟨_, rfl, ?_⟩) (args_list_sort _)))
 obtain ⟨ss, g1, g2, g3⟩ := sorted_out_str hacc a1 a2
 have hsz : s.heap.objs.size <= s1.heap.objs.size := Nat.le_of_lt hsz0
 obtain ⟨n, hD⟩ : ∃ n, (sortedHeap (s1.heap.push (seqObj "list" acc.toArray 0)) s1.heap.objs.size acc ((arrOf st').map (·.2))).get? s1.heap.objs.size = some (seqObj "list" ((arrOf st').map (·.2)) n) := by
  have g0 := Heap.get?_push_of_some (seqObj "list" #[] 0) (Heap.get?_push_of_some (seqObj "tuple" acc.toArray 0) (get?_update_seq hoL fun _ => #[]))
  exact ⟨_, get?_update_seq g0 _⟩
 have hOld : ∀ b o, s.heap.get? b = some o -> (sortedHeap (s1.heap.push (seqObj "list" acc.toArray 0)) s1.heap.objs.size acc ((arrOf st').map (·.2))).get? b = some o := fun b o e => by
  have hb' : b ≠ s1.heap.objs.size := Nat.ne_of_lt (Heap.lt_size (hk b o e))
  unfold sortedHeap
  rw [Heap.get?_update_other _ _ (Ne.symm hb')]
  refine Heap.get?_push_of_some _ (Heap.get?_push_of_some _ ?_)
  rw [Heap.get?_update_other _ _ (Ne.symm hb')]
  exact Heap.get?_push_of_some _ (hk b o e)
 generalize sortedHeap (s1.heap.push (seqObj "list" acc.toArray 0)) s1.heap.objs.size acc ((arrOf st').map (·.2)) = hp' at hD hOld ⊢
 have hD' : hp'.get? s1.heap.objs.size = some { cls := .type "list", data := .seq ((arrOf st').map (·.2)).toList.toArray n } := by rw [Array.toArray_toList]; exact hD
 refine wpAny_pure ⟨_, rfl, h s1.heap.objs.size _ ((arrOf st').map (·.2)).toList ss n hsz hOld hg ho hD' g1 (g2.trans hp) g3 fun v hv => ?_⟩
 rw [Array.toList_map] at hv
 obtain ⟨p, hp', rfl⟩ := List.mem_map.mp hv
 have hl2 : (arrOf st').toList.Perm (acc.zip acc) := by rw [<- pairsOf_toList]; exact Array.perm_iff_toList_perm.mp a1
 have h2 := mem_zip_self (hl2.mem_iff.mp hp')
 rw [<- h2.1]
 exact hgd _ h2.2
end
def leS (a b : Str) : Bool := !strLt b a
def sortS (ks : List Str) : List Str := ks.mergeSort leS
theorem Ya5 {a b : Str} (h : a.cps.toList = b.cps.toList) : a = b := by
 cases a with | mk a => cases b with | mk b => exact congrArg Str.mk (Array.toList_inj.mp h)
theorem V2 {a b : Str} : leS a b = true ↔ a.cps.toList <= b.cps.toList := by
 unfold leS strLt
 simp [List.not_lt]
theorem YaN (a b c : Str) (h1 : leS a b = true) (h2 : leS b c = true) : leS a c = true := by
 rw [V2] at *
 exact List.le_trans h1 h2
theorem Yeg (a b : Str) : (leS a b || leS b a) = true := by
 rw [Bool.or_eq_true, V2, V2]
 exact List.le_total _ _
theorem YfE {a b : Str} (h1 : leS a b = true) (h2 : leS b a = true) : a = b := by
 rw [V2] at *
 exact Ya5 (List.le_antisymm h1 h2)
theorem YcD (ks : List Str) : (sortS ks).Perm ks := List.mergeSort_perm ks leS
theorem JU (ks : List Str) : (sortS ks).Pairwise fun a b => leS a b = true := List.pairwise_mergeSort YaN Yeg ks
theorem W9 {ss ks : List Str} (hp : ss.Perm ks) (h : ss.Pairwise fun a b => leS a b = true) : ss = sortS ks :=
 List.Perm.eq_of_pairwise (fun a b _ _ h1 h2 => YfE h1 h2) h (JU ks) (hp.trans (YcD ks).symm)
theorem ZD : ∀ (p : Str) (l : List Str), risingS p l = true -> (p :: l).Pairwise fun a b => leS a b = true
 | p, [], _ => List.pairwise_singleton ..
 | p, x :: r, h => by
  unfold risingS at h
  rw [Bool.and_eq_true] at h
  have ih := ZD x r h.2
  have h1 : leS p x = true := by
   have := h.1
   rw [ltCps_eq] at this
   exact this
  refine List.Pairwise.cons (fun y hy => ?_) ih
  rcases List.mem_cons.mp hy with rfl | hy
  ·exact h1
  ·exact YaN _ _ _ h1 (List.rel_of_pairwise_cons ih hy)
theorem Vk : ∀ (l : List Str), sortedS l = true -> l.Pairwise fun a b => leS a b = true
 | [], _ => .nil
 | x :: r, h => ZD x r h
section
variable {X : Cx} {e : Expr} {me : ME} {p1 p2 c1 c2 : Pos}
end
end Mi
namespace Mi
open PySem PySem.Spec L2 PySem.SeqAt
open PyProof.Rows hiding St
def noD : Nat -> PyData -> Bool
 | _, .none => true
 | _, .bool _ => true
 | _, .int _ => true
 | _, .str _ => true
 | n + 1, .list xs => xs.all (noD n)
 | n + 1, .tuple xs => xs.all (noD n)
 | _, _ => false
theorem Y5 {h : Heap} : ∀ {vs : List Value} {xs : List PyData} {as : List Addr}, ReadsAll h vs xs as -> ∀ j (h1 : j < vs.length), ∃ (h2 : j < xs.length) (bs : List Addr), Reads h vs[j] xs[j] bs
 | _, _, _, .nil, j, h1 => absurd h1 (Nat.not_lt_zero _)
 | _, _, _, .cons r _, 0, _ => ⟨Nat.succ_pos _, _, r⟩
 | _, _, _, .cons _ rs, j + 1, h1 => by
  obtain ⟨h2, bs, q⟩ := Y5 rs j (Nat.lt_of_succ_lt_succ h1)
  exact ⟨Nat.succ_lt_succ h2, bs, q⟩
theorem YB {h : Heap} : ∀ {vs : List Value} {xs : List PyData} {as : List Addr}, ReadsAll h vs xs as -> vs.length = xs.length
 | _, _, _, .nil => rfl
 | _, _, _, .cons _ rs => congrArg Nat.succ (YB rs)
theorem Yd9 {h : Heap} : ∀ (n : Nat) {v : Value} {d e : PyData} {as bs : List Addr}, noD n d = true -> Reads h v d as -> Reads h v e bs -> d = e := by
 intro n
 induction n with
 | zero =>
  intro v d e as bs hd r q
  cases r <;> first | (cases q; rfl) | exact absurd hd (by simp [noD])
 | succ n ih =>
  have all : ∀ {vs : List Value} {xs ys : List PyData} {as bs : List Addr}, xs.all (noD n) = true -> ReadsAll h vs xs as -> ReadsAll h vs ys bs -> xs = ys := by
   intro vs xs ys as bs ha rx ry
   have l1 := YB rx
   have l2 := YB ry
   refine List.ext_getElem (l1.symm.trans l2) fun j j1 j2 => ?_
   obtain ⟨_, _, a⟩ := Y5 rx j (by omega)
   obtain ⟨_, _, b⟩ := Y5 ry j (by omega)
   exact ih (List.all_eq_true.mp ha _ (List.getElem_mem j1)) a b
  intro v d e as bs hd r q
  cases r with
  | none => cases q; rfl
  | bool b => cases q; rfl
  | int i t => cases q; rfl
  | str x t => cases q; rfl
  | list h1 h2 h3 h4 =>
   cases q with
   | list k1 k2 k3 k4 => rw [h1] at k1; cases k1; rw [h3] at k3; cases k3; rw [all hd h4 k4]
   | tuple k1 k2 k3 k4 => rw [h1] at k1; cases k1; rw [h2] at k2; exact absurd k2 (by decide)
   | dict k1 k2 k3 k4 k5 => rw [h1] at k1; cases k1; rw [h2] at k2; exact absurd k2 (by decide)
  | tuple h1 h2 h3 h4 =>
   cases q with
   | tuple k1 k2 k3 k4 => rw [h1] at k1; cases k1; rw [h3] at k3; cases k3; rw [all hd h4 k4]
   | list k1 k2 k3 k4 => rw [h1] at k1; cases k1; rw [h2] at k2; exact absurd k2 (by decide)
   | dict k1 k2 k3 k4 k5 => rw [h1] at k1; cases k1; rw [h2] at k2; exact absurd k2 (by decide)
  | dict => exact absurd hd (by simp [noD])
theorem Jr {xs : List PyData} (h : ∀ x ∈ xs, PyData.eqv x x = true) : PyData.eqvAll xs xs = true := by
 induction xs with
 | nil => rfl
 | cons x r ih => rw [PyData.eqvAll, h x (List.mem_cons_self ..), ih fun y hy => h y (List.mem_cons_of_mem _ hy)]; rfl
theorem Ygd : ∀ (n : Nat) {d : PyData}, noD n d = true -> PyData.eqv d d = true := by
 intro n
 induction n with
 | zero => intro d hd; cases d <;> first | (simp [PyData.eqv]; done) | exact absurd hd (by simp [noD])
 | succ n ih =>
  intro d hd
  cases d with
  | list xs => rw [PyData.eqv]; exact Jr fun x hx => ih (List.all_eq_true.mp hd x hx)
  | tuple xs => rw [PyData.eqv]; exact Jr fun x hx => ih (List.all_eq_true.mp hd x hx)
  | dict _ => exact absurd hd (by simp [noD])
  | _ => simp [PyData.eqv]
inductive Sh (h : Heap) : Value -> PyData -> Prop where
 | none : Sh h .none .none
 | bool (b) : Sh h (.bool b) (.bool b)
 | int (i t) : Sh h (.int i t) (.int i)
 | str (x t) : Sh h (.str x t) (.str x)
 | list {a its xs as} : h.IsList a its -> ReadsAll h its.toList xs as -> Sh h (.ref a) (.list xs)
 | tup {a its xs as} : h.IsTuple a its -> ReadsAll h its.toList xs as -> Sh h (.ref a) (.tuple xs)
theorem Ydp {h : Heap} {n : Nat} {v : Value} {d : PyData} {as : List Addr} (r : Reads h v d as) (hd : noD n d = true) : Sh h v d := by
 cases r with
 | none => exact .none
 | bool b => exact .bool b
 | int i t => exact .int i t
 | str x t => exact .str x t
 | list h1 h2 h3 h4 => exact .list ⟨_, h1, h2, _, h3⟩ h4
 | tuple h1 h2 h3 h4 => exact .tup ⟨_, h1, h2, _, h3⟩ h4
 | dict => cases n <;> exact absurd hd (by simp [noD])
theorem Yce {A : Around} {s : Shared} {v u : Value} {d e : PyData} (hu : A.units < cLine) (a : Sh s.heap v d) (b : Sh s.heap u e)
 (sub : ∀ {its its' : Array Value} {xs ys : List PyData} {as bs : List Addr}, (d = .list xs /\ e = .list ys) \/ (d = .tuple xs /\ e = .tuple ys) -> ReadsAll s.heap its.toList xs as -> ReadsAll s.heap its'.toList ys bs ->
  ∀ j (h1 : j < its.size) (h2 : j < its'.size), EqAt A.in1 s its[j] its'[j] (pairEq xs ys j)) : RcAt A s v u (PyData.eqv d e) /\ RcNeAt A s v u (!PyData.eqv d e) := by
 cases a with
 | none =>
  cases b with
  | none => exact ⟨.none_none, .none_none⟩
  | bool y => exact ⟨.none_bool y, .none_bool y⟩
  | int y t => exact ⟨.none_int y t, .none_int y t⟩
  | str y t => exact ⟨.none_str y t, .none_str y t⟩
  | list k _ => exact ⟨.none_list k hu, .none_list k hu⟩
  | tup k _ => exact ⟨.none_tuple k hu, .none_tuple k hu⟩
 | bool x =>
  cases b with
  | none => exact ⟨.bool_none x, .bool_none x⟩
  | bool y => exact ⟨.bool_bool x y, .bool_bool x y⟩
  | int y t => exact ⟨.bool_int x y t, .bool_int x y t⟩
  | str y t => exact ⟨.bool_str x y t, .bool_str x y t⟩
  | list k _ => exact ⟨.bool_list x k hu, .bool_list x k hu⟩
  | tup k _ => exact ⟨.bool_tuple x k hu, .bool_tuple x k hu⟩
 | int x t =>
  cases b with
  | none => exact ⟨.int_none x t, .int_none x t⟩
  | bool y => exact ⟨.int_bool x t y, .int_bool x t y⟩
  | int y t' => exact ⟨.int_int x t y t', .int_int x t y t'⟩
  | str y t' => exact ⟨.int_str x t y t', .int_str x t y t'⟩
  | list k _ => exact ⟨.int_list x t k hu, .int_list x t k hu⟩
  | tup k _ => exact ⟨.int_tuple x t k hu, .int_tuple x t k hu⟩
 | str x t =>
  cases b with
  | none => exact ⟨.str_none x t, .str_none x t⟩
  | bool y => exact ⟨.str_bool x t y, .str_bool x t y⟩
  | int y t' => exact ⟨.str_int x t y t', .str_int x t y t'⟩
  | str y t' => exact ⟨.str_str x t y t', .str_str x t y t'⟩
  | list k _ => exact ⟨.str_list x t k hu, .str_list x t k hu⟩
  | tup k _ => exact ⟨.str_tuple x t k hu, .str_tuple x t k hu⟩
 | @list l its xs as h1 h2 =>
  cases b with
  | none => exact ⟨.list_none h1 hu, .list_none h1 hu⟩
  | bool y => exact ⟨.list_bool y h1 hu, .list_bool y h1 hu⟩
  | int y t' => exact ⟨.list_int y t' h1 hu, .list_int y t' h1 hu⟩
  | str y t' => exact ⟨.list_str y t' h1 hu, .list_str y t' h1 hu⟩
  | tup k _ => exact ⟨.list_tuple h1 k hu, .list_tuple h1 k hu⟩
  | @list l' its' ys bs k1 k2 =>
   have n1 : its.size = xs.length := by simpa using YB h2
   have n2 : its'.size = ys.length := by simpa using YB k2
   have he := sub (.inl ⟨rfl, rfl⟩) h2 k2
   rw [PyData.eqv]
   by_cases hz : its.size = its'.size
   ·rw [<- eqvAll_same_length (by omega : xs.length = ys.length), <- n1]
    exact ⟨.lists h1 k1 hz hu he, .lists h1 k1 hz hu he⟩
   ·rw [eqvAll_other_length (by omega : xs.length ≠ ys.length)]
    exact ⟨.lists_lengths h1 k1 (by simpa using hz) hu, .lists_lengths h1 k1 (by simpa using hz) hu⟩
 | @tup l its xs as h1 h2 =>
  cases b with
  | none => exact ⟨.tuple_none h1 hu, .tuple_none h1 hu⟩
  | bool y => exact ⟨.tuple_bool y h1 hu, .tuple_bool y h1 hu⟩
  | int y t' => exact ⟨.tuple_int y t' h1 hu, .tuple_int y t' h1 hu⟩
  | str y t' => exact ⟨.tuple_str y t' h1 hu, .tuple_str y t' h1 hu⟩
  | list k _ => exact ⟨.tuple_list h1 k hu, .tuple_list h1 k hu⟩
  | @tup l' its' ys bs k1 k2 =>
   have n1 : its.size = xs.length := by simpa using YB h2
   have n2 : its'.size = ys.length := by simpa using YB k2
   have he := sub (.inr ⟨rfl, rfl⟩) h2 k2
   rw [PyData.eqv, <- eqvAll_eq xs ys, <- n1, <- n2]
   exact ⟨.tuples h1 k1 hu he, .tuples h1 k1 hu he⟩
theorem Ydk {A : Around} {s : Shared} {v u : Value} {d e : PyData} (hu : A.units < cLine) (a : Sh s.heap v d) (b : Sh s.heap u e) (hs : ∀ x y, v = .ref x -> u = .ref y -> EqAt A s v u (PyData.eqv d e)) : EqAt A s v u (PyData.eqv d e) := by
 cases a with
 | none =>
  cases b with
  | none => exact .same _
  | bool y => exact .none_bool y
  | int y t => exact .none_int y t
  | str y t => exact .none_str y t
  | list k _ => exact .none_list k hu
  | tup k _ => exact .none_tuple k hu
 | bool x =>
  cases b with
  | none => exact .bool_none x
  | bool y => exact .bool_bool x y
  | int y t => exact .bool_int x y t
  | str y t => exact .bool_str x y t
  | list k _ => exact .bool_list x k hu
  | tup k _ => exact .bool_tuple x k hu
 | int x t =>
  cases b with
  | none => exact .int_none x t
  | bool y => exact .int_bool x t y
  | int y t' => exact .int_int x t y t'
  | str y t' => exact .int_str x t y t'
  | list k _ => exact .int_list x t k hu
  | tup k _ => exact .int_tuple x t k hu
 | str x t =>
  cases b with
  | none => exact .str_none x t
  | bool y => exact .str_bool x t y
  | int y t' => exact .str_int x t y t'
  | str y t' => exact .str_str x t y t'
  | list k _ => exact .str_list x t k hu
  | tup k _ => exact .str_tuple x t k hu
 | list h1 _ =>
  cases b with
  | none => exact .list_none h1 hu
  | bool y => exact .list_bool y h1 hu
  | int y t' => exact .list_int y t' h1 hu
  | str y t' => exact .list_str y t' h1 hu
  | list _ _ => exact hs _ _ rfl rfl
  | tup _ _ => exact hs _ _ rfl rfl
 | tup h1 _ =>
  cases b with
  | none => exact .tuple_none h1 hu
  | bool y => exact .tuple_bool y h1 hu
  | int y t' => exact .tuple_int y t' h1 hu
  | str y t' => exact .tuple_str y t' h1 hu
  | list _ _ => exact hs _ _ rfl rfl
  | tup _ _ => exact hs _ _ rfl rfl
theorem Ydv : ∀ (n : Nat) {d e : PyData} {A : Around} {s : Shared} {v u : Value} {as bs : List Addr}, Reads s.heap v d as -> Reads s.heap u e bs -> noD n d = true -> noD n e = true -> A.units + n < cLine ->
 EqAt A s v u (PyData.eqv d e) /\ RcAt A s v u (PyData.eqv d e) /\ RcNeAt A s v u (!PyData.eqv d e) := by
 intro n
 induction n with
 | zero =>
  intro d e A s v u as bs r q hd he hu
  have a := Ydp r hd
  have b := Ydp q he
  have rc := Yce (A := A) (by omega) a b fun {its its' xs ys as bs} h => by rcases h with ⟨rfl, _⟩ | ⟨rfl, _⟩ <;> exact absurd hd (by simp [noD])
  exact ⟨Ydk (by omega) a b fun x y e1 e2 => by subst e1; cases a <;> exact absurd hd (by simp [noD]), rc.1, rc.2⟩
 | succ n ih =>
  intro d e A s v u as bs r q hd he hu
  have a := Ydp r hd
  have b := Ydp q he
  have rc := Yce (A := A) (by omega) a b fun {its its' xs ys as bs} h rx ry j h1 h2 => by
   obtain ⟨l1, as', ra⟩ := Y5 rx j (by simpa using h1)
   obtain ⟨l2, bs', rb⟩ := Y5 ry j (by simpa using h2)
   have hx : noD n xs[j] = true := by
    rcases h with ⟨rfl, _⟩ | ⟨rfl, _⟩ <;> exact List.all_eq_true.mp hd _ (List.getElem_mem l1)
   have hy : noD n ys[j] = true := by
    rcases h with ⟨_, rfl⟩ | ⟨_, rfl⟩ <;> exact List.all_eq_true.mp he _ (List.getElem_mem l2)
   have := (ih (A := A.in1) ra rb hx hy (by show A.units + 1 + n < cLine; omega)).1
   unfold pairEq
   rw [List.getD_eq_getElem?_getD, List.getD_eq_getElem?_getD, List.getElem?_eq_getElem l1, List.getElem?_eq_getElem l2]
   simpa using this
  refine ⟨Ydk (by omega) a b fun x y e1 e2 => ?_, rc.1, rc.2⟩
  subst e1; subst e2
  by_cases hxy : x = y
  ·subst hxy
   have := Yd9 (n + 1) hd r q
   subst this
   rw [Ygd (n + 1) hd]
   exact .same _
  ·exact .of_refs hxy rc.1
def snap : Nat -> Stor -> P -> Option PyData
 | _, _, .non => some .none
 | _, _, .bl b => some (.bool b)
 | _, _, .int i => some (.int i)
 | _, _, .str x => some (.str x)
 | n + 1, st, .tup xs => (xs.mapM (snap n st)).map .tuple
 | n + 1, st, .ref k => match listAt st k with
  | some xs => (xs.mapM (snap n st)).map .list
  | none => none
 | 0, _, .tup _ => none
 | 0, _, .ref _ => none
theorem Z4 {α β : Type} {f : α -> Option β} {x : α} {xs : List α} {ys : List β} (h : (x :: xs).mapM f = some ys) : ∃ y r, f x = some y /\ xs.mapM f = some r /\ ys = y :: r := by
 rw [List.mapM_cons] at h
 cases q : f x with
 | none => rw [q] at h; cases h
 | some y =>
  rw [q] at h
  cases q2 : xs.mapM f with
  | none => rw [q2] at h; cases h
  | some r => rw [q2] at h; cases h; exact ⟨y, r, rfl, rfl, rfl⟩
theorem Jt {α β : Type} {f : α -> Option β} {p : β -> Bool} (hf : ∀ x y, f x = some y -> p y = true) : ∀ {xs : List α} {ys : List β}, xs.mapM f = some ys -> ys.all p = true
 | [], ys, h => by rw [List.mapM_nil] at h; cases h; rfl
 | x :: xs, ys, h => by
  obtain ⟨y, r, h1, h2, rfl⟩ := Z4 h
  rw [List.all_cons, hf x y h1, Jt hf h2]
  rfl
theorem W2 {st : Stor} : ∀ {n : Nat} {p : P} {d : PyData}, snap n st p = some d -> noD n d = true := by
 intro n
 induction n with
 | zero => intro p d h; cases p <;> first | (unfold snap at h; cases h; rfl) | (unfold snap at h; cases h)
 | succ n ih =>
  intro p d h
  cases p with
  | tup xs =>
   unfold snap at h
   cases q : xs.mapM (snap n st) with
   | none => rw [q] at h; cases h
   | some ds => rw [q] at h; cases h; exact Jt (fun x y e => ih e) q
  | ref k =>
   unfold snap at h
   cases q0 : listAt st k with
   | none => rw [q0] at h; cases h
   | some xs =>
    rw [q0] at h
    dsimp only at h
    cases q : xs.mapM (snap n st) with
    | none => rw [q] at h; cases h
    | some ds => rw [q] at h; cases h; exact Jt (fun x y e => ih e) q
  | _ => unfold snap at h; cases h; rfl
section
variable {X : Cx} {pins : List (Addr × Obj)} {σ : St} {H : Hp} {s : Shared} {as : List Addr} {st : Stor}
theorem ZL (I : Inv X pins σ H s) (rp : Rep X.K as st H) : ∀ {n : Nat} {p : P} {d : PyData} {x : V} {v : Value}, snap n st p = some d -> Den X.K as H x p -> RelV x v -> ∃ bs, Reads s.heap v d bs := by
 have all : ∀ {n : Nat}, (∀ {p : P} {d : PyData} {x : V} {v : Value}, snap n st p = some d -> Den X.K as H x p -> RelV x v -> ∃ bs, Reads s.heap v d bs) ->
  ∀ {ps : List P} {ds : List PyData} {xs : List V} {vs : List Value}, ps.mapM (snap n st) = some ds -> Dens X.K as H xs ps -> Vals xs vs -> ∃ bs, ReadsAll s.heap vs ds bs := by
  intro n one ps
  induction ps with
  | nil => intro ds xs vs h d r; rw [List.mapM_nil] at h; cases h; cases d; cases r; exact ⟨_, .nil⟩
  | cons p ps ih =>
   intro ds xs vs h d r
   obtain ⟨y, rs, h1, h2, rfl⟩ := Z4 h
   cases d with
   | cons d1 d2 =>
    cases r with
    | cons r1 r2 =>
     obtain ⟨b1, q1⟩ := one h1 d1 r1
     obtain ⟨b2, q2⟩ := ih h2 d2 r2
     exact ⟨_, .cons q1 q2⟩
 intro n
 induction n with
 | zero =>
  intro p d x v h den r
  cases den with
  | non => unfold snap at h; cases h; cases r; exact ⟨_, .none⟩
  | bl => unfold snap at h; cases h; cases r; exact ⟨_, .bool _⟩
  | int => unfold snap at h; cases h; obtain ⟨t, rfl⟩ := r; exact ⟨_, .int _ t⟩
  | str => unfold snap at h; cases h; cases r; exact ⟨_, .str _ _⟩
  | _ => unfold snap at h; cases h
 | succ n ih =>
  intro p d x v h den r
  cases den with
  | non => unfold snap at h; cases h; cases r; exact ⟨_, .none⟩
  | bl => unfold snap at h; cases h; cases r; exact ⟨_, .bool _⟩
  | int => unfold snap at h; cases h; obtain ⟨t, rfl⟩ := r; exact ⟨_, .int _ t⟩
  | str => unfold snap at h; cases h; cases r; exact ⟨_, .str _ _⟩
  | @tup a vs ps e q =>
   unfold snap at h
   cases z : ps.mapM (snap n st) with
   | none => rw [z] at h; cases h
   | some ds =>
    rw [z] at h; cases h
    cases r
    obtain ⟨its, r1, ⟨o, ho, hc, m, hd⟩, _⟩ := I.tuple e
    obtain ⟨bs, q'⟩ := all ih z q r1
    exact ⟨_, .tuple ho hc hd (by simpa using q')⟩
  | @ref k a e =>
   unfold snap at h
   cases q0 : listAt st k with
   | none => rw [q0] at h; cases h
   | some xs =>
    rw [q0] at h
    dsimp only at h
    cases z : xs.mapM (snap n st) with
    | none => rw [z] at h; cases h
    | some ds =>
     rw [z] at h; cases h
     cases r
     obtain ⟨vs, g1, g2⟩ := V5 rp e q0
     obtain ⟨its, r1, pl, _⟩ := I.list g1
     obtain ⟨o, ho, hc, m, hd⟩ := pl.isList
     obtain ⟨bs, q'⟩ := all ih z g2 r1
     exact ⟨_, .list ho hc hd (by simpa using q')⟩
def deep : Nat := 8
def eqB (p q : P) (st : Stor) : Option Bool := match snap deep st p, snap deep st q with
 | some d, some e => some (PyData.eqv d e)
 | _, _ => none
def eqP : G2 := fun p q st => (eqB p q st).map fun b => (.bl b, st)
def neP : G2 := fun p q st => (eqB p q st).map fun b => (.bl (!b), st)
theorem JV (hu : X.A.units + deep < cLine) : OpR X (compareOp .Eq) (rM X eqP) := opM fun pins s σ H x y v u Q as st p q I rx ry rp d1 d2 h => by
 unfold eqP eqB at h
 cases z1 : snap deep st p with
 | none => rw [z1] at h; exact h.elim
 | some d =>
  cases z2 : snap deep st q with
  | none => rw [z1, z2] at h; exact h.elim
  | some e =>
   rw [z1, z2] at h
   obtain ⟨b1, r1⟩ := ZL I rp z1 d1 rx
   obtain ⟨b2, r2⟩ := ZL I rp z2 d2 ry
   exact (Ydv deep (A := X.A) r1 r2 (W2 z1) (W2 z2) hu).2.1 _ _ _ _ ⟨.bl _, H, I, rfl, h as H _ Ext.refl rp .bl⟩
theorem YhF (hu : X.A.units + deep < cLine) : OpR X (compareOp .NotEq) (rM X neP) := opM fun pins s σ H x y v u Q as st p q I rx ry rp d1 d2 h => by
 unfold neP eqB at h
 cases z1 : snap deep st p with
 | none => rw [z1] at h; exact h.elim
 | some d =>
  cases z2 : snap deep st q with
  | none => rw [z1, z2] at h; exact h.elim
  | some e =>
   rw [z1, z2] at h
   obtain ⟨b1, r1⟩ := ZL I rp z1 d1 rx
   obtain ⟨b2, r2⟩ := ZL I rp z2 d2 ry
   exact (Ydv deep (A := X.A) r1 r2 (W2 z1) (W2 z2) hu).2.2 _ _ _ _ ⟨.bl _, H, I, rfl, h as H _ Ext.refl rp .bl⟩
def sBad : MS := fun _ _ => .bad
theorem Ycv {e : Stmt} : JS X e sBad := fun pins s σ H D I ⟨as, ρ, st, en, rp, h⟩ => h.elim
end
end Mi
namespace Mi
open PySem PySem.Spec L2
open PyProof.Rows hiding St
theorem Ys : bootBuiltins "len" = some (.builtin "len") := by decide +kernel
theorem Zt : bootBuiltins "tuple" = some (.type "tuple") := by decide +kernel
theorem YhC : bootBuiltins "bool" = some (.type "bool") := by decide +kernel
theorem YgE : bootBuiltins "dict" = some (.type "dict") := by decide +kernel
theorem Yix : bootBuiltins "set" = some (.type "set") := by decide +kernel
theorem Yen : bootBuiltins "sorted" = some (.builtin "sorted") := by decide +kernel
theorem Yak : bootBuiltins "isinstance" = some (.builtin "isinstance") := by decide +kernel
theorem Yij : bootBuiltins "zip" = some (.type "zip") := by decide +kernel
theorem YiE : bootBuiltins "all" = some (.builtin "all") := by decide +kernel
theorem Yid : bootBuiltins "sum" = some (.builtin "sum") := by decide +kernel
theorem YiG : bootBuiltins "max" = some (.builtin "max") := by decide +kernel
structure Fn (P' : Program) (w : World) (K : PySem.W.Frag) (mg : Str -> Option Value) (base : Heap) (x : Str) (k : Nat) (ps : List Str) (mf : MF) : Prop where
 ex : ∃ f fd, FM P' w K mg base k f fd ps mf /\ mg x = some (.ref f) /\ PySem.W.keepIn K (.ref f) = true /\ Binds K fd ps []
theorem Yj {X : Cx} {x : Str} {k : Nat} {ps : List Str} {mf : MF} {e : Expr} {es : List Expr} {mr : MA} {p pos : Pos} (F : Fn X.prog X.w X.K X.mg X.base x k ps mf) (hr : Room k X.A) (hg : Gl X x) (ha : JA X (e :: es) mr)
 (hdb : (x == ("__debug__" : Str)) = false := by decide) (he : starEach (e :: es) X.env = (false, eval e X.env) :: starEach es X.env := by rfl) (hpl : (backTo pos (starEach es X.env)).any (·.1) = false := by rfl) :
 JE X (.Call (.Name x p) (e :: es) [] pos) (eCall ps.length mf mr) := by
 obtain ⟨f, fd, h1, h2, h3, h4⟩ := F.ex
 exact YgV h1 hr hg h2 h3 h4 ha hdb he hpl
def DefAt (K : PySem.W.Frag) (x : Str) (st : Stmt) : Prop := ∃ (f : Addr) (oc : Value) (od an : Option Addr) (kV doc pm cd ct : Value) (sl : Array (Option Value)),
 PySem.W.nsIn K mainGlobals x = some (some (.ref f)) /\ K.lookup f = some ⟨oc, od, .func (PySem.W.fnOf x x (defArgs st) (defBody st) (defScope st) .none kV doc pm an cd ct), sl⟩ /\ PySem.W.codeIn K cd x = true /\ PySem.W.keepIn K (.ref f) = true
structure Top (K : PySem.W.Frag) (mg : Str -> Option Value) : Prop where
 ex : ∃ h : Heap, K.In h /\ h.Ns mainGlobals mg
theorem Top.none {K : PySem.W.Frag} {mg : Str -> Option Value} {x : Str} (T : Top K mg) (e : PySem.W.nsIn K mainGlobals x = some none) : mg x = none := by
 obtain ⟨h, a, b⟩ := T.ex
 exact PySem.W.mg_none_of a b e
theorem Top.at {K : PySem.W.Frag} {mg : Str -> Option Value} {x : Str} {v : Value} (T : Top K mg) (e : PySem.W.nsIn K mainGlobals x = some (some v)) : mg x = some v := by
 obtain ⟨h, a, b⟩ := T.ex
 exact PySem.W.mg_of a b e
section
variable {P' : Program} {w : World} {K : PySem.W.Frag} {mg : Str -> Option Value} {base : Heap} {x : Str} {st : Stmt} {N ps : List Str} {k : Nat} {m : MS}
theorem YW (T : Top K mg) (D : DefAt K x st) (S : FnScope N ps (defScope st))
 (hb : ∀ (kV doc pm : Value) (an : Option Addr) (cdv ct : Value) (us : List Value), us.length = ps.length -> bindArgs (PySem.W.fnOf x x (defArgs st) (defBody st) (defScope st) .none kV doc pm an cdv ct) ⟨us, []⟩ = pure (ps.zip us))
 (hbody : ∀ (f : Addr) (cdv : Value) (A : Around) (outer : List Env) (s : Shared) (H : Hp) (E : XK), Room k (A.deeper (envOfC x (defScope st) s.heap.objs.size f cdv)) -> JSs (cxOf CX0 P' w K mg base N x (defScope st) f cdv A outer s H E).nox (defBody st) m) :
 Fn P' w K mg base x (k + 1) ps (fnM N.length m) := by
 obtain ⟨f, oc, od, an, kV, doc, pm, cd, ct, sl, h1, h2, h3, h4⟩ := D
 have F := Ygn (st := st) h2 h3 h4
 exact ⟨f, _, Mi.Fun.mirror F S (hbody f), T.at h1, h4, F.binds hb⟩
end
def spLaw (n : Nat) (mf : MF) (K : PySem.W.Frag) : Sp := fun vs H Q _ => ∃ (a : Addr) (ns : List Int), vs = [.ref a] /\ Only H /\ SqL K H a (ns.map V.int) /\ ns.length <= n /\ ∀ H', Q (.bl true) H'
theorem Vl {K : PySem.W.Frag} {as : List Addr} {H : Hp} : ∀ (ns : List Int), Dens K as H (ns.map V.int) (ns.map P.int)
 | [] => .nil
 | _ :: r => .cons .int (Vl r)
theorem YcI {K : PySem.W.Frag} {H : Hp} {a : Addr} {ns : List Int} (hO : Only H) (hS : SqL K H a (ns.map V.int)) : Rep K [a] [.ro (ns.map P.int)] H where
 len := rfl
 nd := fun i j b hi hj ni nj => by
  have h1 : i < 1 := (List.getElem?_eq_some_iff.mp hi).1
  have h2 : j < 1 := (List.getElem?_eq_some_iff.mp hj).1
  omega
 ob := fun k b o hk ho => by
  have h1 : k < 1 := (List.getElem?_eq_some_iff.mp hk).1
  have e : k = 0 := by omega
  subst e
  cases hk; cases ho
  rcases hS with (h | h) | h
  ·rcases hO a with z | ⟨o, xs, z⟩
   ·rw [z] at h; cases h
   ·rw [z] at h; cases h
  ·exact ⟨_, .inl h, Vl ns⟩
  ·exact ⟨_, .inr h, Vl ns⟩
def Law (n : Nat) (mf : MF) : Prop := ∀ ns : List Int, ns.length <= n -> ∃ st, mf [.ref 0] [.ro (ns.map P.int)] = .ok (.bl true) st
theorem Yir {n : Nat} {mf : MF} {K : PySem.W.Frag} (L : Law n mf) : ∀ vs H Q E, spLaw n mf K vs H Q E -> spM K 1 mf vs H Q E := by
 rintro vs H Q E ⟨a, ns, rfl, hO, hS, hl, hq⟩
 refine ⟨rfl, [a], _, [.ref 0], YcI hO hS, .cons (.ref rfl) .nil, ?_⟩
 obtain ⟨st, e⟩ := L ns hl
 rw [e]
 intro as' H' v _ _ d
 cases d
 exact hq H'
theorem YfW {l : PySem.W.OpenLaw} {q : Program} {loose : List Str} {XP : (Str -> Option Value) -> Heap -> Prop} {YP : World -> Heap -> Prop} {d : DefRec} {K : Params -> PySem.W.Frag} {n k : Nat} {x y : Str} {st : Stmt} {mf : MF} (hn : l.most = some n) (hn2 : n <= 1000) (hdf : d.params.defaults = []) (hy : d.name = y)
 (hr : Room k callerA) (hY : ∀ (w : World) (h : Heap), YP w h -> (K w.params).In h) (hb : ∀ (kV doc pm : Value) (an : Option Addr) (cdv ct : Value) (s : Shared) (u : Value), BindsTo s (PySem.W.fnOf y y (defArgs st) (defBody st) (defScope st) .none kV doc pm an cdv ct) ⟨[u], []⟩ [(x, u)])
 (D : ∀ w : World, DefAt (K w.params) y st)
 (F : ∀ (w : World) (mg : Str -> Option Value), Top (K w.params) mg -> ∀ (f : Addr) (fd : FuncData), Fun (K w.params) y y st f fd -> ∀ base : Heap, FM l.prog w (K w.params) mg base k f fd [x] mf) (L : Law n mf) (hloc : (defScope st).names.lookup x = some .local := by decide +kernel) :
 PySem.W.WalkO q loose XP YP l.row.toRowW d [] (fun f vs => PySem.call f vs) := by
 refine L2.walk_of (n := n) (k := k) (x := x) (CX := fun _ => CX0) (sp := fun w => spLaw n mf (K w.params)) hn (Nat.le_trans hn2 (by rw [sizeLine_eq]; decide)) hdf hr hY ?_ (fun w H a ns hl hO hS => ⟨a, ns, rfl, hO, hS, hl, fun _ => rfl⟩) fun _ _ _ _ _ z => z
 intro w mg fa h KX G hmg
 subst hy
 have T : Top (K w.params) mg := ⟨h, KX, G⟩
 obtain ⟨f, oc, od, an, kV, doc, pm, cd, ct, sl, h1, h2, h3, h4⟩ := D w
 have e := T.at h1
 rw [hmg] at e
 cases e
 have F0 := Ygn (st := st) h2 h3 h4
 exact ⟨_, hloc, hb kV doc pm an cd ct, fun base _ _ => (F w mg T fa _ F0 base).imp (Yir L)⟩
theorem Yy {A : Around} {k : Nat} (hr : Room k A) : A.units + deep < cLine := Nat.lt_of_le_of_lt (Nat.add_le_add_left (by decide : deep <= 64) _) hr.units
def compChk (X : Cx) (scope : Scope) (FN : List Str) (fr : List Nat) : Bool :=
 scope.names.all (fun y => !(y.2 == NameKind.cell)) && (match scope.kind with | .function => true | _ => false) && scope.names.all (fun y => !(y.2 == NameKind.local) || (match scope.names.lookup y.1 with | some .local => true | _ => false)) &&
 scope.names.all (fun y => !(y.2 == NameKind.free) || (match X.env.kindOf y.1 with | some .cell => true | some .free => true | _ => false)) &&
 (FN.length == fr.length) && (FN.zip fr).all fun z => (match X.N[z.2]? with | some x => x == z.1 | none => false) && (match scope.names.lookup z.1 with | some .free => true | _ => false)
theorem YfK {α : Type} : ∀ {l : List (Str × α)} {y : Str} {a : α}, l.lookup y = some a -> (y, a) ∈ l
 | [], _, _, h => by cases h
 | (k, v) :: r, y, a, h => by
  rw [List.lookup_cons] at h
  cases q : (y == k) with
  | true =>
   rw [q] at h
   have e : y = k := by simpa using q
   subst e
   cases h
   exact List.mem_cons_self ..
  | false => rw [q] at h; exact List.mem_cons_of_mem _ (YfK h)
theorem Yjg {a b : NameKind} (h : (!(a == b)) = true) : a ≠ b := fun e => by
 subst e
 cases a <;> exact absurd h (by decide)
theorem Yz {X : Cx} {scope : Scope} (TN FN : List Str) (fr : List Nat) (h : compChk X scope FN fr = true) : CompOk X scope TN FN fr := by
 unfold compChk at h
 simp only [Bool.and_eq_true, List.all_eq_true] at h
 obtain ⟨⟨⟨⟨⟨h1, h2⟩, h3⟩, h4⟩, h5⟩, h6⟩ := h
 refine ⟨fun y hy => Yjg (h1 y hy), ?_, fun y hy e => ?_, fun y hy e => ?_, fun y => YfK, by simpa using h5, fun j x k hx hk => ?_⟩
 ·revert h2; cases scope.kind <;> intro h2 <;> first | rfl | exact absurd h2 (by decide)
 ·have := h3 y hy
  rw [e] at this
  have e2 : (!(NameKind.local == NameKind.local)) = false := by decide
  rw [e2, Bool.false_or] at this
  revert this
  split
  ·intro _; assumption
  ·intro z; exact absurd z (by decide)
 ·have := h4 y hy
  rw [e] at this
  have e2 : (!(NameKind.free == NameKind.free)) = false := by decide
  rw [e2, Bool.false_or] at this
  revert this
  split
  ·intro _; left; assumption
  ·intro _; right; assumption
  ·intro z; exact absurd z (by decide)
 ·have hm : (x, k) ∈ FN.zip fr := List.mem_iff_getElem?.mpr ⟨j, by rw [List.getElem?_zip_eq_some]; exact ⟨hx, hk⟩⟩
  obtain ⟨g1, g2⟩ := h6 _ hm
  dsimp only at g1 g2
  constructor
  ·revert g1
   cases X.N[k]? with
   | none => intro z; exact absurd z Bool.false_ne_true
   | some z => intro e; rw [show z = x by simpa using e]
  ·revert g2
   split
   ·intro _; assumption
   ·intro z; exact absurd z (by decide)
theorem DefAt.of {K : PySem.W.Frag} {x : Str} {st : Stmt} {f : Addr} {oc : Value} {od an : Option Addr} {kV doc pm cd ct : Value} {sl : Array (Option Value)} (a : PySem.W.nsIn K mainGlobals x = some (some (.ref f)))
 (l : K.lookup f = some ⟨oc, od, .func (PySem.W.fnOf x x (defArgs st) (defBody st) (defScope st) .none kV doc pm an cd ct), sl⟩) (c : PySem.W.codeIn K cd x = true) (k : PySem.W.keepIn K (.ref f) = true) : DefAt K x st := ⟨f, oc, od, an, kV, doc, pm, cd, ct, sl, a, l, c, k⟩
def blsP : List P -> Option (List Bool)
 | [] => some []
 | .bl b :: r => (blsP r).map (b :: ·)
 | _ :: _ => none
def intsP : List P -> Option (List Int)
 | [] => some []
 | .int i :: r => (intsP r).map (i :: ·)
 | _ :: _ => none
section
variable {K : PySem.W.Frag} {as : List Addr} {H : Hp}
theorem Yb6 : ∀ {ps : List P} {vs : List V} {us : List Value} {bs : List Bool}, Dens K as H vs ps -> Vals vs us -> blsP ps = some bs -> LSm.BoolsAre us bs
 | [], _, _, _, .nil, .nil, e => by cases e; exact .nil
 | .bl b :: r, _, _, bs, .cons d ds, .cons rv rs, e => by
  cases d
  cases rv
  have e' : (blsP r).map (b :: ·) = some bs := e
  cases q : blsP r with
  | none => rw [q] at e'; cases e'
  | some cs => rw [q] at e'; cases e'; exact .cons b (Yb6 ds rs q)
theorem Ydw : ∀ {ps : List P} {vs : List V} {us : List Value} {ns : List Int}, Dens K as H vs ps -> Vals vs us -> intsP ps = some ns -> IntsAre us ns
 | [], _, _, _, .nil, .nil, e => by cases e; exact .nil
 | .int i :: r, _, _, ns, .cons d ds, .cons rv rs, e => by
  cases d
  obtain ⟨t, rfl⟩ := rv
  have e' : (intsP r).map (i :: ·) = some ns := e
  cases q : intsP r with
  | none => rw [q] at e'; cases e'
  | some cs => rw [q] at e'; cases e'; exact .cons i t (Ydw ds rs q)
end
section
variable {prog : Program} {w : World} {A : Around} {E : Value -> Shared -> Prop} {s : Shared} {l : Addr} {vs : List Value} {bs : List Bool} {Q : Value -> Shared -> Prop}
theorem YdH {h' : Heap} {o : Obj} (hk : ∀ b x, b ∉ [s.heap.objs.size] -> (s.heap.push o).get? b = some x -> h'.get? b = some x) (b : Addr) (x : Obj) (e : s.heap.get? b = some x) : h'.get? b = some x := by
 refine hk b x (fun hm => ?_) (Heap.get?_push_of_some _ e)
 rw [List.mem_singleton.mp hm] at e
 exact absurd (Heap.lt_size e) (Nat.lt_irrefl _)
theorem Ygb (hh : A.handled = none) (hl : s.heap.IsList l vs.toArray) (hb : LSm.BoolsAre vs bs)
 (h : ∀ h' tk, (∀ b x, s.heap.get? b = some x -> h'.get? b = some x) -> Q (.bool (bs.all id)) { s with heap := h', toks := tk }) : wpAny (model prog w) A (call (.builtin "all") [.ref l]) Q E s := by
 have hlt : l < s.heap.objs.size := let ⟨_, e, _⟩ := hl; Heap.lt_size e
 have W := Walks.list (prog := prog) (w := w) (A := A.in1) hh s.heap.objs.size l (Nat.ne_of_lt hlt) vs.toArray
 refine call_all_walk (wpAny_pyIter_list hl ⟨_, _, _, _, _, _, (fun i => (bs[i]?).getD true), rfl, W, ⟨⟨_, Heap.get?_push_size _ rfl, rfl, rfl⟩, hl.push _⟩, ?_, ?_⟩)
 ·intro i v s' Q' E' hP hQ
  obtain ⟨b, e, rfl⟩ := hb.get i v (by simpa using hP)
  dsimp only at hQ
  rw [e] at hQ
  exact wpAny_truthy_bool hQ
 ·intro h' tk hk
  have e : ((List.range vs.toArray.size).all fun i => (bs[i]?).getD true) = bs.all id := by rw [List.size_toArray, hb.length, LSm.range_all]
  rw [e]
  exact h h' tk fun b x => YdH hk b x
theorem YgT {ns : List Int} (hh : A.handled = none) (hl : s.heap.IsList l vs.toArray) (hi : IntsAre vs ns)
 (h : ∀ h' tk t', (∀ b x, s.heap.get? b = some x -> h'.get? b = some x) -> Q (.int ns.sum t') { s with heap := h', toks := tk }) : wpAny (model prog w) A (call (.builtin "sum") [.ref l]) Q E s := by
 obtain ⟨xs, hx⟩ := hi.allInts.items
 have hl2 : s.heap.IsList l (intItems xs) := hx ▸ hl
 refine sum_intListG hh hl2 fun h' tk t' hk => ?_
 have e1 : ns = xs.toList.map (·.1) := by
  have := hi.numsOf
  rw [<- nums_intItems, <- hx]
  exact this.symm
 have e2 : preSum (numAt xs) xs.size = ns.sum := by rw [preSum_eq, List.take_of_length_le (by simp), e1]
 rw [e2]
 exact h h' tk t' hk
end
section
variable {X : Cx} {e : Expr} {m : MA} {p pos : Pos}
theorem YdB (hc : X.calm = true) : CallR X (.builtin "all") (fun xs H Q => ∃ a vs bs, xs = [.ref a] /\ SqL X.K H a vs /\ (∀ us, Vals vs us -> LSm.BoolsAre us bs) /\ Q (.bl (bs.all id)) H) := by
 intro pins s σ H xs us Q I r ⟨a, vs, bs, e, sq, hb, q⟩
 subst e
 obtain ⟨u, rfl, rx⟩ := vals1 r
 cases rx
 obtain ⟨its, rv, pl, _⟩ := I.list sq
 exact Tk.wpAny_le (Ygb (I.ok.hd hc) pl.isList (hb _ rv) fun h' tk hk le => ⟨.bl _, H, I.kept hk le, rfl, q⟩)
theorem Yer (hc : X.calm = true) : CallR X (.builtin "sum") (fun xs H Q => ∃ a vs ns, xs = [.ref a] /\ SqL X.K H a vs /\ (∀ us, Vals vs us -> IntsAre us ns) /\ Q (.int ns.sum) H) := by
 intro pins s σ H xs us Q I r ⟨a, vs, bs, e, sq, hb, q⟩
 subst e
 obtain ⟨u, rfl, rx⟩ := vals1 r
 cases rx
 obtain ⟨its, rv, pl, _⟩ := I.list sq
 exact Tk.wpAny_le (YgT (I.ok.hd hc) pl.isList (hb _ rv) fun h' tk t' hk le => ⟨.int _, H, I.kept hk le, ⟨_, rfl⟩, q⟩)
def eAllL (m : MA) : ME := fun ρ st => (m ρ st).bind fun ps st1 => match blsP ps with
 | some bs => .ok (.bl (bs.all id)) st1
 | none => .bad
theorem YgH (hc : X.calm = true) (hg : Gl X "all") (hm : X.mg "all" = none) (hv : bootBuiltins "all" = some (.builtin "all")) (h : JL X e m)
 (he : starEach [e] X.env = (false, eval e X.env) :: starEach [] X.env := by rfl) : JE X (.Call (.Name "all" p) [e] [] pos) (eAllL m) :=
 PE.imp (Je (YdB hc) hg hm hv (Wu h JF he) (by decide) (by decide) he) fun σ H Q ⟨as, ρ, st, en, rp, h⟩ => ⟨as, ρ, st, en, rp, Post.bindL h fun ps st1 as1 H1 l vs x rp1 hl fr d h1 => by
  cases q : blsP ps with
  | none => rw [q] at h1; exact h1.elim
  | some bs => rw [q] at h1; exact ⟨l, vs, bs, rfl, .of hl, fun us r => Yb6 d r q, h1 as1 H1 _ Ext.refl rp1 .bl⟩⟩
def minP : GC := fun ps st => match ps with
 | [.int i, .int j] => okP (.int (if j < i then j else i)) st
 | _ => none
def maxP : GC := fun ps st => match ps with
 | [.int i, .int j] => okP (.int (if j > i then j else i)) st
 | _ => none
theorem Yh4 (hc : X.calm = true) : CallR X (.builtin "max") (rMC X maxP) := CallR.imp (Yd5 hc) fun xs H Q ⟨as, st, ps, rp, d, h⟩ => by
 match ps, h with
 | [.int i, .int j], h =>
  obtain ⟨v, u, rfl, d1, d2⟩ := d.two
  cases d1; cases d2
  exact ⟨i, j, rfl, h as H _ Ext.refl rp .int⟩
end
section
variable {prog : Program} {w : World} {A : Around} {E : Value -> Shared -> Prop} {s : Shared}
theorem Ycw {J t : Addr} {i : Nat} {its : Array Value} {x : Value} {Q : Value -> Shared -> Prop} (hJ : s.heap.IsTupleIter J t i) (ht : s.heap.IsTuple t its) (hx : its[i]? = some x)
 (hQ : ∀ h', h'.IsTupleIter J t (i + 1) -> Heap.SameBut J s.heap h' -> Q x { s with heap := h' }) : wpAny (model prog w) A (Builtin.SmallTypes.nextOf (.ref J)) Q E s := by
 obtain ⟨oJ, gJ, cJ, dJ⟩ := id hJ
 obtain ⟨oT, gT, _, nT, dT⟩ := ht
 unfold Builtin.SmallTypes.nextOf
 have nn : ¬ ((Value.ref t == Value.none) = true) := Bool.false_ne_true
 refine wpAny_bind (wpAny_callSpecial?_slot (name := Str.ofString "__next__") hJ.typeIs F.slot_tuple_iterator_next (wpAny_call_entry F.slot_tuple_iterator_next hJ.typeIs F.entry_tuple_iterator_next ?_ (F.args_tuple_iterator_next_1 _)))
 show wpAny _ _ (field (.ref J) 0 >>= _) _ _ s
 refine wpAny_bind (wpAny_field gJ dJ (x := .ref t) rfl ?_)
 show wpAny _ _ (if (Value.ref t == Value.none) = true then _ else field (.ref J) 1 >>= _) _ _ s
 rw [if_neg nn]
 refine wpAny_bind (wpAny_field gJ dJ (x := .int i 0) rfl ?_)
 show wpAny _ _ (seqItems? (.ref t) >>= _) _ _ s
 refine wpAny_bind (wpAny_seqItems gT dT ?_)
 simp only [Int.toNat_natCast, hx]
 refine wpAny_bind (wpAny_setField gJ dJ (by simp) (wpAny_pure ⟨x, rfl, wpAny_pure ?_⟩))
 refine hQ _ ⟨_, Heap.get?_update_self _ gJ (Obj.isFreed_of_fields (Obj.data_mapFields dJ _)), (Obj.cls_mapFields ..).trans cJ, ?_⟩ (Heap.SameBut.update ..)
 rw [Obj.data_mapFields dJ]
 simp [rawInt]
theorem YdP {J t : Addr} {i : Nat} {its : Array Value} {Q : Value -> Shared -> Prop} (hh : A.handled = none) (hJ : s.heap.IsTupleIter J t i) (ht : s.heap.IsTuple t its) (hx : its[i]? = none)
 (hE : ∀ h' e, Heap.ExtBut J s.heap h' -> (∃ o, h'.get? e = some o /\ o.cls = .type "StopIteration") -> E (.ref e) { s with heap := h' }) : wpAny (model prog w) A (Builtin.SmallTypes.nextOf (.ref J)) Q E s := by
 obtain ⟨oJ, gJ, cJ, dJ⟩ := id hJ
 obtain ⟨oT, gT, _, nT, dT⟩ := ht
 unfold Builtin.SmallTypes.nextOf
 have nn : ¬ ((Value.ref t == Value.none) = true) := Bool.false_ne_true
 refine wpAny_bind (wpAny_callSpecial?_slot (name := Str.ofString "__next__") hJ.typeIs F.slot_tuple_iterator_next (wpAny_call_entry F.slot_tuple_iterator_next hJ.typeIs F.entry_tuple_iterator_next ?_ (F.args_tuple_iterator_next_1 _)))
 show wpAny _ _ (field (.ref J) 0 >>= _) _ _ s
 refine wpAny_bind (wpAny_field gJ dJ (x := .ref t) rfl ?_)
 show wpAny _ _ (if (Value.ref t == Value.none) = true then _ else field (.ref J) 1 >>= _) _ _ s
 rw [if_neg nn]
 refine wpAny_bind (wpAny_field gJ dJ (x := .int i 0) rfl ?_)
 show wpAny _ _ (seqItems? (.ref t) >>= _) _ _ s
 refine wpAny_bind (wpAny_seqItems gT dT ?_)
 simp only [Int.toNat_natCast, hx]
 refine wpAny_bind (wpAny_rule (wpAny_bind (wpAny_setField gJ dJ (by simp) ?_)))
 have kk : Heap.ExtBut J s.heap (s.heap.update J (Obj.mapFields fun x => x.setIfInBounds 0 Value.none)) := (Heap.SameBut.update ..).extBut
 exact VA (A := A.in1) (s := { s with heap := s.heap.update J (Obj.mapFields fun x => x.setIfInBounds 0 Value.none) }) hh kk fun h' x k o => hE h' x k o
theorem Ycr (hh : A.handled = none) (J t : Addr) (hne : t ≠ J) (its : Array Value) : Draws prog w A J [J, t] its.size (fun i v => its[i]? = some v) (fun i h => h.IsTupleIter J t i /\ h.IsTuple t its) where
 live := fun _ _ st => let ⟨o, ho, _⟩ := st.1; ⟨o, ho⟩
 frame := fun _ _ _ st hk => ⟨let ⟨o, e, r⟩ := st.1; ⟨o, hk J (by simp) o e, r⟩, let ⟨o, e, r⟩ := st.2; ⟨o, hk t (by simp) o e, r⟩⟩
 item := fun i s Q E hi st hQ => Ycw st.1 st.2 (x := its[i]) (by simp [hi]) fun h' a b => hQ _ h' s.toks (by simp [hi]) ⟨a, st.2.extBut b.extBut hne⟩ b
 done := fun s Q E st hE => YdP hh st.1 st.2 (by simp) hE
end
structure EnIn (P' : Program) (w : World) (K : PySem.W.Frag) (it : Addr) (tn0 : Nat -> Heap -> Prop) (go : Nat -> Hp -> V -> Prop) (stop : Nat -> Hp -> Prop) : Prop where
 obj : ∀ i h, tn0 i h -> ∃ o, h.get? it = some o /\ ∀ v, o.data ≠ .cell v
 keep : ∀ i h h', tn0 i h -> (∀ o, h.get? it = some o -> h'.get? it = some o) -> tn0 i h'
 uniq : ∀ (X : Cx), X.K = K -> ∀ i pins s σ H x y, Inv X pins σ H s -> go i H x -> go i H y -> x = y
 item : ∀ (X : Cx), X.prog = P' -> X.w = w -> X.K = K -> X.calm = true -> ∀ i pins s σ H x, Inv X pins σ H s -> FpOk X pins H it -> tn0 i s.heap -> go i H x ->
  ∃ fp n Pv St, Draws P' w X.A.in1 it fp n Pv St /\ St i s.heap /\ i < n /\ (∀ e, FpOk X pins H e -> e ≠ it -> e ∉ fp) /\ (∀ v, Pv i v -> RelV x v) /\ ∀ h', St (i + 1) h' -> tn0 (i + 1) h'
 done : ∀ (X : Cx), X.prog = P' -> X.w = w -> X.K = K -> X.calm = true -> ∀ i pins s σ H, Inv X pins σ H s -> FpOk X pins H it -> tn0 i s.heap -> stop i H ->
  ∃ fp n Pv St, Draws P' w X.A.in1 it fp n Pv St /\ St n s.heap
def numAt (xs : List P) (i : Nat) : Option (Option P) := if i < xs.length then some ((xs[i]?).map fun p => .tup [.int i, p]) else if i = xs.length then some none else none
section
variable {K : PySem.W.Frag} {as : List Addr} {H : Hp}
end
section
variable {X : Cx} {elts : List Expr} {x1 : Nat} {tp p pos : Pos} {e : Expr} {me : ME}
end
def mul2P : G2 := fun p q st => match p, q with
 | .int i, .int j => if (small64 i || small64 j) = true then okP (.int (i * j)) st else none
 | .str x, .int k => if -1000000 <= k /\ k <= 1000000 /\ x.length <= 1000000 /\ x.length * k.toNat <= cap then okP (.str (Txt.mul x k)) st else none
 | _, _ => none
theorem Ygm {x : Str} {k : Int} (h1 : -1000000 <= k) (h2 : k <= 1000000) (h3 : x.length <= 1000000) (h4 : x.length * k.toNat <= cap) : MulOk x k := by
 refine ⟨?_, fun h _ => ?_, fun h _ => ?_⟩
 ·rw [decide_eq_false (by omega), decide_eq_false (by omega)]; rfl
 ·have a : (9223372036854 : Int) <= (2 ^ 63 - 1) / k := by
   refine Int.le_ediv_of_mul_le (by omega) ?_
   have : (9223372036854 : Int) * k <= 9223372036854 * 1000000 := Int.mul_le_mul_of_nonneg_left h2 (by decide)
   omega
  omega
 ·unfold Builtin.Str.tooLong
  rw [decide_eq_false]
  have : cap <= sizeLine := Yi
  omega
variable {X : Cx}
theorem YR : OpR X (binaryOp .Mult) (rM X mul2P) := opM fun pins s σ H x y v u Q as st p q I rx ry rp d1 d2 h => by
 cases d1 with
 | int =>
  cases d2 with
  | int => exact Yiy pins s σ H _ _ v u Q I rx ry ⟨as, st, _, _, rp, .int, .int, h⟩
  | _ => exact h.elim
 | @str x tx hx zx =>
  cases d2 with
  | int =>
   rename_i k
   have h' : PostO X as H (if -1000000 <= k /\ k <= 1000000 /\ x.length <= 1000000 /\ x.length * k.toNat <= cap then okP (.str (Txt.mul x k)) st else none) Q := h
   by_cases z : -1000000 <= k /\ k <= 1000000 /\ x.length <= 1000000 /\ x.length * k.toNat <= cap
   ·rw [if_pos z] at h'
    cases rx
    obtain ⟨t', rfl⟩ := ry
    have hok := Ygm z.1 z.2.1 z.2.2.1 z.2.2.2
    have q : MkT (Txt.mul x k) Q H := mkT rp fun as1 H1 v x r d => h' as1 H1 v x r d
    have q0 : Txt.mul x k = x -> Q (.str x tx) H := fun e => h' as H _ Ext.refl rp (by rw [e]; exact .str hx zx)
    refine PySem.P.mul_str hok.1 hok.2.1 hok.2.2 ?_
    unfold Txt.mul at q q0
    by_cases h1 : k < 1
    ·rw [if_pos h1] at q ⊢
     exact ⟨by decide, .str _ _, _, I.txt, rfl, q _ I.fresh_tok.1 I.fresh_tok.2⟩
    ·rw [if_neg h1] at q q0 ⊢
     refine YaU (fun c => ⟨.str x tx, H, I, rfl, q0 (if_pos c)⟩) fun c => ?_
     rw [if_neg c] at q
     exact ⟨fits_reps (hok.2.2 h1 (by simpa using c)), .str _ _, _, I.txt, rfl, q _ I.fresh_tok.1 I.fresh_tok.2⟩
   ·rw [if_neg z] at h'; exact h'.elim
  | _ => exact h.elim
 | _ => exact h.elim
def islowerP : GM := fun p ps st => match p, ps with
 | .str x, [] => okP (.bl (Txt.islower x)) st
 | _, _ => none
def startswithP : GM := fun p ps st => match p, ps with
 | .str x, [.str y] => okP (.bl (Txt.startswith x y)) st
 | _, _ => none
def findSP : GM := fun p ps st => match p, ps with
 | .str x, [.str y] => okP (.int (Txt.find x y)) st
 | _, _ => none
section
variable {X : Cx}
theorem W7 : MtR X "str.find" (rMM X findSP) := mM fun pins s σ H x xs v us Q as st p ps I rx rv rp d1 d2 h => by
 cases d1 with
 | @str z =>
  cases d2 with
  | nil => exact h.elim
  | @cons v1 p1 vs1 ps1 a b =>
   cases b with
   | cons c d => cases a <;> exact h.elim
   | nil =>
    cases a with
    | @str y =>
     cases rx
     obtain ⟨u, rfl⟩ : ∃ u, us = [.str y u] := by
      cases rv with
      | cons r1 r2 =>
       cases r2
       cases r1
       exact ⟨_, rfl⟩
     exact SC.find ⟨.int _, H, I.tok _, ⟨_, rfl⟩, h as H _ Ext.refl rp .int⟩
    | _ => exact h.elim
 | _ => exact h.elim
end
structure ZAp2 (z TI TO i1 i2 : Addr) (f1 f2 : List Addr) : Prop where
 ap : ZAp z TI TO i1 i2
 z1 : z ∉ f1
 t1 : TO ∉ f1
 x1 : i2 ∉ f1
 z2 : z ∉ f2
 t2 : TO ∉ f2
 x2 : i1 ∉ f2
section
variable {prog : Program} {w : World} {A : Around} {E : Value -> Shared -> Prop} {s : Shared} {z TI TO i1 i2 : Addr} {f1 f2 : List Addr} {n1 n2 k : Nat} {P1 P2 : Nat -> Value -> Prop} {S1 S2 : Nat -> Heap -> Prop} {a b : Value}
theorem YD {it : Addr} {fp : List Addr} {n : Nat} {Pv : Nat -> Value -> Prop} {St' : Nat -> Heap -> Prop} (D : Draws prog w A it fp n Pv St') {i : Nat} {c : Addr} {h h' : Heap} (st : St' i h) (x : Heap.ExtBut c h h') (hc : c ∉ fp) : St' i h' :=
 D.frame i h h' st fun b hb o e => x b o (fun q => hc (q ▸ hb)) e
theorem YdC {Q : Value -> Shared -> Prop} (D1 : Draws prog w A i1 f1 n1 P1 S1) (D2 : Draws prog w A i2 f2 n2 P2 S2) (D : ZAp2 z TI TO i1 i2 f1 f2)
 (hz : IsZip s.heap z TI TO .none) (hTI : IsPair s.heap TI (.ref i1) (.ref i2)) (hTO : IsPair s.heap TO a b) (h1 : S1 k s.heap) (h2 : S2 k s.heap) (k1 : k < n1) (k2 : k < n2)
 (hQ : ∀ x y h' tk, P1 k x -> P2 k y -> IsZip h' z TI TO (rawInt s.heap.objs.size) -> IsPair h' TO x y -> S1 (k + 1) h' -> S2 (k + 1) h' -> IsPair h' s.heap.objs.size x y -> h'.objs.size = s.heap.objs.size + 1 ->
  (∀ c o, c ≠ z -> c ≠ TO -> c ≠ i1 -> c ≠ i2 -> s.heap.get? c = some o -> h'.get? c = some o) -> Q (.ref s.heap.objs.size) { s with heap := h', toks := tk }) :
 wpAny (model prog w) A (Builtin.«zip.__next__» ⟨[.ref z], []⟩) (fun fin s' => ∃ v, fin = .done (.ret v) /\ Q v s') E s := by
 show wpAny _ _ (field (.ref z) 2 >>= _) _ _ _
 refine wpAny_bind (wpAny_field hz rfl (x := .bool false) rfl ?_)
 show wpAny _ _ (field (.ref z) 3 >>= _) _ _ _
 refine wpAny_bind (wpAny_field hz rfl (x := .ref TI) rfl (wpAny_bind (wpAny_seqItems hTI rfl ?_)))
 show wpAny _ _ (Builtin.SmallTypes.ownedTupleIsFree (.ref z) >>= _) _ _ _
 refine wpAny_bind ?_
 unfold Builtin.SmallTypes.ownedTupleIsFree
 refine wpAny_bind (wpAny_field hz rfl (x := .none) rfl (wpAny_pure ?_))
 simp only [if_true]
 refine wpAny_bind (wpAny_rule (wpAny_bind (wpAny_field hz rfl (x := .ref TO) rfl (wpAny_bind (wpAny_setField_rec hz (by simp) fun g1 hz1 e1 => ?_)))))
 replace hz1 : IsZip g1 z TI TO .ellipsis := hz1
 refine wpAny_bind ?_
 simp only [List.zipIdx_cons, List.zipIdx_nil, List.forIn_cons, List.forIn_nil]
 refine wpAny_bind (wpAny_bind (wpAny_onRaise ?_))
 show wpAny _ _ (Builtin.SmallTypes.nextOf (.ref i1) >>= _) _ _ _
 refine wpAny_bind (D1.item k { s with heap := g1 } _ _ k1 (YD D1 h1 e1.extBut D.z1) fun x g2 tk1 px s1 e2 => wpAny_pure ?_)
 have to2 : IsPair g2 TO a b := e2.extBut _ _ D.ap.TOi1 (e1.extBut _ _ D.ap.TOz hTO)
 refine wpAny_bind (wpAny_seqItems to2 rfl (wpAny_bind (wpAny_updateSeq_pair to2 fun g3 to3 e3 => ?_)))
 replace to3 : IsPair g3 TO x b := to3
 refine wpAny_bind (wpAny_letGo (wpAny_pure ?_))
 refine wpAny_bind (wpAny_bind (wpAny_onRaise ?_))
 show wpAny _ _ (Builtin.SmallTypes.nextOf (.ref i2) >>= _) _ _ _
 refine wpAny_bind (D2.item k { s with heap := g3, toks := tk1 } _ _ k2 (YD D2 (YD D2 (YD D2 h2 e1.extBut D.z2) e2.extBut D.x2) e3.extBut D.t2) fun y g4 tk2 py s2 e4 => wpAny_pure ?_)
 have to4 : IsPair g4 TO x b := e4.extBut _ _ D.ap.TOi2 to3
 refine wpAny_bind (wpAny_seqItems to4 rfl (wpAny_bind (wpAny_updateSeq_pair to4 fun g5 to5 e5 => ?_)))
 replace to5 : IsPair g5 TO x y := to5
 refine wpAny_bind (wpAny_letGo (wpAny_pure (wpAny_pure ?_)))
 refine wpAny_bind (wpAny_seqItems to5 rfl (wpAny_bind (wpAny_newTuple ?_)))
 have sz : g5.objs.size = s.heap.objs.size := by rw [e5.1, e4.1, e3.1, e2.1, e1.1]
 have hz5 : IsZip g5 z TI TO .ellipsis := e5.extBut _ _ D.ap.TOz.symm (e4.extBut _ _ D.ap.i2z.symm (e3.extBut _ _ D.ap.TOz.symm (e2.extBut _ _ D.ap.i1z.symm hz1)))
 have kp : ∀ c o, c ≠ z -> c ≠ TO -> c ≠ i1 -> c ≠ i2 -> s.heap.get? c = some o -> g5.get? c = some o := fun c o c1 c2 c3 c4 e =>
  e5.extBut _ _ c2 (e4.extBut _ _ c4 (e3.extBut _ _ c2 (e2.extBut _ _ c3 (e1.extBut _ _ c1 e))))
 have s15 : S1 (k + 1) g5 := YD D1 (YD D1 (YD D1 s1 e3.extBut D.t1) e4.extBut D.x1) e5.extBut D.t1
 have s25 : S2 (k + 1) g5 := YD D2 s2 e5.extBut D.t2
 have lz : z < g5.objs.size := Heap.lt_size hz5
 show wpAny _ _ (Builtin.SmallTypes.ownedTupleHandOut (.ref z) (.ref g5.objs.size) >>= _) _ _ _
 refine wpAny_bind ?_
 unfold Builtin.SmallTypes.ownedTupleHandOut
 have hz6 : IsZip (g5.push { cls := .type "tuple", data := .seq #[x, y] }) z TI TO .ellipsis := Heap.get?_push_of_some _ hz5
 refine wpAny_bind (wpAny_setField_rec hz6 (by simp) fun g7 hz7 e7 => ?_)
 replace hz7 : IsZip g7 z TI TO (rawInt g5.objs.size) := hz7
 refine wpAny_setField_rec hz7 (by simp) fun g8 hz8 e8 => ?_
 replace hz8 : IsZip g8 z TI TO (rawInt g5.objs.size) := hz8
 have up : ∀ c o, c ≠ z -> g5.get? c = some o -> g8.get? c = some o := fun c o c1 e => e8.extBut _ _ c1 (e7.extBut _ _ c1 (Heap.get?_push_of_some _ e))
 have t8 : IsPair g8 g5.objs.size x y := e8.extBut _ _ (Nat.ne_of_gt lz) (e7.extBut _ _ (Nat.ne_of_gt lz) (Heap.get?_push_size _ rfl))
 have z8 : g8.objs.size = g5.objs.size + 1 := by rw [e8.1, e7.1, Heap.size_push]
 rw [sz] at hz8 t8 z8
 refine wpAny_pure ⟨_, rfl, ?_⟩
 show Q (.ref g5.objs.size) _
 rw [sz]
 exact hQ x y g8 tk2 px py hz8 (up _ _ D.ap.TOz to5) (D1.frame _ _ _ s15 fun c hc o e => up c o (fun q => D.z1 (q ▸ hc)) e) (D2.frame _ _ _ s25 fun c hc o e => up c o (fun q => D.z2 (q ▸ hc)) e) t8 z8 fun c o c1 c2 c3 c4 e => up c o c1 (kp c o c1 c2 c3 c4 e)
theorem Ybh {Q : Option Value -> Shared -> Prop} (D1 : Draws prog w A.in1 i1 f1 n1 P1 S1) (D2 : Draws prog w A.in1 i2 f2 n2 P2 S2) (D : ZAp2 z TI TO i1 i2 f1 f2)
 (hz : IsZip s.heap z TI TO .none) (hTI : IsPair s.heap TI (.ref i1) (.ref i2)) (hTO : IsPair s.heap TO a b) (h1 : S1 k s.heap) (h2 : S2 k s.heap) (k1 : k < n1) (k2 : k < n2)
 (hQ : ∀ x y h' tk, P1 k x -> P2 k y -> IsZip h' z TI TO (rawInt s.heap.objs.size) -> IsPair h' TO x y -> S1 (k + 1) h' -> S2 (k + 1) h' -> IsPair h' s.heap.objs.size x y -> h'.objs.size = s.heap.objs.size + 1 ->
  (∀ c o, c ≠ z -> c ≠ TO -> c ≠ i1 -> c ≠ i2 -> s.heap.get? c = some o -> h'.get? c = some o) -> Q (some (.ref s.heap.objs.size)) { s with heap := h', toks := tk }) :
 wpAny (model prog w) A (pyNext (.ref z)) Q E s := by
 have hT : s.TypeIs (.ref z) "zip" := ⟨_, hz, rfl⟩
 unfold pyNext
 exact wpAny_bind (wpAny_attempt (wpAny_callSpecial?_slot (name := Str.ofString "__next__") hT F.slot_zip_next
  (wpAny_call_entry F.slot_zip_next hT F.entry_zip_next
   (YdC D1 D2 D hz hTI hTO h1 h2 k1 k2 fun x y h' tk c1 c2 a1 a2 a3 a4 a5 a6 a7 => wpAny_pure (hQ x y h' tk c1 c2 a1 a2 a3 a4 a5 a6 a7)) (F.args_zip_next_1 _))))
end
section
variable {prog : Program} {w : World} {A : Around} {E : Value -> Shared -> Prop} {s : Shared} {z TI TO i1 i2 : Addr} {f1 f2 : List Addr} {n1 n2 k : Nat} {P1 P2 : Nat -> Value -> Prop} {S1 S2 : Nat -> Heap -> Prop} {a b : Value}
theorem YeR {Q : Fin -> Shared -> Prop} (D1 : Draws prog w A i1 f1 n1 P1 S1) (D : ZAp z TI TO i1 i2) (az1 : z ∉ f1)
 (hz : IsZip s.heap z TI TO .none) (hTI : IsPair s.heap TI (.ref i1) (.ref i2)) (hTO : IsPair s.heap TO a b) (h1 : S1 k s.heap)
 (hk : k = n1 \/ k < n1 /\ ∃ f2 n2 P2 S2, Draws prog w A i2 f2 n2 P2 S2 /\ S2 n2 s.heap /\ z ∉ f2 /\ TO ∉ f2 /\ i1 ∉ f2)
 (hE : ∀ h' e tk, (∀ c o, c ≠ z -> c ≠ TO -> c ≠ i1 -> c ≠ i2 -> s.heap.get? c = some o -> h'.get? c = some o) -> (∃ o, h'.get? e = some o /\ o.cls = .type "StopIteration") -> E (.ref e) { s with heap := h', toks := tk }) :
 wpAny (model prog w) A (Builtin.«zip.__next__» ⟨[.ref z], []⟩) Q E s := by
 show wpAny _ _ (field (.ref z) 2 >>= _) _ _ _
 refine wpAny_bind (wpAny_field hz rfl (x := .bool false) rfl ?_)
 show wpAny _ _ (field (.ref z) 3 >>= _) _ _ _
 refine wpAny_bind (wpAny_field hz rfl (x := .ref TI) rfl (wpAny_bind (wpAny_seqItems hTI rfl ?_)))
 show wpAny _ _ (Builtin.SmallTypes.ownedTupleIsFree (.ref z) >>= _) _ _ _
 refine wpAny_bind ?_
 unfold Builtin.SmallTypes.ownedTupleIsFree
 refine wpAny_bind (wpAny_field hz rfl (x := .none) rfl (wpAny_pure ?_))
 simp only [if_true]
 refine wpAny_bind (wpAny_rule (wpAny_bind (wpAny_field hz rfl (x := .ref TO) rfl (wpAny_bind (wpAny_setField_rec hz (by simp) fun g1 hz1 e1 => ?_)))))
 replace hz1 : IsZip g1 z TI TO .ellipsis := hz1
 refine wpAny_bind ?_
 simp only [List.zipIdx_cons, List.zipIdx_nil, List.forIn_cons, List.forIn_nil]
 refine wpAny_bind (wpAny_bind (wpAny_onRaise ?_))
 show wpAny _ _ (Builtin.SmallTypes.nextOf (.ref i1) >>= _) _ _ _
 rcases hk with hk | ⟨k1, f2, n2, P2, S2, D2, h2, az2, at2, ax2⟩
 ·subst hk
  refine wpAny_bind (D1.done { s with heap := g1 } _ _ (YD D1 h1 e1.extBut az1) fun g2 e e2 he => ?_)
  obtain ⟨oe, hoe, hce⟩ := he
  have hz2 : IsZip g2 z TI TO .ellipsis := e2 _ _ D.i1z.symm hz1
  have hez : e ≠ z := fun q => by subst q; rw [hz2] at hoe; cases hoe; simp at hce
  exact wpAny_setField_rec hz2 (by simp) fun g3 _ e3 => hE g3 e s.toks (fun c o c1 _ c3 _ q => e3.extBut _ _ c1 (e2 _ _ c3 (e1.extBut _ _ c1 q))) ⟨oe, e3.extBut _ _ hez hoe, hce⟩
 ·refine wpAny_bind (D1.item k { s with heap := g1 } _ _ k1 (YD D1 h1 e1.extBut az1) fun x g2 tk1 px s1 e2 => wpAny_pure ?_)
  have to2 : IsPair g2 TO a b := e2.extBut _ _ D.TOi1 (e1.extBut _ _ D.TOz hTO)
  refine wpAny_bind (wpAny_seqItems to2 rfl (wpAny_bind (wpAny_updateSeq_pair to2 fun g3 to3 e3 => ?_)))
  refine wpAny_bind (wpAny_letGo (wpAny_pure ?_))
  refine wpAny_bind (wpAny_bind (wpAny_onRaise ?_))
  show wpAny _ _ (Builtin.SmallTypes.nextOf (.ref i2) >>= _) _ _ _
  have h23 : S2 n2 g3 := YD D2 (YD D2 (YD D2 h2 e1.extBut az2) e2.extBut ax2) e3.extBut at2
  refine wpAny_bind (D2.done { s with heap := g3, toks := tk1 } _ _ h23 fun g4 e e4 he => ?_)
  obtain ⟨oe, hoe, hce⟩ := he
  have hz4 : IsZip g4 z TI TO .ellipsis := e4 _ _ D.i2z.symm (e3.extBut _ _ D.TOz.symm (e2.extBut _ _ D.i1z.symm hz1))
  have hez : e ≠ z := fun q => by subst q; rw [hz4] at hoe; cases hoe; simp at hce
  exact wpAny_setField_rec hz4 (by simp) fun g5 _ e5 => hE g5 e tk1 (fun c o c1 c2 c3 c4 q => e5.extBut _ _ c1 (e4 _ _ c4 (e3.extBut _ _ c2 (e2.extBut _ _ c3 (e1.extBut _ _ c1 q))))) ⟨oe, e5.extBut _ _ hez hoe, hce⟩
theorem Ybt {Q : Option Value -> Shared -> Prop} (D1 : Draws prog w A.in1 i1 f1 n1 P1 S1) (D : ZAp z TI TO i1 i2) (az1 : z ∉ f1)
 (hz : IsZip s.heap z TI TO .none) (hTI : IsPair s.heap TI (.ref i1) (.ref i2)) (hTO : IsPair s.heap TO a b) (h1 : S1 k s.heap)
 (hk : k = n1 \/ k < n1 /\ ∃ f2 n2 P2 S2, Draws prog w A.in1 i2 f2 n2 P2 S2 /\ S2 n2 s.heap /\ z ∉ f2 /\ TO ∉ f2 /\ i1 ∉ f2)
 (hQ : ∀ h' tk, (∀ c o, c ≠ z -> c ≠ TO -> c ≠ i1 -> c ≠ i2 -> s.heap.get? c = some o -> h'.get? c = some o) -> Q none { s with heap := h', toks := tk }) : wpAny (model prog w) A (pyNext (.ref z)) Q E s := by
 have hT : s.TypeIs (.ref z) "zip" := ⟨_, hz, rfl⟩
 unfold pyNext
 refine wpAny_bind (wpAny_attempt (wpAny_callSpecial?_slot (name := Str.ofString "__next__") hT F.slot_zip_next
  (wpAny_call_entry F.slot_zip_next hT F.entry_zip_next (YeR D1 D az1 hz hTI hTO h1 hk fun h' e tk kp he => ?_) (F.args_zip_next_1 _))))
 obtain ⟨o, ho, hc⟩ := he
 exact wpAny_bind (wpAny_isInstance (T := "StopIteration") (b := true) ⟨o, ho, hc⟩ isSubtype_stop (wpAny_pure (hQ h' tk kp)))
end
section
variable {X : Cx} {elts : List Expr} {x1 : Nat} {tp p pos : Pos} {e f : Expr}
end
section
variable {X : Cx} {tg : Expr}
def srcRd (lo : Int) (n : Nat) : Src := ⟨n, fun i _ => some (if i < n then some (.int (lo - i)) else none)⟩
def rangeDR (ps : List P) (st : Stor) : R Src := match ps with
 | [.int i, .int j, .int c] => if small62 i = true /\ small62 j = true /\ c = -1 then .ok (srcRd i (i - j).toNat) st else .bad
 | _ => .bad
def iRangeD (mr : MA) : MI := fun ρ st => (mr ρ st).bind fun ps st1 => rangeDR ps st1
end
@[simp] theorem Yje {ρ : Rho} {st : Stor} {r : MA} : iRangeD r ρ st = (r ρ st).bind fun ps st1 => rangeDR ps st1 := rfl
@[simp] theorem YjO {lo : Int} {n : Nat} : (srcRd lo n).n = n := rfl
@[simp] theorem YjB {lo : Int} {n i : Nat} {st : Stor} : (srcRd lo n).nx i st = some (if i < n then some (.int (lo - i)) else none) := rfl
inductive ZK where | tup (a : Addr) | lst (a : Addr)
def Opn (v : Value) (o : Obj) (C : Heap -> Prop) : Prop := ∀ {prog : Program} {w : World} {A : Around} {Q : Value -> Shared -> Prop} {E : Value -> Shared -> Prop} {s : Shared}, C s.heap -> Q (.ref s.heap.objs.size) { s with heap := s.heap.push o } -> wpAny (model prog w) A (pyIter v) Q E s
abbrev zg1 (h : Heap) (o1 : Obj) : Heap := h.push o1
abbrev zg2 (h : Heap) (o1 o2 : Obj) : Heap := (zg1 h o1).push o2
abbrev zg3 (h : Heap) (o1 o2 : Obj) : Heap := (zg2 h o1 o2).push { cls := .type "tuple", data := .seq #[.ref h.objs.size, .ref (zg1 h o1).objs.size] }
abbrev zg4 (h : Heap) (o1 o2 : Obj) : Heap := (zg3 h o1 o2).push { cls := .type "tuple", data := .seq #[.none, .none] }
abbrev zg5 (h : Heap) (o1 o2 : Obj) : Heap := (zg4 h o1 o2).push { cls := .type "zip", data := .fields #[.none, .bool false, .bool false, .ref (zg2 h o1 o2).objs.size, .ref (zg3 h o1 o2).objs.size] }
theorem YbG (v1 v2 : Value) (o1 o2 : Obj) (C1 C2 : Heap -> Prop) (p1 : Opn v1 o1 C1) (p2 : Opn v2 o2 C2) (c2 : ∀ h p, C2 h -> C2 (h.push p)) :
 Meets (Builtin.«zip.__new__» ⟨[.type "zip", v1, v2], []⟩) (fun _ R s => C1 s.heap /\ C2 s.heap /\ R (.ok (.ret (.ref (zg4 s.heap o1 o2).objs.size))) { s with heap := zg5 s.heap o1 o2 }) :=
 .of_wp fun prog w A R s h => by
  obtain ⟨hp, g, d, tk, os⟩ := s; obtain ⟨hl1, hl2, h⟩ := h
  have hsub := sub_zip
  have hL1 : C1 (Shared.heap ⟨hp, g, d, tk, os⟩) := hl1
  have hL2 : C2 (Shared.heap ⟨hp.push o1, g, d, tk, os⟩) := c2 _ _ hl2
  have P1 : ∀ {A : Around} {Q : Value -> Shared -> Prop} {E : Value -> Shared -> Prop} {s : Shared}, C1 s.heap -> Q (.ref s.heap.objs.size) { s with heap := s.heap.push o1 } -> wpAny (model prog w) A (pyIter v1) Q E s := fun h1 h2 => p1 h1 h2
  have P2 : ∀ {A : Around} {Q : Value -> Shared -> Prop} {E : Value -> Shared -> Prop} {s : Shared}, C2 s.heap -> Q (.ref s.heap.objs.size) { s with heap := s.heap.push o2 } -> wpAny (model prog w) A (pyIter v2) Q E s := fun h1 h2 => p2 h1 h2
  wp_walk using P1 hL1, P2 hL2
  exact ⟨_, rfl, h⟩
theorem Yc8 {prog : Program} {w : World} {A : Around} {E : Value -> Shared -> Prop} {s : Shared} {v1 v2 : Value} {o1 o2 : Obj} {C1 C2 : Heap -> Prop} {Q : Value -> Shared -> Prop} (p1 : Opn v1 o1 C1) (p2 : Opn v2 o2 C2) (c2 : ∀ h p, C2 h -> C2 (h.push p)) (hl1 : C1 s.heap) (hl2 : C2 s.heap) (n1 : o1.isFreed = false) (n2 : o2.isFreed = false)
 (h : ∀ h', IsZip h' (s.heap.objs.size + 4) (s.heap.objs.size + 2) (s.heap.objs.size + 3) .none -> IsPair h' (s.heap.objs.size + 2) (.ref s.heap.objs.size) (.ref (s.heap.objs.size + 1)) -> IsPair h' (s.heap.objs.size + 3) .none .none ->
  h'.get? s.heap.objs.size = some o1 -> h'.get? (s.heap.objs.size + 1) = some o2 -> (∀ c o, s.heap.get? c = some o -> h'.get? c = some o) -> Q (.ref (s.heap.objs.size + 4)) { s with heap := h' }) :
 wpAny (model prog w) A (call (.type "zip") [v1, v2]) Q E s := by
 refine callType_new F.called_zip (by decide) (F.typeCall_zip_2 _ _) (F.newCall_zip_2 _ _) (fun obj => F.args_object_init_3 obj _ _) F.entry_zip_new (YbG v1 v2 o1 o2 C1 C2 p1 p2 c2) ⟨hl1, hl2, ?_⟩
 have z1 : (zg1 s.heap o1).objs.size = s.heap.objs.size + 1 := Heap.size_push ..
 have z2 : (zg2 s.heap o1 o2).objs.size = s.heap.objs.size + 2 := by rw [Heap.size_push, z1]
 have z3 : (zg3 s.heap o1 o2).objs.size = s.heap.objs.size + 3 := by rw [Heap.size_push, z2]
 have z4 : (zg4 s.heap o1 o2).objs.size = s.heap.objs.size + 4 := by rw [Heap.size_push, z3]
 have up : ∀ {h : Heap} {c : Addr} {o p : Obj}, h.get? c = some o -> (h.push p).get? c = some o := fun e => Heap.get?_push_of_some _ e
 have g5 : (zg5 s.heap o1 o2).get? (zg4 s.heap o1 o2).objs.size = some _ := Heap.get?_push_size _ rfl
 have g4 : (zg5 s.heap o1 o2).get? (zg3 s.heap o1 o2).objs.size = some _ := up (Heap.get?_push_size _ rfl)
 have g3 : (zg5 s.heap o1 o2).get? (zg2 s.heap o1 o2).objs.size = some _ := up (up (Heap.get?_push_size _ rfl))
 have g2 : (zg5 s.heap o1 o2).get? (zg1 s.heap o1).objs.size = some o2 := up (up (up (Heap.get?_push_size _ n2)))
 have g1 : (zg5 s.heap o1 o2).get? s.heap.objs.size = some o1 := up (up (up (up (Heap.get?_push_size _ n1))))
 show _ /\ _
 rw [z2, z3, z4] at g5
 rw [z1, z2] at g3
 rw [z3] at g4
 rw [z1] at g2
 rw [z4]
 exact ⟨⟨_, g5, rfl⟩, h _ g5 g3 g4 g1 g2 fun c o q => up (up (up (up (up q))))⟩
section
variable {X : Cx} {elts : List Expr} {x1 : Nat} {tp p pos : Pos} {e f : Expr}
end
section
variable {ρ : Rho} {st : Stor}
end
section
variable {X : Cx}
def pickL {α : Type} (is : List Nat) (xs : List α) : List α := is.filterMap fun i => xs[i]?
def stepIx (n : Nat) (lo hi : Option Int) (c : Int) : List Nat := sliceRange (sliceBounds lo hi (some c) n).1 (sliceBounds lo hi (some c) n).2.1 (sliceBounds lo hi (some c) n).2.2
theorem Yat {xs : List V} {its : List Value} (r : Vals xs its) : ∀ is : List Nat, Vals (pickL is xs) (pickL is its)
 | [] => .nil
 | i :: is => by
  have ih := Yat r is
  unfold pickL at ih ⊢
  cases q : xs[i]? with
  | none =>
   have : its[i]? = none := List.getElem?_eq_none (by rw [<- r.length]; exact List.getElem?_eq_none_iff.mp q)
   rw [List.filterMap_cons_none q, List.filterMap_cons_none this]
   exact ih
  | some x =>
   obtain ⟨u, hu, ru⟩ := r.get q
   rw [List.filterMap_cons_some q, List.filterMap_cons_some hu]
   exact .cons ru ih
theorem Yav {K : PySem.W.Frag} {as : List Addr} {H : Hp} {vs : List V} {xs : List P} (d : Dens K as H vs xs) : ∀ is : List Nat, Dens K as H (pickL is vs) (pickL is xs)
 | [] => .nil
 | i :: is => by
  have ih := Yav d is
  unfold pickL at ih ⊢
  cases q : xs[i]? with
  | none =>
   have : vs[i]? = none := List.getElem?_eq_none (by rw [d.length]; exact List.getElem?_eq_none_iff.mp q)
   rw [List.filterMap_cons_none q, List.filterMap_cons_none this]
   exact ih
  | some x =>
   obtain ⟨u, hu, ru⟩ := d.get q
   rw [List.filterMap_cons_some q, List.filterMap_cons_some hu]
   exact .cons ru ih
theorem Jh (its : List Value) (lo hi : Option Int) (c : Int) : slicePick its.toArray lo hi (some c) = (pickL (stepIx its.length lo hi c) its).toArray := by
 unfold slicePick pickL stepIx
 simp
variable {e es : Expr} {lo hi : Option Expr} {pos p2 : Pos}
end
section
variable {ρ : Rho} {st : Stor}
end
theorem ZZ : entryFor table "dict.update.loop" = some Builtin.«dict.update.loop» := entryFor_of_tree (by kernel_rfl)
theorem YU : plainId "dict.update.loop" = true := by decide +kernel
section
variable {prog : Program} {w : World} {A : Around} {E : Value -> Shared -> Prop} {s : Shared}
end
section
variable {prog : Program} {w : World} {A : Around} {R : Result -> Shared -> Prop} {I : Addr} {fp wr : List Addr} {G : Array GenState -> Array GenState -> Prop} {P : Nat -> Value -> Prop} {St : Nat -> Shared -> Prop}
def storeAll (prs : List (Key × Value)) : List (Key × Value) := prs.foldl (fun acc p => stored acc p.1 p.2) []
theorem Yae (prs : List (Key × Value)) (p : Key × Value) : storeAll (prs ++ [p]) = stored (storeAll prs) p.1 p.2 := by simp [storeAll, List.foldl_append]
theorem YcX (kvs : List (Key × Value)) (k : Key) (v : Value) : (stored kvs k v).length <= kvs.length + 1 := by
 unfold stored
 split
 ·simp
 ·simp
theorem W5 (prs : List (Key × Value)) : (storeAll prs).length <= prs.length := by
 have : ∀ (prs acc : List (Key × Value)), (prs.foldl (fun acc p => stored acc p.1 p.2) acc).length <= acc.length + prs.length := by
  intro prs
  induction prs with
  | nil => intro acc; simp
  | cons p r ih =>
   intro acc
   have h1 := ih (stored acc p.1 p.2)
   have h2 := YcX acc p.1 p.2
   rw [List.foldl_cons, List.length_cons]
   omega
 have h := this prs []
 rw [List.length_nil, Nat.zero_add] at h
 exact h
def PairsAt (prog : Program) (w : World) (P : Nat -> Value -> Prop) (no : List Addr) (prs : List (Key × Value)) (h : Heap) : Prop :=
 ∀ i v, P i v -> ∃ t k key val, v = .ref t /\ t ∉ no /\ IsTup h t #[key, val] /\ prs[i]? = some (k, val) /\ (mixKind prog w).is k key = true
theorem PairsAt.keep {no : List Addr} {prs : List (Key × Value)} {h h' : Heap} (x : PairsAt prog w P no prs h) (k : ∀ b o, b ∉ no -> h.get? b = some o -> h'.get? b = some o) : PairsAt prog w P no prs h' := fun i v hv => by
 obtain ⟨t, kk, key, val, e1, e2, ⟨o, ho, c⟩, e4, e5⟩ := x i v hv
 exact ⟨t, kk, key, val, e1, e2, ⟨o, k t o e2 ho, c⟩, e4, e5⟩
end
section
variable {prog : Program} {w : World} {A : Around} {E : Value -> Shared -> Prop} {s : Shared}
theorem PlainL.keep {h h' : Heap} {a : Addr} {xs : Array Value} (x : PlainL h a xs) (k : ∀ o, h.get? a = some o -> h'.get? a = some o) : PlainL h' a xs :=
 let ⟨o, n, e, c⟩ := x; ⟨o, n, k o e, c⟩
end
def putsK (prs : List (Key × V)) : List (Key × V) := prs.foldl (fun acc q => L2.putK acc q.1 q.2) []
def putsP (prs : List (Key × P)) : List (Key × P) := prs.foldl (fun acc q => putP acc q.1 q.2) []
section
variable {X : Cx} {pins : List (Addr × Obj)} {σ : St} {H : Hp} {s : Shared}
theorem YhA {prs : List (Key × V)} {pv : List (Key × Value)} (r : KV prs pv) : ∀ {a : List (Key × V)} {b : List (Key × Value)}, KV a b -> KV (prs.foldl (fun acc q => L2.putK acc q.1 q.2) a) (pv.foldl (fun acc p => stored acc p.1 p.2) b) := by
 unfold KV at r
 induction r with
 | nil => exact fun h => h
 | @cons p q ps qs r1 r2 ih =>
  intro a b h
  rw [List.foldl_cons, List.foldl_cons]
  refine ih ?_
  rw [<- r1.1]
  exact KV.put h p.1 r1.2
end
section
variable {X : Cx} {e : Expr} {m : MA} {p pos : Pos}
theorem YeV {K : PySem.W.Frag} {as : List Addr} {H : Hp} : ∀ {prs : List (Key × V)} {kvs : List (Key × P)} {a : List (Key × V)} {b : List (Key × P)}, prs.map (·.1) = kvs.map (·.1) -> Dens K as H (prs.map (·.2)) (kvs.map (·.2)) -> a.map (·.1) = b.map (·.1) -> Dens K as H (a.map (·.2)) (b.map (·.2)) ->
 (prs.foldl (fun acc q => L2.putK acc q.1 q.2) a).map (·.1) = (kvs.foldl (fun acc q => putP acc q.1 q.2) b).map (·.1) /\ Dens K as H ((prs.foldl (fun acc q => L2.putK acc q.1 q.2) a).map (·.2)) ((kvs.foldl (fun acc q => putP acc q.1 q.2) b).map (·.2)) := by
 intro prs
 induction prs with
 | nil =>
  intro kvs a b h1 h2 h3 h4
  cases kvs with
  | nil => exact ⟨h3, h4⟩
  | cons c d => simp at h1
 | cons q qs ih =>
  intro kvs a b h1 h2 h3 h4
  cases kvs with
  | nil => simp at h1
  | cons c d =>
   simp only [List.map_cons, List.cons.injEq] at h1
   cases h2 with
   | cons d1 d2 =>
    have := Ydu (k := q.1) d1 h3 h4
    rw [List.foldl_cons, List.foldl_cons]
    rw [h1.1] at this ⊢
    exact ih h1.2 d2 this.1 this.2
end
def sumL (k : Nat) (st : Stor) : Option (P × Stor) := match listAt st k with
 | some xs => (match intsP xs with
  | some ns => okP (.int ns.sum) st
  | none => none)
 | none => none
def sumP : GC := fun ps st => match ps with
 | [.ref k] => sumL k st
 | _ => none
section
variable {X : Cx}
theorem YiU (hc : X.calm = true) : CallR X (.builtin "sum") (rMC X sumP) := cM fun pins s σ H xs us Q as st ps I rv rp d h => by
 match ps, d, h with
 | [], _, h => exact h.elim
 | _ :: _ :: _, _, h => exact (by simp only [sumP] at h; exact h.elim)
 | [.ref k], d, h =>
  obtain ⟨v, rfl, d1⟩ := d.one
  have h' : PostO X as H (sumL k st) Q := h
  unfold sumL at h'
  cases q : listAt st k with
  | none => rw [q] at h'; exact h'.elim
  | some xs =>
   rw [q] at h'
   dsimp only at h'
   cases qi : intsP xs with
   | none => rw [qi] at h'; exact h'.elim
   | some ns =>
    rw [qi] at h'
    dsimp only at h'
    cases d1 with
    | @ref _ a e =>
     obtain ⟨vs, sq, r⟩ := V5 rp e q
     exact Yer hc pins s σ H _ us Q I rv ⟨a, vs, ns, rfl, sq, fun us r' => Ydw r r' qi, h' as H _ Ext.refl rp .int⟩
 | [.non], _, h => exact h.elim
 | [.bl _], _, h => exact h.elim
 | [.int _], _, h => exact h.elim
 | [.str _], _, h => exact h.elim
 | [.tup _], _, h => exact h.elim
end
theorem J9 : typeLookup (.type "zip") "keys" = pure none := by rw [typeLookup_type, builtinLookup_eq_fast]; kernel_rfl
theorem Vy : typeLookup (.type "zip") "__getattr__" = pure none := by rw [typeLookup_type, builtinLookup_eq_fast]; kernel_rfl
theorem ZM : entryFor table "zip.__getattribute__" = some Builtin.«object.__getattribute__» :=
 entryFor_alias (id' := "object.__getattribute__") (by kernel_rfl) (by decide +kernel) (by decide +kernel) (by kernel_rfl)
theorem JQ (a : Addr) (fs : Array Value) (name : Str) (u : Tok) (hmiss : typeLookup (.type "zip") name = pure none) (hname : (["__module__", "__name__", "__qualname__", "__doc__", "__annotations__"] : List Str).contains name = false) (hsz : name.length + 100 <= sizeLine := by size_fits) :
 Meets (Builtin.«object.__getattribute__» ⟨[.ref a, .str name u], []⟩) (fun A R s => s.heap.get? a = some { cls := .type "zip", dict := none, data := .fields fs, slots := #[] } /\ raisesAttr (.ref a) name A R s) :=
 Meets.of_wp fun prog w A R s hs => by
  obtain ⟨hp, g, d, tk, os⟩ := s
  obtain ⟨hx, hs⟩ := hs
  have hT : (⟨hp, g, d, tk, os⟩ : Shared).TypeIs (.ref a) "zip" := ⟨_, hx, rfl⟩
  unfold Builtin.«object.__getattribute__»
  repeat (any_goals (first | assumption | wp_step))
  simp only [hname, Bool.false_eq_true, if_false]
  repeat (any_goals (first | assumption | wp_step))
  exact wpAny_raiseAttrError hs.1 hs.2 (attrMsg_fits (by decide +kernel) hsz)
section
variable {prog : Program} {w : World} {A : Around} {E : Value -> Shared -> Prop} {s : Shared}
theorem Jp {a : Addr} {fs : Array Value} {Q : Option Value -> Shared -> Prop} (hx : s.heap.get? a = some { cls := .type "zip", dict := none, data := .fields fs, slots := #[] }) (hA : A.handled = none)
 (h : ∀ h' tk, (∀ b o, s.heap.get? b = some o -> h'.get? b = some o) -> Q none { s with heap := h', toks := tk }) : wpAny (model prog w) A (getAttr? (.ref a) "keys") Q E s := by
 obtain ⟨hp, g, d, tk, os⟩ := s
 have hT : ∀ tk', (⟨hp, g, d, tk', os⟩ : Shared).TypeIs (.ref a) "zip" := fun _ => ⟨_, hx, rfl⟩
 have f1 := sub_AttributeError
 have f3 := F.slot_zip_getattribute.lookup
 have f4 := F.slot_zip_getattribute.bind (.ref a)
 have f5 := Vy
 unfold getAttr? getAttrBy? getAttrBy
 repeat (any_goals (first | assumption | exact hT _ | ((with_reducible show wpAny _ _ (call (Value.builtin "zip.__getattribute__") _ _) _ _ _); refine call_meets F.slot_zip_getattribute (hT _) ZM (F.args_zip_getattribute_2 _ _) (JQ a fs "keys" _ J9 (by decide +kernel)) ⟨hx, hA, fun h' tk' e hx' => ?_⟩) | wp_step))
 obtain ⟨t', u', he⟩ := hx'.there
 show wpAny _ _ (getattributeRaised _ _ _ _ _ _ _) _ _ _
 unfold getattributeRaised
 repeat (any_goals (first | assumption | wp_step))
 exact h _ _ hx'.keeps
abbrev IsZipB (h : Heap) (z TI TO a : Addr) (f : Bool) : Prop := h.get? z = some { cls := .type "zip", dict := none, data := .fields #[rawInt a, .bool f, .bool false, .ref TI, .ref TO], slots := #[] }
theorem J0 {M : Model} {a : Addr} {Q : Option Obj -> Shared -> Prop} (h : Q (s.heap.get? a) s) : wpAny M A (loadIfAlive a) Q E s := fun _ _ _ => h
theorem busy {z TI TO a : Addr} {f : Bool} {Q : Bool -> Shared -> Prop} (hz : IsZipB s.heap z TI TO a f) (ha : ∃ o, s.heap.get? a = some o) (hQ : ∀ h', IsZipB h' z TI TO a true -> Heap.SameBut z s.heap h' -> Q false { s with heap := h' }) : wpAny (model prog w) A (Builtin.SmallTypes.ownedTupleIsFree (.ref z)) Q E s := by
 unfold Builtin.SmallTypes.ownedTupleIsFree
 refine wpAny_bind (wpAny_field hz rfl (x := rawInt a) rfl ?_)
 show wpAny _ _ (loadIfAlive a >>= _) _ _ _
 obtain ⟨o, ho⟩ := ha
 refine wpAny_bind (J0 ?_)
 rw [ho]
 show wpAny _ _ (field (.ref z) 1 >>= _) _ _ _
 refine wpAny_bind (wpAny_field hz rfl (x := .bool f) rfl ?_)
 cases f with
 | true => exact wpAny_pure (hQ s.heap hz ⟨rfl, fun _ _ => rfl⟩)
 | false =>
  show wpAny _ _ (setField (.ref z) 1 (.bool true) >>= _) _ _ _
  exact wpAny_bind (wpAny_setField_rec hz (by simp) fun g1 hz1 e1 => wpAny_pure (hQ g1 hz1 e1))
end
section
variable {prog : Program} {w : World} {A : Around} {E : Value -> Shared -> Prop} {s : Shared} {z TI TO i1 i2 al : Addr} {fl : Bool} {f1 f2 : List Addr} {n1 n2 k : Nat} {P1 P2 : Nat -> Value -> Prop} {S1 S2 : Nat -> Heap -> Prop}
theorem YdT {Q : Value -> Shared -> Prop} (D1 : Draws prog w A i1 f1 n1 P1 S1) (D2 : Draws prog w A i2 f2 n2 P2 S2) (D : ZAp2 z TI TO i1 i2 f1 f2)
 (hz : IsZipB s.heap z TI TO al fl) (ha : ∃ o, s.heap.get? al = some o) (hTI : IsPair s.heap TI (.ref i1) (.ref i2)) (h1 : S1 k s.heap) (h2 : S2 k s.heap) (k1 : k < n1) (k2 : k < n2)
 (hQ : ∀ x y h' tk, P1 k x -> P2 k y -> IsZipB h' z TI TO al true -> S1 (k + 1) h' -> S2 (k + 1) h' -> IsPair h' s.heap.objs.size x y -> h'.objs.size = s.heap.objs.size + 1 ->
  (∀ c o, c ≠ z -> c ≠ i1 -> c ≠ i2 -> s.heap.get? c = some o -> h'.get? c = some o) -> Q (.ref s.heap.objs.size) { s with heap := h', toks := tk }) :
 wpAny (model prog w) A (Builtin.«zip.__next__» ⟨[.ref z], []⟩) (fun fin s' => ∃ v, fin = .done (.ret v) /\ Q v s') E s := by
 show wpAny _ _ (field (.ref z) 2 >>= _) _ _ _
 refine wpAny_bind (wpAny_field hz rfl (x := .bool false) rfl ?_)
 show wpAny _ _ (field (.ref z) 3 >>= _) _ _ _
 refine wpAny_bind (wpAny_field hz rfl (x := .ref TI) rfl (wpAny_bind (wpAny_seqItems hTI rfl ?_)))
 show wpAny _ _ (Builtin.SmallTypes.ownedTupleIsFree (.ref z) >>= _) _ _ _
 refine wpAny_bind (busy hz ha fun g1 hz1 e1 => ?_)
 simp only [Bool.false_eq_true, if_false]
 rw [<- Array.forIn_toList]
 simp only [List.forIn_cons, List.forIn_nil]
 refine wpAny_bind (wpAny_bind (wpAny_bind (wpAny_holding ?_)))
 show wpAny _ _ (Builtin.SmallTypes.nextOf (.ref i1) >>= _) _ _ _
 refine wpAny_bind (D1.item k { s with heap := g1 } _ _ k1 (YD D1 h1 e1.extBut D.z1) fun x g2 tk1 px s1 e2 => wpAny_pure (wpAny_pure ?_))
 refine wpAny_bind (wpAny_bind (wpAny_holding ?_))
 show wpAny _ _ (Builtin.SmallTypes.nextOf (.ref i2) >>= _) _ _ _
 refine wpAny_bind (D2.item k { s with heap := g2, toks := tk1 } _ _ k2 (YD D2 (YD D2 h2 e1.extBut D.z2) e2.extBut D.x2) fun y g3 tk2 py s2 e3 => wpAny_pure (wpAny_pure ?_))
 refine wpAny_pure ?_
 show wpAny _ _ (newTuple [x, y] >>= _) _ _ _
 refine wpAny_bind (wpAny_newTuple ?_)
 have sz : g3.objs.size = s.heap.objs.size := by rw [e3.1, e2.1, e1.1]
 have hz3 : IsZipB g3 z TI TO al true := e3.extBut _ _ D.ap.i2z.symm (e2.extBut _ _ D.ap.i1z.symm hz1)
 have kp : ∀ c o, c ≠ z -> c ≠ i1 -> c ≠ i2 -> s.heap.get? c = some o -> g3.get? c = some o := fun c o c1 c2 c3 e => e3.extBut _ _ c3 (e2.extBut _ _ c2 (e1.extBut _ _ c1 e))
 have s13 : S1 (k + 1) g3 := YD D1 s1 e3.extBut D.x1
 refine wpAny_pure ⟨_, rfl, ?_⟩
 show Q (.ref g3.objs.size) _
 rw [sz]
 have hp : ∀ c o, g3.get? c = some o -> (g3.push { cls := .type "tuple", data := .seq #[x, y] }).get? c = some o := fun c o e => Heap.get?_push_of_some _ e
 have ht : IsPair (g3.push { cls := .type "tuple", data := .seq #[x, y] }) s.heap.objs.size x y := by rw [<- sz]; exact Heap.get?_push_size _ rfl
 exact hQ x y _ tk2 px py (hp _ _ hz3) (D1.frame _ _ _ s13 fun c _ o e => hp c o e) (D2.frame _ _ _ s2 fun c _ o e => hp c o e) ht (by rw [Heap.size_push, sz]) fun c o c1 c2 c3 e => hp c o (kp c o c1 c2 c3 e)
theorem Ya0 {Q : Option Value -> Shared -> Prop} (D1 : Draws prog w A.in1 i1 f1 n1 P1 S1) (D2 : Draws prog w A.in1 i2 f2 n2 P2 S2) (D : ZAp2 z TI TO i1 i2 f1 f2)
 (hz : IsZipB s.heap z TI TO al fl) (ha : ∃ o, s.heap.get? al = some o) (hTI : IsPair s.heap TI (.ref i1) (.ref i2)) (h1 : S1 k s.heap) (h2 : S2 k s.heap) (k1 : k < n1) (k2 : k < n2)
 (hQ : ∀ x y h' tk, P1 k x -> P2 k y -> IsZipB h' z TI TO al true -> S1 (k + 1) h' -> S2 (k + 1) h' -> IsPair h' s.heap.objs.size x y -> h'.objs.size = s.heap.objs.size + 1 ->
  (∀ c o, c ≠ z -> c ≠ i1 -> c ≠ i2 -> s.heap.get? c = some o -> h'.get? c = some o) -> Q (some (.ref s.heap.objs.size)) { s with heap := h', toks := tk }) :
 wpAny (model prog w) A (pyNext (.ref z)) Q E s := by
 have hT : s.TypeIs (.ref z) "zip" := ⟨_, hz, rfl⟩
 unfold pyNext
 exact wpAny_bind (wpAny_attempt (wpAny_callSpecial?_slot (name := Str.ofString "__next__") hT F.slot_zip_next
  (wpAny_call_entry F.slot_zip_next hT F.entry_zip_next
   (YdT D1 D2 D hz ha hTI h1 h2 k1 k2 fun x y h' tk c1 c2 a1 a2 a3 a4 a5 a6 => wpAny_pure (hQ x y h' tk c1 c2 a1 a2 a3 a4 a5 a6)) (F.args_zip_next_1 _))))
theorem YfV {Q : Fin -> Shared -> Prop} (D1 : Draws prog w A i1 f1 n1 P1 S1) (D : ZAp z TI TO i1 i2) (az1 : z ∉ f1)
 (hz : IsZipB s.heap z TI TO al fl) (ha : ∃ o, s.heap.get? al = some o) (hTI : IsPair s.heap TI (.ref i1) (.ref i2)) (h1 : S1 n1 s.heap)
 (hE : ∀ h' e, (∀ c o, c ≠ z -> c ≠ i1 -> c ≠ i2 -> s.heap.get? c = some o -> h'.get? c = some o) -> (∃ o, h'.get? e = some o /\ o.cls = .type "StopIteration") -> E (.ref e) { s with heap := h' }) :
 wpAny (model prog w) A (Builtin.«zip.__next__» ⟨[.ref z], []⟩) Q E s := by
 show wpAny _ _ (field (.ref z) 2 >>= _) _ _ _
 refine wpAny_bind (wpAny_field hz rfl (x := .bool false) rfl ?_)
 show wpAny _ _ (field (.ref z) 3 >>= _) _ _ _
 refine wpAny_bind (wpAny_field hz rfl (x := .ref TI) rfl (wpAny_bind (wpAny_seqItems hTI rfl ?_)))
 show wpAny _ _ (Builtin.SmallTypes.ownedTupleIsFree (.ref z) >>= _) _ _ _
 refine wpAny_bind (busy hz ha fun g1 hz1 e1 => ?_)
 simp only [Bool.false_eq_true, if_false]
 rw [<- Array.forIn_toList]
 simp only [List.forIn_cons, List.forIn_nil]
 refine wpAny_bind (wpAny_bind (wpAny_bind (wpAny_holding ?_)))
 show wpAny _ _ (Builtin.SmallTypes.nextOf (.ref i1) >>= _) _ _ _
 refine wpAny_bind (D1.done { s with heap := g1 } _ _ (YD D1 h1 e1.extBut az1) fun g2 e e2 he => ?_)
 exact hE g2 e (fun c o c1 c2 c3 q => e2 _ _ c2 (e1.extBut _ _ c1 q)) he
theorem YbW {Q : Option Value -> Shared -> Prop} (D1 : Draws prog w A.in1 i1 f1 n1 P1 S1) (D : ZAp z TI TO i1 i2) (az1 : z ∉ f1)
 (hz : IsZipB s.heap z TI TO al fl) (ha : ∃ o, s.heap.get? al = some o) (hTI : IsPair s.heap TI (.ref i1) (.ref i2)) (h1 : S1 n1 s.heap)
 (hQ : ∀ h', (∀ c o, c ≠ z -> c ≠ i1 -> c ≠ i2 -> s.heap.get? c = some o -> h'.get? c = some o) -> Q none { s with heap := h' }) : wpAny (model prog w) A (pyNext (.ref z)) Q E s := by
 have hT : s.TypeIs (.ref z) "zip" := ⟨_, hz, rfl⟩
 unfold pyNext
 refine wpAny_bind (wpAny_attempt (wpAny_callSpecial?_slot (name := Str.ofString "__next__") hT F.slot_zip_next
  (wpAny_call_entry F.slot_zip_next hT F.entry_zip_next (YfV D1 D az1 hz ha hTI h1 fun h' e kp he => ?_) (F.args_zip_next_1 _))))
 obtain ⟨o, ho, hc⟩ := he
 exact wpAny_bind (wpAny_isInstance (T := "StopIteration") (b := true) ⟨o, ho, hc⟩ isSubtype_stop (wpAny_pure (hQ h' kp)))
def ZSt (z TI TO i1 i2 : Addr) (lo : Addr) (S1 S2 : Nat -> Heap -> Prop) (i : Nat) (h : Heap) : Prop :=
 (IsZip h z TI TO .none \/ ∃ a f, IsZipB h z TI TO a f /\ lo <= a /\ ∃ o, h.get? a = some o) /\ IsPair h TI (.ref i1) (.ref i2) /\ (∃ x y, IsPair h TO x y) /\ S1 i h /\ S2 i h
theorem YeL {Q : Option Value -> Shared -> Prop} {lo : Addr} (D1 : Draws prog w A.in1 i1 f1 n1 P1 S1) (D2 : Draws prog w A.in1 i2 f2 n2 P2 S2) (D : ZAp2 z TI TO i1 i2 f1 f2) (hlo : lo <= s.heap.objs.size) (lz : z < lo) (l1 : i1 < lo) (l2 : i2 < lo)
 (st : ZSt z TI TO i1 i2 lo S1 S2 k s.heap) (k1 : k < n1) (k2 : k < n2)
 (hQ : ∀ x y h' tk, P1 k x -> P2 k y -> ZSt z TI TO i1 i2 lo S1 S2 (k + 1) h' -> IsPair h' s.heap.objs.size x y -> h'.objs.size = s.heap.objs.size + 1 ->
  (∀ c o, c ≠ z -> c ≠ TO -> c ≠ i1 -> c ≠ i2 -> s.heap.get? c = some o -> h'.get? c = some o) -> Q (some (.ref s.heap.objs.size)) { s with heap := h', toks := tk }) :
 wpAny (model prog w) A (pyNext (.ref z)) Q E s := by
 obtain ⟨hz, hTI, ⟨u, v, hTO⟩, h1, h2⟩ := st
 rcases hz with hz | ⟨a, f, hz, la, ha⟩
 ·refine Ybh D1 D2 D hz hTI hTO h1 h2 k1 k2 fun x y h' tk p1 p2 b1 b2 b3 b4 b5 b6 kp => hQ x y h' tk p1 p2 ⟨.inr ⟨s.heap.objs.size, false, b1, hlo, _, b5⟩, kp _ _ D.ap.TIz D.ap.TITO D.ap.TIi1 D.ap.TIi2 hTI, ⟨_, _, b2⟩, b3, b4⟩ b5 b6 kp
 ·obtain ⟨o, ho⟩ := ha
  refine Ya0 D1 D2 D hz ⟨o, ho⟩ hTI h1 h2 k1 k2 fun x y h' tk p1 p2 b1 b3 b4 b5 b6 kp => hQ x y h' tk p1 p2 ⟨.inr ⟨a, true, b1, la, ?_⟩, kp _ _ D.ap.TIz D.ap.TIi1 D.ap.TIi2 hTI, ⟨_, _, kp _ _ D.ap.TOz D.ap.TOi1 D.ap.TOi2 hTO⟩, b3, b4⟩ b5 b6 fun c o c1 _ c3 c4 e => kp c o c1 c3 c4 e
  exact ⟨o, kp a o (Nat.ne_of_gt (Nat.lt_of_lt_of_le lz la)) (Nat.ne_of_gt (Nat.lt_of_lt_of_le l1 la)) (Nat.ne_of_gt (Nat.lt_of_lt_of_le l2 la)) ho⟩
theorem YgF {Q : Option Value -> Shared -> Prop} {lo : Addr} (D1 : Draws prog w A.in1 i1 f1 n1 P1 S1) (D : ZAp z TI TO i1 i2) (az1 : z ∉ f1) (st : ZSt z TI TO i1 i2 lo S1 S2 n1 s.heap)
 (hQ : ∀ h' tk, (∀ c o, c ≠ z -> c ≠ TO -> c ≠ i1 -> c ≠ i2 -> s.heap.get? c = some o -> h'.get? c = some o) -> Q none { s with heap := h', toks := tk }) : wpAny (model prog w) A (pyNext (.ref z)) Q E s := by
 obtain ⟨hz, hTI, ⟨u, v, hTO⟩, h1, h2⟩ := st
 rcases hz with hz | ⟨a, f, hz, la, ha⟩
 ·exact Ybt D1 D az1 hz hTI hTO h1 (.inl rfl) hQ
 ·exact YbW D1 D az1 hz ha hTI h1 fun h' kp => hQ h' s.toks fun c o c1 _ c3 c4 e => kp c o c1 c3 c4 e
theorem ZSt.keep {lo : Addr} {h h' : Heap} {d : Addr} {i : Nat} (D1 : Draws prog w A i1 f1 n1 P1 S1) (D2 : Draws prog w A i2 f2 n2 P2 S2) (st : ZSt z TI TO i1 i2 lo S1 S2 i h) (e : ∀ b o, b ≠ d -> h.get? b = some o -> h'.get? b = some o) (dz : z ≠ d) (dTI : TI ≠ d) (dTO : TO ≠ d) (d1 : d ∉ f1) (d2 : d ∉ f2) (dl : d < lo) : ZSt z TI TO i1 i2 lo S1 S2 i h' := by
 obtain ⟨hz, hTI, ⟨u, v, hTO⟩, h1, h2⟩ := st
 refine ⟨?_, e _ _ dTI hTI, ⟨u, v, e _ _ dTO hTO⟩, D1.frame _ _ _ h1 fun b hb o q => e b o (fun z => d1 (z ▸ hb)) q, D2.frame _ _ _ h2 fun b hb o q => e b o (fun z => d2 (z ▸ hb)) q⟩
 rcases hz with hz | ⟨a, f, hz, la, o, ho⟩
 ·exact .inl (e _ _ dz hz)
 ·exact .inr ⟨a, f, e _ _ dz hz, la, o, e a o (Nat.ne_of_gt (Nat.lt_of_lt_of_le dl la)) ho⟩
end
section
variable {prog : Program} {w : World} {A : Around} {R : Result -> Shared -> Prop} {z TI TO i1 i2 : Addr} {f1 f2 : List Addr} {P1 P2 : Nat -> Value -> Prop} {S1 S2 : Nat -> Heap -> Prop}
theorem JP {prs : List (Key × Value)} (D1 : Draws prog w A.in1.in1 i1 f1 prs.length P1 S1) (D2 : Draws prog w A.in1.in1 i2 f2 prs.length P2 S2) (D : ZAp2 z TI TO i1 i2 f1 f2) (d lo : Addr) (dz : z ≠ d) (dTI : TI ≠ d) (dTO : TO ≠ d) (di1 : i1 ≠ d) (di2 : i2 ≠ d) (d1 : d ∉ f1) (d2 : d ∉ f2) (dl : d < lo) (lz : z < lo) (l1 : i1 < lo) (l2 : i2 < lo)
 (hp : ∀ i x y, P1 i x -> P2 i y -> ∃ k, prs[i]? = some (k, y) /\ (mixKind prog w).is k x = true) (hb : prs.length <= sizeLine) :
 ∀ (k i : Nat) (s : Shared) (c : Int) (u : Tok), prs.length - i = k -> i <= prs.length -> lo <= s.heap.objs.size -> ZSt z TI TO i1 i2 lo S1 S2 i s.heap -> s.heap.DictOf (mixKind prog w) d (storeAll (prs.take i)) ->
  (∀ h' tk, h'.DictOf (mixKind prog w) d (storeAll prs) -> (∀ b o, b ≠ d -> b ≠ z -> b ≠ TO -> b ≠ i1 -> b ≠ i2 -> s.heap.get? b = some o -> h'.get? b = some o) -> R (.ok (.ret .none)) { s with heap := h', toks := tk }) -> codeAny (model prog w) A (.builtin "dict.update.loop" ⟨[.ref d, .ref z, .int c u, .none], []⟩) R s := by
 intro k
 induction k with
 | zero =>
  intro i s c u hk hi hlo hst D0 hR
  have e : i = prs.length := by omega
  subst e
  rw [List.take_length] at D0
  refine codeAny_builtin ZZ ?_
  rw [Around.under_plainId YU _]
  show wpAny _ A.in1 (pyNext (.ref z) >>= _) _ _ s
  refine wpAny_bind (YgF D1 D.ap D.z1 hst fun h' tk kp => ?_)
  show wpAny _ A.in1 (Builtin.Dict.addKeywords d [] >>= _) _ _ _
  refine wpAny_bind (wpAny_pure ?_)
  show wpAny _ A.in1 (ret Value.none) _ _ _
  obtain ⟨o, es, ep, ho, r⟩ := D0
  exact wpAny_pure (hR h' tk ⟨o, es, ep, kp d o dz.symm dTO.symm di1.symm di2.symm ho, r⟩ fun b o b0 b1 b2 b3 b4 e => kp b o b1 b2 b3 b4 e)
 | succ k ih =>
  intro i s c u hk hi hlo hst D0 hR
  have hlt : i < prs.length := by omega
  refine codeAny_builtin ZZ ?_
  rw [Around.under_plainId YU _]
  show wpAny _ A.in1 (pyNext (.ref z) >>= _) _ _ s
  refine wpAny_bind (YeL D1 D2 D hlo lz l1 l2 hst hlt hlt fun x y h' tk p1 p2 st' ht hsz kp => ?_)
  obtain ⟨kk, hpr, hkey⟩ := hp i x y p1 p2
  have D' : h'.DictOf (mixKind prog w) d (storeAll (prs.take i)) := by
   obtain ⟨o, es, ep, ho, r⟩ := D0
   exact ⟨o, es, ep, kp d o dz.symm dTO.symm di1.symm di2.symm ho, r⟩
  have hT : Shared.TypeIs { s with heap := h', toks := tk } (.ref s.heap.objs.size) "tuple" := ⟨_, ht, rfl⟩
  show wpAny _ A.in1 (holding [Value.ref s.heap.objs.size] _ >>= _) _ _ _
  refine wpAny_bind (wpAny_holding ?_)
  refine wpAny_bind (wpAny_tryCatch ?_)
  unfold Builtin.Dict.pairItems
  refine wpAny_bind (wpAny_typeOf hT ?_)
  rw [if_pos (by decide)]
  refine wpAny_bind (wpAny_seqItems ht rfl ?_)
  refine wpAny_pure ?_
  show wpAny _ A.in1 (holding [x, y] (dictSet d x y)) _ _ _
  have room : (storeAll (prs.take i)).length <= sizeLine := by
   have := W5 (prs.take i)
   rw [List.length_take] at this
   omega
  refine wpAny_holding (wpAny_dictSet_pairs hkey D' (fun h2 D2' sb => ?_) room)
  have D3 : h2.DictOf (mixKind prog w) d (storeAll (prs.take (i + 1))) := by
   rw [List.take_add_one, hpr]
   simp only [Option.toList_some]
   rw [Yae]
   exact D2'
  have sk : ∀ b o, b ≠ d -> h'.get? b = some o -> h2.get? b = some o := fun b o hb e => by rw [sb.2 b hb]; exact e
  refine wpAny_pure ⟨plainId_quiet YU _, ih (i + 1) _ _ _ (by omega) hlt ?_ (ZSt.keep D1 D2 st' sk dz dTI dTO d1 d2 dl) D3 fun h3 tk3 D4 k3 => ?_⟩
  ·show lo <= h2.objs.size
   rw [sb.1, hsz]
   exact Nat.le_succ_of_le hlo
  ·exact hR h3 tk3 D4 fun b o b0 b1 b2 b3 b4 e => k3 b o b0 b1 b2 b3 b4 (sk b o b0 (kp b o b1 b2 b3 b4 e))
end
section
variable {prog : Program} {w : World} {A : Around} {E : Value -> Shared -> Prop} {s : Shared}
theorem YeA (hh : A.handled = none) (it : Addr) (x : Str) (t : Tok) : Draws prog w A it [it] x.cps.size (fun i v => ∃ c u, x.cps[i]? = some c /\ v = .str ⟨#[c]⟩ u) (fun i h => h.IsStrIter it (strIterType x) x t i) := by
 unfold strIterType
 split
 ·exact Draws.strAscii hh it x t
 ·exact Draws.strWide hh it x t
theorem Ya3 {z TI TO i1 i2 a : Addr} {zs : Str} {t : Tok} {its : Array Value} {prs : List (Key × Value)} {Q : Value -> Shared -> Prop} (hh : A.handled = none) (D : ZAp z TI TO i1 i2) (hz : IsZip s.heap z TI TO .none) (hTI : IsPair s.heap TI (.ref i1) (.ref i2)) (hTO : IsPair s.heap TO .none .none)
 (h1 : s.heap.IsStrIter i1 (strIterType zs) zs t 0) (h2 : s.heap.IsTupleIter i2 a 0) (ha : s.heap.IsTuple a its) (az : z ≠ a) (aTO : TO ≠ a) (a1 : i1 ≠ a) (a2 : a ≠ i2) (hn1 : zs.cps.size = prs.length) (hn2 : its.size = prs.length)
 (hp : ∀ (i : Nat) c y, zs.cps[i]? = some c -> its[i]? = some y -> prs[i]? = some (.inr ⟨#[c]⟩, y)) (hb : prs.length <= sizeLine)
 (h : ∀ h' tk, h'.DictOf (mixKind prog w) s.heap.objs.size (storeAll prs) -> (∀ b o, b ≠ z -> b ≠ TO -> b ≠ i1 -> b ≠ i2 -> s.heap.get? b = some o -> h'.get? b = some o) -> Q (.ref s.heap.objs.size) { s with heap := h', toks := tk }) :
 wpAny (model prog w) A (call (.type "dict") [.ref z]) Q E s := by
 refine callType_codes (Q₁ := fun obj s₁ => obj = .ref s.heap.objs.size /\ s₁ = { s with heap := s.heap.push { cls := .type "dict", data := .dict #[] } }) F.kt_called_dict (F.kt_typeCall_dict_1 _) F.entry_dict_init (kt_code_dict_new _ ⟨rfl, rfl⟩) ?_
 rintro obj s₁ ⟨rfl, rfl⟩
 have hnew : (s.heap.push { cls := .type "dict", data := .dict #[] }).DictOf (mixKind prog w) s.heap.objs.size [] := Heap.DictOf.new s.heap
 have up : ∀ b o, s.heap.get? b = some o -> (s.heap.push { cls := .type "dict", data := .dict #[] }).get? b = some o := fun b o e => Heap.get?_push_of_some _ e
 have hzT : Shared.TypeIs { s with heap := s.heap.push { cls := .type "dict", data := .dict #[] } } (.ref z) "zip" := ⟨_, up _ _ hz, rfl⟩
 have lz : z < s.heap.objs.size := Heap.lt_size hz
 have lTI : TI < s.heap.objs.size := Heap.lt_size hTI
 have lTO : TO < s.heap.objs.size := Heap.lt_size hTO
 have l1 : i1 < s.heap.objs.size := by obtain ⟨o, e, _⟩ := h1; exact Heap.lt_size e
 have l2 : i2 < s.heap.objs.size := by obtain ⟨o, e, _⟩ := h2; exact Heap.lt_size e
 have la : a < s.heap.objs.size := by obtain ⟨o, e, _⟩ := ha; exact Heap.lt_size e
 refine ⟨hnew.typeIs, F.args_dict_init_2 _ _, ?_⟩
 unfold Builtin.«dict.__init__»
 refine wpAny_bind ?_
 unfold Builtin.Dict.selfAndRest
 refine wpAny_bind (wpAny_notOrdered_dict hnew.typeIs ?_)
 show wpAny _ _ (pure (s.heap.objs.size, [Value.ref z])) _ _ _
 refine wpAny_pure ?_
 show wpAny _ _ (Builtin.Dict.updateFrom "dict.__init__" s.heap.objs.size (.ref z) [] .none) _ _ _
 unfold Builtin.Dict.updateFrom
 refine wpAny_bind (wpAny_typeOf hzT ?_)
 rw [if_pos (by decide)]
 refine wpAny_bind (Jp (up _ _ hz) (by simp [hh]) fun hA tkA kA => ?_)
 rw [if_pos (show (none : Option Value).isNone = true from rfl)]
 refine wpAny_bind (wpAny_rule ?_)
 have up2 : ∀ b o, s.heap.get? b = some o -> hA.get? b = some o := fun b o e => kA b o (up b o e)
 refine wpAny_bind (wpAny_pyIter_zip (up2 _ _ hz) ?_)
 have hd1 : hA.DictOf (mixKind prog w) s.heap.objs.size [] := by
  obtain ⟨o, es, ep, ho, r⟩ := hnew
  exact ⟨o, es, ep, kA _ _ ho, r⟩
 have sz : s.heap.objs.size < hA.objs.size := by
  obtain ⟨o, es, ep, ho, r⟩ := hd1
  exact Heap.lt_size ho
 have G1 := YeA (prog := prog) (w := w) (A := A.in1.in1.in1) (by simp [hh]) i1 zs t
 rw [hn1] at G1
 have G2 := Ycr (prog := prog) (w := w) (A := A.in1.in1.in1) (by simp [hh]) i2 a a2 its
 rw [hn2] at G2
 refine wpAny_pure ⟨plainId_quiet YU _, JP (A := A.in1) G1 G2 ⟨D, ?_, ?_, ?_, ?_, ?_, ?_⟩ s.heap.objs.size (s.heap.objs.size + 1) (Nat.ne_of_lt lz) (Nat.ne_of_lt lTI) (Nat.ne_of_lt lTO) (Nat.ne_of_lt l1) (Nat.ne_of_lt l2) ?_ ?_ (Nat.lt_succ_self _) (Nat.lt_succ_of_lt lz) (Nat.lt_succ_of_lt l1) (Nat.lt_succ_of_lt l2) ?_ hb (prs.length - 0) 0 _ _ _ (by omega) (Nat.zero_le _) sz ?_ hd1 ?_⟩
 ·simpa using D.i1z.symm
 ·simpa using D.TOi1
 ·simpa using D.i12.symm
 ·simp only [List.mem_cons, List.not_mem_nil, or_false, not_or]; exact ⟨D.i2z.symm, az⟩
 ·simp only [List.mem_cons, List.not_mem_nil, or_false, not_or]; exact ⟨D.TOi2, aTO⟩
 ·simp only [List.mem_cons, List.not_mem_nil, or_false, not_or]; exact ⟨D.i12, a1⟩
 ·simpa using Nat.ne_of_gt l1
 ·simp only [List.mem_cons, List.not_mem_nil, or_false, not_or]; exact ⟨Nat.ne_of_gt l2, Nat.ne_of_gt la⟩
 ·rintro i x y ⟨c, u, hc, rfl⟩ hy
  refine ⟨_, hp i c y hc hy, ?_⟩
  show Value.isStrOf ⟨#[c]⟩ (.str ⟨#[c]⟩ u) = true
  simp [Value.isStrOf]
 ·refine ⟨.inl (up2 _ _ hz), up2 _ _ hTI, ⟨_, _, up2 _ _ hTO⟩, ?_, ?_⟩
  ·obtain ⟨o, e, r⟩ := h1; exact ⟨o, up2 _ _ e, r⟩
  ·obtain ⟨o, e, r⟩ := h2
   obtain ⟨o', e', r'⟩ := ha
   exact ⟨⟨o, up2 _ _ e, r⟩, ⟨o', up2 _ _ e', r'⟩⟩
 ·intro h3 tk3 D3 k3
  exact ⟨rfl, h h3 tk3 D3 fun b o b1 b2 b3 b4 e => k3 b o (Nat.ne_of_lt (Heap.lt_size e)) b1 b2 b3 b4 (up2 b o e)⟩
end
def keyz {α : Type} (cs : List Nat) (ws : List α) : List (Key × α) := (cs.zip ws).map fun q => (.inr ⟨#[q.1]⟩, q.2)
theorem W6 {α : Type} {cs : List Nat} {ws : List α} (h : cs.length = ws.length) : (keyz cs ws).length = ws.length := by unfold keyz; rw [List.length_map, List.length_zip]; omega
theorem Yhy {α : Type} {cs : List Nat} {ws : List α} {i c : Nat} {y : α} (h1 : cs[i]? = some c) (h2 : ws[i]? = some y) : (keyz cs ws)[i]? = some (.inr ⟨#[c]⟩, y) := by
 unfold keyz
 rw [List.getElem?_map, List.zip, List.getElem?_zipWith, h1, h2]
 rfl
theorem Yda : ∀ {cs : List Nat} {ws : List V} {its : List Value}, Vals ws its -> KV (keyz cs ws) (keyz cs its)
 | [], _, _, _ => .nil
 | _ :: _, _, _, .nil => .nil
 | c :: cs, _, _, .cons r t => .cons ⟨rfl, r⟩ (Yda t)
section
variable {X : Cx} {e f : Expr} {p p2 pos pos2 : Pos}
theorem Yc7 {ta : TA} (hc : X.calm = true) (hgd : Gl X "dict") (hmd : X.mg "dict" = none) (hvd : bootBuiltins "dict" = some (.type "dict")) (hgz : Gl X "zip") (hmz : X.mg "zip" = none) (hvz : bootBuiltins "zip" = some (.type "zip")) (ha : PA X [e, f] ta)
 (hs1 : starEach [.Call (.Name "zip" p2) [e, f] [] pos2] X.env = (false, eval (.Call (.Name "zip" p2) [e, f] [] pos2) X.env) :: starEach [] X.env := by rfl) (hs : starEach [e, f] X.env = [(false, eval e X.env), (false, eval f X.env)] := by rfl) (hs2 : starEach [f] X.env = [(false, eval f X.env)] := by rfl) :
 PE X (.Call (.Name "dict" p) [.Call (.Name "zip" p2) [e, f] [] pos2] [] pos) (fun σ H Q => ta σ H fun vs H1 => ∃ zs tz a ws, vs = [.str zs tz, .ref a] /\ SqT X.K H1 a ws /\ zs.cps.size = ws.length /\ ∀ p, H1 p = none -> Q (.ref p) (upd H1 p (.dK (putsK (keyz zs.cps.toList ws))))) := by
 intro pins s σ H Q I h
 refine wpAny_Call_Name_kw (ZT I hgd hmd hvd ?_ (by decide) (by decide))
 refine PyProof.Rows.callWith_type1 ?_ hs1 rfl
 rw [hs1]
 show wpAny _ _ (spliced ((false, eval _ X.env) :: [])) _ _ s
 refine Calls.spliced_cons ?_
 refine wpAny_Call_Name_kw (ZT I hgz hmz hvz ?_ (by decide) (by decide))
 refine PyProof.Rows.callWith_type1 (thn (ha pos2 pins s σ H _ I h) fun us s1 ⟨vs, H1, I1, r1, q1⟩ => ?_) (by rw [hs, hs2]) (by rw [hs2]; rfl)
 obtain ⟨zs, tz, a, ws, rfl, sq, hlen, q⟩ := q1
 obtain ⟨u, v, rfl, ru, rv⟩ := r1.two
 obtain ⟨t, rfl⟩ : ∃ t, u = .str zs t := ⟨_, ru⟩
 cases rv
 obtain ⟨its, rx, px, zx⟩ := I1.tuple sq
 have hl := rx.length
 refine Yc8 (o1 := { cls := .type (strIterType zs), data := .fields #[.str zs t, .int 0 0] }) (o2 := { cls := .type "tuple_iterator", data := .fields #[.ref a, .int 0 0] }) (C1 := fun _ => True) (C2 := fun h => h.IsTuple a its.toArray) (fun {_ _ _ _ _ _} _ hQ => by
  cases ha : zs.cps.all (· < 128)
  ·exact wpAny_pyIter_wide ha (by simpa [strIterType, ha] using hQ)
  ·exact wpAny_pyIter_ascii ha (by simpa [strIterType, ha] using hQ)) (fun hc hQ => wpAny_pyIter_tuple hc hQ) (fun h p q => Heap.IsTuple.push q _) trivial px rfl rfl fun h' b1 b2 b3 b4 b5 hk => ?_
 refine Calls.spliced_nil ?_
 have la : a < s1.heap.objs.size := by obtain ⟨o, e, _⟩ := px; exact Heap.lt_size e
 have ap : ZAp (s1.heap.objs.size + 4) (s1.heap.objs.size + 2) (s1.heap.objs.size + 3) s1.heap.objs.size (s1.heap.objs.size + 1) := by
  constructor <;> (intro z; have z' : (_ : Nat) = _ := z; omega)
 have pa' : h'.IsTuple a its.toArray := by obtain ⟨o, e, r⟩ := px; exact ⟨o, hk _ _ e, r⟩
 have hcs : zs.cps.toList.length = its.length := by simp; omega
 have nla : ∀ k, s1.heap.objs.size + k ≠ a := fun k => Nat.ne_of_gt (Nat.lt_of_lt_of_le la (Nat.le_add_right _ k))
 refine Tk.wpAny_le (Ya3 (s := { s1 with heap := h' }) (t := t) (prs := keyz zs.cps.toList its) (I1.ok.hd hc) ap b1 b2 b3 ⟨_, b4, rfl, rfl⟩ ⟨_, b5, rfl, rfl⟩ pa' (nla 4) (nla 3) (nla 0) (nla 1).symm (by rw [W6 hcs]; simpa using hcs) (by rw [W6 hcs]; simp) (fun i c y h1 h2 => Yhy (by simpa using h1) (by simpa using h2)) (by rw [W6 hcs]; omega) fun h2 tk D2 k2 le => ?_)
 have rel : KV (putsK (keyz zs.cps.toList ws)) (storeAll (keyz zs.cps.toList its)) := YhA (Yda rx) .nil
 have hle : s1.heap.objs.size <= h'.objs.size := Nat.le_of_lt (Nat.lt_of_le_of_lt (Nat.le_add_right _ 4) (Heap.lt_size b1))
 refine ⟨.ref _, _, I1.laid (a := h'.objs.size) (o := .dK (putsK (keyz zs.cps.toList ws))) (t' := tk) (ht := le) (fun b o hq => ?_) hle (Yfj ?_ (beq_eq_false_iff_ne.mpr (Ne.symm (Nat.ne_of_lt (Nat.lt_of_lt_of_le I1.big hle)))) rel D2), rfl, q _ (I1.hok.fresh hle)⟩
 ·have lb := Heap.lt_size hq
  exact k2 b o (Nat.ne_of_lt (Nat.lt_of_lt_of_le lb (Nat.le_add_right _ 4))) (Nat.ne_of_lt (Nat.lt_of_lt_of_le lb (Nat.le_add_right _ 3))) (Nat.ne_of_lt lb) (Nat.ne_of_lt (Nat.lt_of_lt_of_le lb (Nat.le_add_right _ 1))) (hk b o hq)
 ·rw [rel.length]
  refine Nat.le_trans (W5 _) ?_
  rw [W6 hcs]
  omega
end
def dictZR (ps : List P) (st : Stor) : R P := match ps with
 | [.str z, .tup qs] => if z.cps.size = qs.length then .ok (.ref st.length) (st ++ [.dct (putsP (keyz z.cps.toList qs))]) else .bad
 | _ => .bad
def eDictZ (m : MA) : ME := fun ρ st => (m ρ st).bind dictZR
section
variable {X : Cx} {e f : Expr} {p p2 pos pos2 : Pos} {m : MA}
theorem Yao {α β : Type} : ∀ {cs : List Nat} {ws : List α} {qs : List β}, ws.length = qs.length -> (keyz cs ws).map (·.1) = (keyz cs qs).map (·.1)
 | [], _, _, _ => rfl
 | _ :: _, [], [], _ => rfl
 | c :: cs, _ :: ws, _ :: qs, h => by
  show _ :: _ = _ :: _
  exact congrArg _ (Yao (cs := cs) (Nat.succ.inj h))
theorem YbN {K : PySem.W.Frag} {as : List Addr} {H : Hp} : ∀ {cs : List Nat} {ws : List V} {qs : List P}, Dens K as H ws qs -> Dens K as H ((keyz cs ws).map (·.2)) ((keyz cs qs).map (·.2))
 | [], _, _, _ => .nil
 | _ :: _, _, _, .nil => .nil
 | c :: cs, _, _, .cons r t => .cons r (YbN (cs := cs) t)
theorem YeM (hc : X.calm = true) (hgd : Gl X "dict") (hmd : X.mg "dict" = none) (hvd : bootBuiltins "dict" = some (.type "dict")) (hgz : Gl X "zip") (hmz : X.mg "zip" = none) (hvz : bootBuiltins "zip" = some (.type "zip")) (ha : JA X [e, f] m)
 (hs1 : starEach [.Call (.Name "zip" p2) [e, f] [] pos2] X.env = (false, eval (.Call (.Name "zip" p2) [e, f] [] pos2) X.env) :: starEach [] X.env := by rfl) (hs : starEach [e, f] X.env = [(false, eval e X.env), (false, eval f X.env)] := by rfl) (hs2 : starEach [f] X.env = [(false, eval f X.env)] := by rfl) :
 JE X (.Call (.Name "dict" p) [.Call (.Name "zip" p2) [e, f] [] pos2] [] pos) (eDictZ m) :=
 PE.imp (Yc7 hc hgd hmd hvd hgz hmz hvz ha hs1 hs hs2) fun σ H Q ⟨as, ρ, st, en, rp, h⟩ => ⟨as, ρ, st, en, rp, Post.bindA h fun ps st1 as1 H1 vs x rp1 d h1 => by
  match ps, d, h1 with
  | [.str z, .tup qs], d, h1 =>
   obtain ⟨v, u, rfl, d1, d2⟩ := d.two
   cases d1
   cases d2 with
   | @tup a ws _ sq dd =>
    have h2 : Post X as1 H1 ρ (if z.cps.size = qs.length then .ok (.ref st1.length) (st1 ++ [.dct (putsP (keyz z.cps.toList qs))]) else .bad) Q := h1
    by_cases hl : z.cps.size = qs.length
    ·rw [if_pos hl] at h2
     have k4 := YeV (a := []) (b := []) (Yao (cs := z.cps.toList) dd.length) (YbN (cs := z.cps.toList) dd) rfl .nil
     exact ⟨z, _, a, ws, rfl, sq, by rw [dd.length]; exact hl, fun p hp => h2 (as1 ++ [p]) _ _ (Ext.new hp) (rp1.new hp ⟨_, Yh, k4.1, k4.2.ext (Ext.new hp)⟩) (.ref (by rw [<- rp1.len]; exact Jb))⟩
    ·rw [if_neg hl] at h2; exact h2.elim
  | [], _, h1 => exact h1.elim
  | [_], _, h1 => exact (by simp only [dictZR] at h1; exact h1.elim)
  | _ :: _ :: _ :: _, _, h1 => exact (by simp only [dictZR] at h1; exact h1.elim)
  | [.non, _], _, h1 => exact h1.elim
  | [.bl _, _], _, h1 => exact h1.elim
  | [.int _, _], _, h1 => exact h1.elim
  | [.tup _, _], _, h1 => exact h1.elim
  | [.ref _, _], _, h1 => exact h1.elim
  | [.str _, .non], _, h1 => exact h1.elim
  | [.str _, .bl _], _, h1 => exact h1.elim
  | [.str _, .int _], _, h1 => exact h1.elim
  | [.str _, .str _], _, h1 => exact h1.elim
  | [.str _, .ref _], _, h1 => exact h1.elim⟩
end
def revS (z : Str) : Str := ⟨((Builtin.Str.strSliceIndices none none (-1) z.length).filterMap (z.cps[·]?)).toArray⟩
def eRevX (me : ME) : ME := fun ρ st => (me ρ st).bind fun p st1 => match p with
 | .tup xs => .ok (.tup xs.reverse) st1
 | .str z => if (revS z).length <= cap then .ok (.str (revS z)) st1 else .bad
 | .ref k => (match listAt st1 k with
  | some xs => ofO (newL (pickL (stepIx xs.length none none (-1)) xs) st1)
  | none => .bad)
 | _ => .bad
section
variable {X : Cx} {e : Expr} {pos p2 : Pos} {me : ME}
theorem Ydj {j : Nat} {p3 p4 : Pos} (he : JE X e me) : JE X (.Subscript e (.Slice none none (some (.UnaryOp .USub (.Constant (.int 1) j p3) p4)) p2) pos) (eRevX me) := by
 intro pins s σ H Q I ⟨as, ρ, st, en, rp, h⟩
 refine Subscript_ (thn (he pins s σ H (fun x H1 => (∃ a vs, x = .ref a /\ SqT X.K H1 a vs /\ ∀ p, H1 p = none -> Q (.ref p) (upd H1 p (.tup vs.reverse))) \/ (∃ z tz, x = .str z tz /\ (revS z).length <= cap /\ MkT (revS z) Q H1) \/ ∃ a vs, x = .ref a /\ SqL X.K H1 a vs /\ (pickL (stepIx vs.length none none (-1)) vs).length <= sizeLine /\ ∀ p, H1 p = none -> Q (.ref p) (upd H1 p (.lst (pickL (stepIx vs.length none none (-1)) vs)))) I ⟨as, ρ, st, en, rp, Post.bindE h fun p st1 as1 H1 v x rp1 d h1 => ?_⟩) fun v s1 ⟨x, H1, I1, r1, q1⟩ => ?_)
 ·cases d with
  | @tup a vs xs e r => exact .inl ⟨a, vs, rfl, e, fun p hp => h1 as1 _ _ (Ext.laid hp) (rp1.laid hp) (.tup (.of Yh) (r.reverse.ext (Ext.laid hp)))⟩
  | @str z =>
   have h2 : Post X as1 H1 ρ (if (revS z).length <= cap then .ok (.str (revS z)) st1 else .bad) Q := h1
   by_cases hl : (revS z).length <= cap
   ·rw [if_pos hl] at h2
    exact .inr (.inl ⟨_, _, rfl, hl, mkT rp1 fun as2 H2 v x r d => h2 as2 H2 v x r d⟩)
   ·rw [if_neg hl] at h2; exact h2.elim
  | @ref k a e =>
   have h2 : Post X as1 H1 ρ (match listAt st1 k with | some xs => ofO (newL (pickL (stepIx xs.length none none (-1)) xs) st1) | none => .bad) Q := h1
   cases q : listAt st1 k with
   | none => rw [q] at h2; exact h2.elim
   | some xs =>
    rw [q] at h2
    dsimp only at h2
    have h3 := Post.ofO h2
    obtain ⟨vs, sq, r⟩ := V5 rp1 e q
    have hd := Yav r (stepIx xs.length none none (-1))
    rw [<- r.length] at hd h3
    exact .inr (.inr ⟨_, vs, rfl, sq, by rw [hd.length]; exact Yb9 h3, fun p hp => Wm rp1 hd h3 hp⟩)
  | _ => exact h1.elim
 ·rcases q1 with ⟨a, vs, ex, hq, q1⟩ | ⟨z, tz, ex, hz0, q1⟩ | ⟨a, vs, ex, hq, hz0, q1⟩
  ·subst ex
   cases r1
   refine wpAny_Slice ?_
   rw [evalPart_none]
   refine wpAny_pure (wpAny_pure ?_)
   rw [evalPart_some]
   refine UnaryOp_ (wpAny_Constant_int (neg_int ?_))
   obtain ⟨its, r, ht, hz⟩ := I1.tuple hq
   show wpAny (model X.prog X.w) X.A (subscriptTail e _ (.ref a) (.ref s1.heap.objs.size)) (EP X pins σ Q) X.xe { s1 with heap := s1.heap.push { cls := .type "slice", data := .fields #[.none, .none, .int (-1) (s1.toks + 1)] }, toks := s1.toks + 1 + 1 }
   have I2 : Inv X pins σ H1 { s1 with heap := s1.heap.push { cls := .type "slice", data := .fields #[.none, .none, .int (-1) (s1.toks + 1)] }, toks := s1.toks + 1 + 1 } := I1.kept fun b ob q => Heap.get?_push_of_some _ q
   obtain ⟨its2, r2, ht2, hz2⟩ := I2.tuple hq
   refine tail_any (ops := [.ref a, .ref s1.heap.objs.size]) ht2.typeIs PyProof.Rows.slot_tuple_getitem.lookup (Vf (u := s1.toks + 1) ht2 ⟨_, Heap.get?_push_size _ rfl, rfl, rfl⟩ ?_ (by rw [<- r2.length]; exact hz2)) (by with_unfolding_all rfl)
   refine ⟨.ref _, _, I2.laid (o := .tup vs.reverse) (fun b ob q => Heap.get?_push_of_some _ q) (Nat.le_refl _) ?_, rfl, q1 _ (I2.hok.fresh (Nat.le_refl _))⟩
   exact ⟨by rw [List.length_reverse]; exact hz2, _, r2.reverse, IsTup.new _ _⟩
  ·subst ex
   obtain ⟨t, rfl⟩ : ∃ t, v = .str z t := ⟨_, r1⟩
   refine wpAny_Slice ?_
   rw [evalPart_none]
   refine wpAny_pure (wpAny_pure ?_)
   rw [evalPart_some]
   refine UnaryOp_ (wpAny_Constant_int (neg_int ?_))
   show wpAny (model X.prog X.w) X.A (subscriptTail e _ (.str z t) (.ref s1.heap.objs.size)) (EP X pins σ Q) X.xe { s1 with heap := s1.heap.push { cls := .type "slice", data := .fields #[.none, .none, .int (-1) (s1.toks + 1)] }, toks := s1.toks + 1 + 1 }
   have I2 : Inv X pins σ H1 { s1 with heap := s1.heap.push { cls := .type "slice", data := .fields #[.none, .none, .int (-1) (s1.toks + 1)] }, toks := s1.toks + 1 + 1 } := I1.kept fun b ob q => Heap.get?_push_of_some _ q
   refine tail_any (ops := [.str z t, .ref s1.heap.objs.size]) (typeIs_str _ z t) F.slot_str_getitem.lookup (wpAny_getItem_str_slice (l := none) (u := none) (st := some (-1, s1.toks + 1)) ⟨_, Heap.get?_push_size _ rfl, rfl, rfl⟩ rfl ?_) (by with_unfolding_all rfl)
   show (Made.str (revS z)).post _ _
   exact ⟨Nat.le_trans hz0 Yi, .str (revS z) _, _, I2.txt, rfl, q1 _ I2.fresh_tok.1 I2.fresh_tok.2⟩
  ·subst ex
   cases r1
   refine wpAny_Slice ?_
   rw [evalPart_none]
   refine wpAny_pure (wpAny_pure ?_)
   rw [evalPart_some]
   refine UnaryOp_ (wpAny_Constant_int (neg_int ?_))
   show wpAny (model X.prog X.w) X.A (subscriptTail e _ (.ref a) (.ref s1.heap.objs.size)) (EP X pins σ Q) X.xe { s1 with heap := s1.heap.push { cls := .type "slice", data := .fields #[.none, .none, .int (-1) (s1.toks + 1)] }, toks := s1.toks + 1 + 1 }
   have I2 : Inv X pins σ H1 { s1 with heap := s1.heap.push { cls := .type "slice", data := .fields #[.none, .none, .int (-1) (s1.toks + 1)] }, toks := s1.toks + 1 + 1 } := I1.kept fun b ob q => Heap.get?_push_of_some _ q
   obtain ⟨its, r, ht, hz'⟩ := I2.list hq
   have hlen := r.length
   refine tail_any (ops := [.ref a, .ref s1.heap.objs.size]) ht.isList.typeIs slot_list_getitem.lookup ?_ (by with_unfolding_all rfl)
   refine wpAny_getItem_list_slice (lo := none) (hi := none) (st := some (-1)) ht.isList (Heap.IsSliceOf.new ..) ?_ ?_ ?_ (by decide) ?_ (by rw [List.size_toArray] <;> omega)
   ·exact .none
   ·exact .none
   ·exact .int _ _
   ·rw [Jh, <- hlen]
    refine ⟨.ref _, _, I2.laid (t' := s1.toks + 1 + 1) (o := .lst (pickL (stepIx vs.length none none (-1)) vs)) (fun b ob q => Heap.get?_push_of_some _ q) (Nat.le_refl _) ?_, rfl, q1 _ (I2.hok.fresh (Nat.le_refl _))⟩
    exact ⟨hz0, _, 0, Yat r _, Heap.get?_push_size _ rfl⟩
end
section
variable {ρ : Rho} {st : Stor}
end
def lSortSetX (me : ME) : MA := fun ρ st => (me ρ st).bind fun p st1 => match p with
 | .ref k => (match listAt st1 k with
  | some xs => (match strsP xs with
   | some ys => if ys.length < 4000 /\ (once ys).length < 64 then .ok ((sortS (once ys)).map P.str) st1 else .bad
   | none => .bad)
  | none => .bad)
 | _ => .bad
def GdT (H : Hp) (u : Value) : Prop := ∃ x t, u = .str x t /\ H.τ t = some x /\ t ≠ 0
inductive TxA (H : Hp) : List V -> List Str -> Prop where
 | nil : TxA H [] []
 | cons {x t ws xs} (h : H.τ t = some x) (z : t ≠ 0) (r : TxA H ws xs) : TxA H (.str x t :: ws) (x :: xs)
theorem TxA.dens {K : PySem.W.Frag} {as : List Addr} {H : Hp} : ∀ {ws : List V} {ks : List Str}, TxA H ws ks -> Dens K as H ws (ks.map P.str)
 | _, _, .nil => .nil
 | _, _, .cons h z r => .cons (.str h z) r.dens
theorem Yfh {H : Hp} : ∀ {out : List Value} {ss : List Str}, StrsAre out ss -> (∀ v ∈ out, GdT H v) -> ∃ ws, Vals ws out /\ TxA H ws ss
 | _, _, .nil, _ => ⟨[], .nil, .nil⟩
 | _, _, .cons y t r, g => by
  obtain ⟨ws, h1, h2⟩ := Yfh r fun v hv => g v (List.mem_cons_of_mem _ hv)
  obtain ⟨x, t', e, h3, h4⟩ := g _ (List.mem_cons_self ..)
  cases e
  exact ⟨.str y t :: ws, .cons rfl h1, .cons h3 h4 h2⟩
theorem Ydh {H : Hp} {l : Addr} {o : HO} : ∀ {ws : List V} {ks : List Str}, TxA H ws ks -> TxA (upd H l o) ws ks
 | _, _, .nil => .nil
 | _, _, .cons h z r => .cons h z (Ydh r)
theorem YfC {K : PySem.W.Frag} {as : List Addr} {H : Hp} : ∀ {ps : List P} {vs : List V} {us : List Value} {ys : List Str}, Dens K as H vs ps -> Vals vs us -> strsP ps = some ys -> ∀ u ∈ us, GdT H u
 | [], _, _, _, .nil, .nil, h => fun u hu => absurd hu (by simp)
 | p :: r, _, _, ys, .cons d d', .cons r1 r2, h => fun u hu => by
  cases d with
  | @str x t hx zx =>
   have h' : (strsP r).map (x :: ·) = some ys := h
   cases q : strsP r with
   | none => rw [q] at h'; cases h'
   | some zs =>
    cases r1
    rcases List.mem_cons.mp hu with rfl | hu
    ·exact ⟨x, t, rfl, hx, zx⟩
    ·exact YfC d' r2 q u hu
  | _ => cases h
section
variable {X : Cx} {e : Expr} {me : ME} {p1 p2 c1 c2 : Pos}
theorem Yb2 (hc : X.calm = true) (hg : Gl X "sorted") (hm : X.mg "sorted" = none) (hv : bootBuiltins "sorted" = some (.builtin "sorted")) (hg2 : Gl X "set") (hm2 : X.mg "set" = none) (hv2 : bootBuiltins "set" = some (.type "set")) (he : JE X e me)
 (hs : starEach [e] X.env = (false, eval e X.env) :: starEach [] X.env := by rfl)
 (hs2 : starEach [Expr.Call (.Name "set" p2) [e] [] c2] X.env = (false, eval (.Call (.Name "set" p2) [e] [] c2) X.env) :: starEach [] X.env := by rfl) :
 JL X (.Call (.Name "sorted" p1) [.Call (.Name "set" p2) [e] [] c2] [] c1) (lSortSetX me) := by
 intro pins s σ H Q I ⟨as, ρ, st, en, rp, h⟩
 refine wpAny_Call_Name_kw (ZT I hg hm hv ?_ (by decide) (by decide))
 refine PyProof.Rows.callWith_builtin1 ?_ hs2 rfl
 rw [hs2]
 show wpAny _ _ (spliced ((false, eval (.Call (.Name "set" p2) [e] [] c2) X.env) :: backTo c1 (starEach [] X.env))) _ _ s
 refine Calls.spliced_cons ?_
 refine wpAny_Call_Name_kw (ZT I hg2 hm2 hv2 ?_ (by decide) (by decide))
 refine PyProof.Rows.callWith_type1 ?_ hs rfl
 rw [hs]
 show wpAny _ _ (spliced ((false, eval e X.env) :: backTo c2 (starEach [] X.env))) _ _ s
 refine Calls.spliced_cons ?_
 unfold lSortSetX at h
 refine thn (he pins s σ H (fun v H1 => ∃ ys ks as1 st1, (∃ a vs, v = .ref a /\ SqL X.K H1 a vs /\ (∀ us, Vals vs us -> StrsAre us ys) /\ ∀ us, Vals vs us -> ∀ u ∈ us, GdT H1 u) /\ ys.length < 4000 /\ (once ys).length < 64 /\ ks = sortS (once ys) /\ Rep X.K as1 st1 H1 /\
  ∀ l ws, H1 l = none -> TxA H1 ws ks -> Q (.ref l) (upd H1 l (.lst ws))) I ⟨as, ρ, st, en, rp, ?_⟩) fun u s1 ⟨x, H1, I1, r1, q1⟩ => ?_
 ·refine PostL.bindE (Q := Q) h fun p st1 as1 H1 v x rp1 d h1 => ?_
  cases d with
  | @ref k a e =>
   dsimp only at h1
   cases q : listAt st1 k with
   | none => rw [q] at h1; exact h1.elim
   | some xs =>
    rw [q] at h1
    dsimp only at h1
    cases q2 : strsP xs with
    | none => rw [q2] at h1; exact h1.elim
    | some ys =>
     rw [q2] at h1
     dsimp only at h1
     by_cases z : ys.length < 4000 /\ (once ys).length < 64
     ·rw [if_pos z] at h1
      obtain ⟨vs, g1, g2⟩ := V5 rp1 e q
      refine ⟨ys, _, as1, st1, ⟨a, vs, rfl, g1, fun us r => WS g2 r q2, fun us r => YfC g2 r q2⟩, z.1, z.2, rfl, rp1, fun l ws hl hws => ?_⟩
      exact h1 as1 _ l _ (Ext.laid hl) (rp1.laid hl) Yh (rp1.fresh hl) (TxA.dens (H := upd H1 l (.lst ws)) (by exact Ydh hws))
     ·rw [if_neg z] at h1; exact h1.elim
  | _ => exact h1.elim
 ·obtain ⟨ys, ks, as1, st1, hway, hl1, hl2, hks, rp1, hq⟩ := q1
  refine Calls.spliced_nil ?_
  have fin : ∀ (h2 : Heap) (tk : Nat), s1.toks <= tk -> TS X.prog X.w h2 s1.heap.objs.size (once ys) (GdT H1) -> s1.heap.objs.size < h2.objs.size -> (∀ b o, s1.heap.get? b = some o -> h2.get? b = some o) -> wpAny (model X.prog X.w) X.A (spliced []) (fun vs s₂ => wpAny (model X.prog X.w) X.A (call (.builtin "sorted") ((.ref s1.heap.objs.size) :: vs)) (EP X pins σ Q) X.xe s₂) X.xe { s1 with heap := h2, toks := tk } := fun h2 tk le1 TS2 lt2 keep2 => by
   have I2 : Inv X pins σ H1 { s1 with heap := h2, toks := tk } := I1.kept keep2 le1
   refine Calls.spliced_nil ?_
   refine Tk.wpAny_le (VW TS2 hl2 (I1.ok.hd hc) fun D s3 out ss n hD keep3 hg3 ho3 hD3 hss hp3 hs3 hgd3 le2 => ?_)
   obtain ⟨ws, hws1, hws2⟩ := Yfh hss hgd3
   have le3 : s1.toks <= s3.toks := Nat.le_trans le1 le2
   have ess : ss = ks := by rw [hks]; exact W9 hp3 (Vk ss hs3)
   have hDs : s1.heap.objs.size <= D := Nat.le_trans (Nat.le_of_lt (Nat.lt_of_le_of_lt (Nat.le_refl _) lt2)) hD
   have hzl : ss.length <= sizeLine := by
    rw [hp3.length_eq, sizeLine_eq]; omega
   have I3 : Inv X pins σ (upd H1 D (.lst ws)) { s1 with heap := s3.heap, gens := s3.gens, drawn := s3.drawn, toks := s3.toks } := by
    have hn : H1 D = none := I1.hok.fresh hDs
    have I3a : Inv X pins σ H1 { s1 with heap := s3.heap, gens := s3.gens, drawn := s3.drawn, toks := s3.toks } := by
     refine I1.step (ch := []) (fun b hb => absurd hb (by simp)) (fun b o _ _ _ e _ => keep3 b o (keep2 b o e)) (fun b o _ _ _ e _ => ⟨o.slots, keep3 b o (keep2 b o e)⟩) (fun b o _ e n => n) (fun b o _ e => ⟨o, keep3 b o (keep2 b o e)⟩)
      (fun b xs e => e) (fun b o u e => e) (fun b ps e => ⟨#[], by rw [e]; simp⟩) (fun m hm => hm.keeps fun b o e => keep3 b o (keep2 b o e)) (I1.hok.kept fun b o e => keep3 b o (keep2 b o e)) ?_ (I1.tk.mono le3)
     rw [show s3.gens = s1.gens from hg3]; exact I1.bare
    have fo := I1.fpOk hDs hn
    exact Mi.Inv.track I3a hD3 hn hws1 (by rw [show ws.length = ss.length from by have := hws1.length; have := StrsAre.length hss; omega]; exact hzl) (Nat.le_trans I1.sz hDs) fo.2.1 fo.2.2.2.2.1 fo.2.2.2.2.2
   have es3 : { s1 with heap := s3.heap, gens := s3.gens, drawn := s3.drawn, toks := s3.toks } = s3 := by
    have : s3.os = s1.os := ho3
    cases s3
    simp only at this
    simp [this]
   rw [es3] at I3
   exact ⟨.ref D, _, I3, rfl, hq D ws (I1.hok.fresh hDs) (by rw [<- ess]; exact hws2)⟩
  obtain ⟨a, vs, rfl, hsq, hst, hgs⟩ := hway
  ·cases r1
   obtain ⟨its, rv, pl, _⟩ := I1.list hsq
   exact Tk.wpAny_le (Yeq (by simpa using hgs its rv) (I1.ok.hd hc) pl.isList (by simpa using hst its rv) (by show _ < 4096; omega) fun h2 tk TS2 lt2 keep2 le => fin h2 tk le TS2 lt2 keep2)
end
end Mi
namespace Mi
open PySem PySem.Spec L2
open PyProof.Rows hiding St
theorem YdY {P' : Program} {w : World} {H : Hp} {h : Heap} {a : Addr} {o : HO} (x : ObjOk P' w H h a o) : ∃ u, h.get? a = some u := by
 cases o with
 | lst xs => obtain ⟨_, _, _, _, e⟩ := x; exact ⟨_, e⟩
 | tup xs => obtain ⟨_, _, _, ob, e, _⟩ := x; exact ⟨_, e⟩
 | dK kvs => obtain ⟨_, _, _, _, o, _, _, e, _⟩ := x; exact ⟨_, e⟩
 | dT kvs => obtain ⟨_, _, _, _, o, _, _, e, _⟩ := x; exact ⟨_, e⟩
 | set S n => obtain ⟨o, _, _, _, e, _⟩ := x; exact ⟨_, e⟩
 | ins C dx fs => obtain ⟨_, _, _, e, _⟩ := x; exact ⟨_, e⟩
 | own y => exact x
 | xd fs => obtain ⟨_, ⟨_, _, _, e, _⟩, _⟩ := x; exact ⟨_, e⟩
 | rng lo hi => obtain ⟨_, _, _, e⟩ := x; exact ⟨_, e⟩
 | frz ob u => obtain ⟨e, _⟩ := x; exact ⟨_, e⟩
 | tbl ps => exact ⟨_, x⟩
 | met f y => exact ⟨_, x⟩
 | ext φ => exact x.2.1
structure Noted (l : List Env) (a : Addr) (Ts : List Addr) (h h' : Heap) : Prop where
 keep : ∀ b o, h.get? b = some o -> b ≠ a -> b ∉ Ts -> b ∉ frs l -> h'.get? b = some o
 slot : ∀ b o, h.get? b = some o -> b ∈ frs l -> ∃ sl, h'.get? b = some { o with slots := sl }
section
variable {M : Model} {A : Around} {E : Value -> Shared -> Prop} {s : Shared} {base : Heap} {env e0 : Env} {l r : List Env} {L a : Addr} {oe : Obj} {vs : Array Value}
end
section
variable {M : Model} {A : Around} {E : Value -> Shared -> Prop} {X : Cx} {pins : List (Addr × Obj)} {σ : St} {H : Hp} {s : Shared} {a : Addr} {C : Value} {od : Option Addr} {N : Addr -> Prop}
theorem untracked (I : Inv X pins σ H s) {T : Addr} (z : s.heap.get? T = none) : H T = none := by
 cases q : H T with
 | none => rfl
 | some u =>
  obtain ⟨u', hu⟩ := YdY (I.hok T u q)
  rw [z] at hu; cases hu
end
end Mi
namespace Mi
open PySem PySem.Spec L2
open PyProof.Rows hiding St
def CX1 (P' : Program) (w : World) : CXT := fun outer H s E e s' => ∃ a C od H', e = .ref a /\ s'.os = s.os /\ AllBare s'.gens /\ Un (frs outer) [] H H' s.heap s'.heap /\ HOk P' w H' s'.heap /\ TkOk H' s'.toks /\
 Fly0 (fun b => s.heap.get? b = none) H' a C od s'.heap /\ E C od H'
section
variable {P' : Program} {w : World} {K : PySem.W.Frag} {mg : Str -> Option Value} {base : Heap} {N : List Str} {qual : Str} {scope : Scope} {f : Addr} {cd : Value} {A : Around} {outer : List Env} {s₀ : Shared} {H₀ : Hp} {E : XK}
end
def spM1 (K : PySem.W.Frag) (n : Nat) (mf : MF) : Sp := fun vs H Q E => vs.length = n /\ ∃ as st ps, Rep K as st H /\ Dens K as H vs ps /\ match mf ps st with
 | .ok p st' => ∀ as' H' v, Ext as H as' H' -> Rep K as' st' H' -> Den K as' H' v p -> Q v H'
 | .exc x st' => ∀ as' H' C od, PySem.W.nsIn K mainGlobals x.1 = some (some (.ref C)) -> FlyA K as' H' od x.2 -> Ext as H as' H' -> Rep K as' st' H' -> E (.ref C) od H'
 | .bad => False
abbrev FM1 (P' : Program) (w : World) (K : PySem.W.Frag) (mg : Str -> Option Value) (base : Heap) (k : Nat) (f : Addr) (fd : FuncData) (ps : List Str) (mf : MF) : Prop := FnOk P' w K mg base (CX1 P' w) k f fd ps (spM1 K ps.length mf)
section
variable {P' : Program} {w : World} {K : PySem.W.Frag} {mg : Str -> Option Value} {base : Heap}
end
section
variable {X : Cx} {k : Nat} {f : Addr} {fd : FuncData} {ps : List Str} {mf : MF} {x : Str} {p pos : Pos} {e : Expr} {es : List Expr} {mr : MA}
end
structure Fn1 (P' : Program) (w : World) (K : PySem.W.Frag) (mg : Str -> Option Value) (base : Heap) (x : Str) (k : Nat) (ps : List Str) (mf : MF) : Prop where
 ex : ∃ f fd, FM1 P' w K mg base k f fd ps mf /\ mg x = some (.ref f) /\ PySem.W.keepIn K (.ref f) = true /\ Binds K fd ps []
section
variable {P' : Program} {w : World} {K : PySem.W.Frag} {mg : Str -> Option Value} {base : Heap} {x : Str} {st : Stmt} {N ps : List Str} {k : Nat} {m : MS}
end
section
variable {K : PySem.W.Frag} {h : Heap} {C : Addr} {bmB : List Value} {newId : String}
end
abbrev bmVE : List Value := [.type "ValueError", .type "Exception", .type "BaseException", .type "object"]
end Mi
namespace Mi
open PySem PySem.Spec L2
open PyProof.Rows hiding St
section
variable {X : Cx} {pins : List (Addr × Obj)} {σ : St} {H H' : Hp} {s : Shared}
theorem _root_.L2.Inv.stepN {h' : Heap} {t' : Nat} {ch : List Addr} (I : Inv X pins σ H s) (hch : ∀ b ∈ ch, Nw X pins b /\ b ≠ X.env.locals /\ (∀ x c, X.env.cells.lookup x = some c -> c ≠ b) /\ b ∉ frs X.stack)
 (keep : ∀ b o, b ∉ frs X.stack -> b ∉ ch -> s.heap.get? b = some o -> H b = none -> h'.get? b = some o) (slot : ∀ b o, b ∈ frs X.stack -> s.heap.get? b = some o -> ∃ sl, h'.get? b = some { o with slots := sl })
 (free : ∀ b, b ∉ ch -> H b = none -> H' b = none) (there : ∀ b o, b ∉ ch -> s.heap.get? b = some o -> ∃ o', h'.get? b = some o') (trk : ∀ b u, H b = some u -> H' b = some u)
 (hL : ∃ o sl, s.heap.get? X.env.locals = some o /\ h'.get? X.env.locals = some { o with slots := sl }) (hfs : ∀ b ∈ X.fs, b ∈ frs X.stack)
 (hok : HOk X.prog X.w H' h') (htk : TkOk H' t') : Inv X pins σ H' { s with heap := h', toks := t' } := by
 have neC : ∀ b o, X.s₀.heap.get? b = some o -> b ∉ X.ex -> b ∉ ch := fun b o e hx hb => by
  rcases (hch b hb).1.1 with z | z
  ·exact hx z
  ·rw [z] at e; cases e
 have anyF : ∀ b o, b ∉ ch -> s.heap.get? b = some o -> H b = none -> ∃ sl, h'.get? b = some { o with slots := sl } := fun b o hc e n => by
  by_cases hb : b ∈ frs X.stack
  ·exact slot b o hb e
  ·exact ⟨o.slots, keep b o hb hc e n⟩
 have cellK : ∀ x c, X.env.cells.lookup x = some c -> ∀ v, s.heap.IsCell c v -> h'.IsCell c v := fun x c e v ⟨o, ho, hd⟩ => by
  obtain ⟨sl, q⟩ := anyF c o (fun z => (hch c z).2.2.1 x c e rfl) ho (I.freeC x c e)
  exact ⟨_, q, hd⟩
 obtain ⟨oL, slL, hoL, hoL'⟩ := hL
 have nsK : ∀ m, s.heap.Ns X.env.locals m -> h'.Ns X.env.locals m := fun m ⟨o, es, ep, ho, r⟩ => by
  rw [hoL] at ho; cases ho
  exact ⟨_, es, ep, hoL', r⟩
 have lnch : X.env.locals ∉ ch := fun z => (hch _ z).2.1 rfl
 refine ⟨I.ok, I.os, I.bare, ⟨fun b o e n hb hx => ?_, fun b o e n hb hx => ?_, fun b o e n hx => free b (neC b o e hx) (I.base.free b o e n hx), fun b o e hx => ?_, fun b xs e => trk _ _ (I.base.tups b xs e), fun b o xs e => trk _ _ (I.base.frzs b o xs e), fun b ps e => ?_⟩,
  ?_, fun x c e => ?_, free _ lnch I.free, fun x c e => free c (fun z => (hch c z).2.2.1 x c e rfl) (I.freeC x c e), fun p hp => ?_, hok, I.len, htk⟩
 ·have h1 := I.base.keep b o e n hb hx
  exact keep b o (fun z => by
   rcases List.mem_cons.mp (I.stkSub b z) with y | y
   ·exact absurd (Nat.lt_of_lt_of_le (Heap.lt_size e) I.ok.above) (by rw [y]; exact Nat.lt_irrefl _)
   ·exact hb y) (neC b o e hx) h1 (I.base.free b o e n hx)
 ·obtain ⟨sl, e1⟩ := I.base.slot b o e n hb hx
  obtain ⟨sl', e2⟩ := slot b _ (hfs b hb) e1
  exact ⟨sl', e2⟩
 ·obtain ⟨o', e1⟩ := I.base.there b o e hx
  exact there b o' (neC b o e hx) e1
 ·obtain ⟨m1, e1⟩ := I.base.tbls b ps e
  exact ⟨m1, trk _ _ e1⟩
 ·obtain ⟨m, hn, hl⟩ := I.loc
  refine ⟨m, nsK m hn, fun i x v e1 e2 e3 => ?_⟩
  obtain ⟨u, r, l⟩ := hl i x v e1 e2 e3
  refine ⟨u, r, ?_⟩
  rcases l with l | ⟨k, c, e, z⟩
  ·exact .inl l
  ·exact .inr ⟨k, c, e, cellK x c e _ z⟩
 ·obtain ⟨v, z⟩ := I.cell x c e
  exact ⟨v, cellK x c e v z⟩
 ·obtain ⟨e, n, ne, nf, d⟩ := I.pin p hp
  have nch : p.1 ∉ ch := fun z => (hch p.1 z).1.2 p hp rfl
  refine ⟨keep p.1 p.2 (fun z => ?_) nch e n, free p.1 nch n, ne, nf, d⟩
  rcases List.mem_cons.mp (I.stkSub p.1 z) with y | y
  ·exact ne y
  ·exact nf y
theorem _root_.L2.Inv.gone {i : Nat} {n : Str} {h' : Heap} {v : Option Value} {m : Str -> Option Value} {t' : Nat} (I : Inv X pins σ H s) (hN : X.N.Nodup) (hi : X.N[i]? = some n) (hk : X.env.kindOf n = some .local) (hn : s.heap.Ns X.env.locals m)
 (hl : ∀ (i : Nat) (x : Str) (v : V), X.N[i]? = some x -> σ[i]? = some (some v) -> Vis X.env.scope x -> ∃ u, RelV v u /\ Look X.env s.heap m x u)
 (hn' : h'.Ns X.env.locals (fun x => if x = n then v else m x)) (hs : Heap.SameBut X.env.locals s.heap h') (ht : s.toks <= t' := by first | exact Nat.le_refl _ | exact Nat.le_succ _ | exact Nat.le_add_right _ _ | assumption | omega) : Inv X pins (σ.set i none) H { s with heap := h', toks := t' } := by
 have cne := I.cne
 obtain ⟨oL, _, _, hoL, _⟩ := id hn
 have lt : ∀ b o, X.s₀.heap.get? b = some o -> b ≠ X.env.locals := fun b o e => Nat.ne_of_lt (Nat.lt_of_lt_of_le (Heap.lt_size e) I.ok.above)
 refine ⟨I.ok, I.os, I.bare, ⟨fun b o e n hb hx => (hs.2 b (lt b o e)).trans (I.base.keep b o e n hb hx), fun b o e n hb hx => ?_, I.base.free, fun b o e hx => ?_, I.base.tups, I.base.frzs, I.base.tbls⟩, ⟨_, hn', fun j y v' e1 e2 e3 => ?_⟩, fun y c e => ?_, I.free, I.freeC, fun p hp => ?_, fun b ob e => ?_, by simpa using I.len, I.tk.mono ht⟩
 ·obtain ⟨sl, e1⟩ := I.base.slot b o e n hb hx
  exact ⟨sl, (hs.2 b (lt b o e)).trans e1⟩
 ·obtain ⟨o', e1⟩ := I.base.there b o e hx
  exact ⟨o', (hs.2 b (lt b o e)).trans e1⟩
 ·have hj : i ≠ j := fun z => by
   subst z
   by_cases hlt : i < σ.length
   ·rw [List.getElem?_set_self hlt] at e2; cases e2
   ·rw [List.set_eq_of_length_le (by omega)] at e2
    have := (List.getElem?_eq_some_iff.mp e2).1
    omega
  rw [List.getElem?_set_ne hj] at e2
  obtain ⟨u', r', q⟩ := hl j y v' e1 e2 e3
  refine ⟨u', r', ?_⟩
  rcases q with ⟨k, e⟩ | ⟨k, c, e, z⟩
  ·refine .inl ⟨k, ?_⟩
   have : y ≠ n := fun z => hj (JK hN hi (z ▸ e1))
   simp [this, e]
  ·exact .inr ⟨k, c, e, z.sameBut hs (cne y c e)⟩
 ·obtain ⟨w', z⟩ := I.cell y c e
  exact ⟨w', z.sameBut hs (cne y c e)⟩
 ·obtain ⟨e, n, ne, nf, d⟩ := I.pin p hp
  exact ⟨(hs.2 p.1 ne).trans e, n, ne, nf, d⟩
 ·refine (I.hok b ob e).stay (fun c w' hc q => (hs.2 c ?_).trans q) (fun _ q => q) fun _ _ q => q
  rintro rfl
  rcases hc with rfl | hc
  ·rw [I.free] at e; cases e
  ·rw [I.free] at hc; cases hc
end
section
variable {X : Cx} {pins : List (Addr × Obj)} {σ : St} {H : Hp} {s : Shared}
end
section
variable {X : Cx} {pins : List (Addr × Obj)}
end
end Mi
namespace Mi
open PySem PySem.Spec L2
open PyProof.Rows hiding St
def flatP : P -> Bool
 | .non => true
 | .bl _ => true
 | .int _ => true
 | .str _ => true
 | _ => false
def eqF : P -> P -> Bool
 | .non, .non => true
 | .bl a, .bl b => a == b
 | .bl a, .int b => (if a then 1 else 0) == b
 | .int a, .bl b => a == (if b then 1 else 0)
 | .int a, .int b => a == b
 | .str a, .str b => a == b
 | _, _ => false
def in2P : G2 := fun p q st => match seqAt q st with
 | some xs => if flatP p = true /\ xs.all flatP = true then okP (.bl (xs.any fun y => eqF y p)) st else none
 | none => inP p q st
def notIn2P : G2 := fun p q st => match seqAt q st with
 | some xs => if flatP p = true /\ xs.all flatP = true then okP (.bl (!(xs.any fun y => eqF y p))) st else none
 | none => notInP p q st
section
variable {K : PySem.W.Frag} {as : List Addr} {H : Hp}
theorem V7 {v : V} {p : P} (d : Den K as H v p) (h : flatP p = true) : flatV v = true := by cases d <;> first | rfl | cases h
theorem YgB {v w : V} {p q : P} (d : Den K as H v p) (e : Den K as H w q) (h : flatP p = true) (h' : flatP q = true) : eqV v w = eqF p q := by
 cases d <;> first | (cases h; done) | (cases e <;> first | rfl | (cases h'; done))
theorem VC : ∀ {vs : List V} {ps : List P}, Dens K as H vs ps -> ps.all flatP = true -> vs.all flatV = true
 | _, _, .nil, _ => rfl
 | _, _, .cons d r, h => by
  rw [List.all_cons, Bool.and_eq_true] at h ⊢
  exact ⟨V7 d h.1, VC r h.2⟩
theorem Ybe {w : V} {q : P} (e : Den K as H w q) (h' : flatP q = true) : ∀ {vs : List V} {ps : List P}, Dens K as H vs ps -> ps.all flatP = true -> inV w vs = ps.any fun y => eqF y q
 | _, _, .nil, _ => rfl
 | _, _, .cons d r, h => by
  rw [List.all_cons, Bool.and_eq_true] at h
  have ih := Ybe e h' r h.2
  unfold inV at ih ⊢
  rw [List.any_cons, List.any_cons, YgB d e h.1 h', ih]
end
section
variable {X : Cx}
theorem Yi1 (hu : X.A.units + 1 < cLine) : OpR X (compareOp .In) (rM X in2P) := opM fun pins s σ H x y v u Q as st p q I rx ry rp d1 d2 h => by
 have h' : PostO X as H (match seqAt q st with
  | some xs => if flatP p = true /\ xs.all flatP = true then okP (.bl (xs.any fun y => eqF y p)) st else none
  | none => inP p q st) Q := h
 cases z : seqAt q st with
 | none =>
  rw [z] at h'
  exact Yan hu pins s σ H x y v u Q I rx ry ⟨as, st, p, q, rp, d1, d2, h'⟩
 | some xs =>
  rw [z] at h'
  by_cases c : flatP p = true /\ xs.all flatP = true
  ·simp only [if_pos c] at h'
   obtain ⟨a, vs, e1, e2, e3⟩ := Yc1 rp d2 z
   subst e1
   refine Ydz pins s σ H x _ v u Q I rx ry ⟨a, vs, rfl, e2, V7 d1 c.1, VC e3 c.2, ?_⟩
   have := Ybe d1 c.1 e3 c.2
   simp only [Bool.false_eq_true, if_false, this]
   exact h' as H _ Ext.refl rp .bl
  ·simp only [if_neg c] at h'; exact h'.elim
theorem YaG (hu : X.A.units + 1 < cLine) : OpR X (compareOp .NotIn) (rM X notIn2P) := opM fun pins s σ H x y v u Q as st p q I rx ry rp d1 d2 h => by
 have h' : PostO X as H (match seqAt q st with
  | some xs => if flatP p = true /\ xs.all flatP = true then okP (.bl (!(xs.any fun y => eqF y p))) st else none
  | none => notInP p q st) Q := h
 cases z : seqAt q st with
 | none =>
  rw [z] at h'
  exact YfY hu pins s σ H x y v u Q I rx ry ⟨as, st, p, q, rp, d1, d2, h'⟩
 | some xs =>
  rw [z] at h'
  by_cases c : flatP p = true /\ xs.all flatP = true
  ·simp only [if_pos c] at h'
   obtain ⟨a, vs, e1, e2, e3⟩ := Yc1 rp d2 z
   subst e1
   refine YaV pins s σ H x _ v u Q I rx ry ⟨a, vs, rfl, e2, V7 d1 c.1, VC e3 c.2, ?_⟩
   have := Ybe d1 c.1 e3 c.2
   simp only [if_true, this]
   exact h' as H _ Ext.refl rp .bl
  ·simp only [if_neg c] at h'; exact h'.elim
end
end Mi
namespace Mi
open PySem PySem.Spec L2
open PyProof.Rows hiding St
structure Fly2 (N : Addr -> Prop) (H : Hp) (a : Addr) (C : Value) (od : Option Addr) (h : Heap) : Prop where
 na : N a
 ha : H a = none
 tr : ∃ oe vs T oT ts, h.get? a = some oe /\ oe.cls = C /\ oe.dict = od /\ oe.data = .fields vs /\ vs[1]? = some (.ref T) /\ N T /\ H T = none /\ T ≠ a /\ h.get? T = some oT /\ oT.data = .fields ts /\ 3 < ts.size
section
variable {M : Model} {A : Around} {E : Value -> Shared -> Prop} {X : Cx} {pins : List (Addr × Obj)} {σ : St} {H : Hp} {s : Shared} {a : Addr} {C : Value} {od : Option Addr} {N : Addr -> Prop}
end
section
variable {X : Cx} {scope : Scope} {TN FN : List Str} {pins : List (Addr × Obj)} {σ : St} {H2 : Hp} {s2 : Shared} {fp : List Addr} {Cc : Addr}
end
section
variable {X : Cx}
end
end Mi
namespace Mi
open PySem PySem.Spec L2
open PyProof.Rows hiding St
structure RoomH (k : Nat) (A : Around) : Prop where
 dp : A.depth + 3 * k + 5 < recursionLimit
 un : A.units + 16 * k + 200 < cLine
theorem RoomH.deeper {k : Nat} {A : Around} (r : RoomH (k + 1) A) (env : Env) : RoomH k (A.deeper env) :=
 ⟨by have := r.dp; show A.depth + 1 + 3 * k + 5 < _; omega, by have := r.un; show A.units + 3 + 16 * k + 200 < _; omega⟩
structure FnHOk (P' : Program) (w : World) (K : PySem.W.Frag) (mg : Str -> Option Value) (base : Heap) (k : Nat) (f : Addr) (fd : FuncData) (ps : List Str) (sp : Sp) : Prop where
 run : ∀ (A : Around) (outer : List Env) (s : Shared) (H : Hp) (args : Args) (us : List Value) (vs : List V) (Q : VK) (E : XK), RoomH k A -> Env0 P' w K mg base A outer s H -> 0 < s.toks -> BindsTo s fd args (ps.zip us) -> Vals vs us -> sp vs H Q E ->
  codeAny (model P' w) A (.call (.ref f) args) (CR CX0 outer P' w H s Q E) s
section
variable {P' : Program} {w : World} {K : PySem.W.Frag} {mg : Str -> Option Value} {base : Heap}
end
structure FnH (P' : Program) (w : World) (K : PySem.W.Frag) (mg : Str -> Option Value) (base : Heap) (x : Str) (k : Nat) (ps : List Str) (mf : MF) : Prop where
 ex : ∃ f fd, FnHOk P' w K mg base k f fd ps (spM K ps.length mf) /\ mg x = some (.ref f) /\ PySem.W.keepIn K (.ref f) = true /\ Binds K fd ps []
section
variable {P' : Program} {w : World} {K : PySem.W.Frag} {mg : Str -> Option Value} {base : Heap} {x : Str} {st : Stmt} {N ps : List Str} {k : Nat} {m : MS}
end
end Mi
namespace Mi
open PySem PySem.Spec L2 PySem.W
open PyProof.Rows hiding St
open Builtin Builtin.ObjectAttr
def mroVE : List Value -> Bool
 | .ref _ :: r => mroVE r
 | [.type a, .type b, .type c, .type d] => a == "ValueError" && b == "Exception" && c == "BaseException" && d == "object"
 | _ => false
def overVE (K : Frag) (C : Addr) : Bool := (clsIn K C).any fun cd => mroVE cd.mro
section
variable {prog : Program} {w : World} {A : Around} {E : Value -> Shared -> Prop} {s : Shared} {K : Frag} {x C : Addr} {ox : Obj} {name : Str} {v : Value}
end
end Mi
namespace Mi
open PySem PySem.Spec L2 PySem.W
open PyProof.Rows hiding St
open Builtin Builtin.ObjectAttr
section
variable {prog : Program} {w : World} {A : Around} {E : Value -> Shared -> Prop} {s : Shared} {K : Frag} {x C : Addr} {ox : Obj}
end
section
variable {X : Cx} {pins : List (Addr × Obj)} {σ : St} {H H' : Hp} {s : Shared}
theorem _root_.L2.Inv.swap {pins' : List (Addr × Obj)} {h' : Heap} {t' : Nat} (I : Inv X pins σ H s) (hpn : X.pn = []) (fs : ∀ b ∈ X.fs, b ∈ frs X.stack)
 (hch : ∀ p ∈ pins', (p.1 ∈ X.ex \/ X.s₀.heap.get? p.1 = none) /\ p.1 ≠ X.env.locals /\ (∀ x c, X.env.cells.lookup x = some c -> c ≠ p.1) /\ p.1 ∉ frs X.stack /\ H p.1 = none /\ h'.get? p.1 = some p.2 /\ ∀ v, p.2.data ≠ .cell v)
 (keep : ∀ b o, b ∉ pins'.map (·.1) -> s.heap.get? b = some o -> h'.get? b = some o) (ht : s.toks <= t' := by first | exact Nat.le_refl _ | exact Nat.le_succ _ | exact Nat.le_add_right _ _ | assumption | omega) : Inv X pins' σ H { s with heap := h', toks := t' } := by
 have I0 : Inv X [] σ H s := I.pins_of fun p hp => absurd hp (by simp)
 obtain ⟨m, ⟨oL, es, ep, hoL, _⟩, _⟩ := id I.loc
 have ne : ∀ b, b ∈ pins'.map (·.1) -> ∃ p ∈ pins', p.1 = b := fun b hb => by
  obtain ⟨p, hp, e⟩ := List.mem_map.mp hb
  exact ⟨p, hp, e⟩
 have q := L2.Inv.stepN (t' := t') (h' := h') (H' := H) (ch := pins'.map (·.1)) I0 (fun b hb => by
  obtain ⟨p, hp, rfl⟩ := ne b hb
  obtain ⟨a1, a2, a3, a4, _⟩ := hch p hp
  exact ⟨⟨a1, fun r hr => absurd hr (by rw [hpn]; simp)⟩, a2, a3, a4⟩)
  (fun b o _ hc e _ => keep b o hc e) (fun b o hb e => ⟨o.slots, keep b o (fun z => by obtain ⟨p, hp, rfl⟩ := ne b z; exact (hch p hp).2.2.2.1 hb) e⟩) (fun b _ q => q)
  (fun b o hc e => ⟨o, keep b o hc e⟩) (fun b u q => q) ⟨oL, oL.slots, hoL, keep _ _ (fun z => by obtain ⟨p, hp, e⟩ := ne _ z; exact (hch p hp).2.1 e) hoL⟩ fs (fun b u e => by
   refine (I.hok b u e).stay (fun c v hc q => keep c v (fun z => ?_) q) (fun _ q => q) fun _ _ q => q
   obtain ⟨p, hp, rfl⟩ := ne c z
   have hn := (hch p hp).2.2.2.2.1
   rcases hc with hc | hc
   ·rw [hc, e] at hn; cases hn
   ·rw [hc] at hn; cases hn) (I.tk.mono ht)
 refine q.pins_of fun p hp => ?_
 obtain ⟨a1, a2, a3, a4, a5, a6, a7⟩ := hch p hp
 exact ⟨a6, a5, a2, fun z => a4 (fs _ z), a7⟩
end
end Mi
namespace Mi
open PySem PySem.Spec L2 PySem.W
open PyProof.Rows hiding St
def Short (v : V) : Prop := (∃ i : Int, v = .int i /\ i.natAbs.log2 < 1920) \/ ∃ (x : Str) (t : Tok), v = .str x t /\ x.length <= 2000
structure Own (X : Cx) : Prop where
 pn : X.pn = []
 ex : X.ex = []
 fs : ∀ b ∈ X.fs, b ∈ frs X.stack
section
variable {X : Cx} {pins : List (Addr × Obj)} {σ : St} {H : Hp} {s : Shared}
variable {e C : Addr} {fs : List (Str × V)}
end
end Mi
namespace Mi
open PySem PySem.Spec L2 PySem.W
open PyProof.Rows hiding St
def shapeOf (o : Obj) : Option (ClassData × List (Option Value)) := match o with
 | { cls := .type t, data := .cls d, slots := z, .. } => if t = "type" then some (d, z.toList) else none
 | _ => none
def byVE : List (Option Value) -> Bool
 | [_, _, _, _, some (.builtin n), _] => n == "ValueError.__new__"
 | _ => false
def behind (C : Addr) : List Value -> Option (List Value)
 | .ref D :: r => if D = C then some r else none
 | _ => none
def excInI (K : Frag) (C fI : Addr) : Bool := match (K.lookup C).bind shapeOf with
 | some (d, z) => byVE z && (!d.hasDel && (nsOkIn K d.ns && ((nsIn K d.ns "__init__" == some (some (.ref fI))) && (match behind C d.mro with | some r => tailIn K bmVE r | none => false))))
 | none => false
structure IniF (K : Frag) (C G : Addr) (ats : List Str) : Prop where
 over : overVE K C = true
 sa : findIn K (.ref C) "__setattr__" = some (some (.builtin "object.__setattr__"))
 hd : hasDictIn K C = true
 sp : specialIn K (.ref G) "__getattribute__" = some (some (.builtin "type.__getattribute__"))
 rd : readsIn K G (.type "type") = true
 cl : findCls K (.ref G) (.type "type") "__init__" = some (.val (.builtin "ValueError.__init__"))
 no : ∀ a ∈ ats, findIn K (.ref C) a = some none
section
variable {X : Cx} {σ : St} {e C : Addr} {fs fs' : List (Str × V)}
end
structure Made (P : Program) (w : World) (outer : List Env) (s s' : Shared) (H : Hp) (e C : Addr) (fs : List (Str × V)) : Prop where
 os : s'.os = s.os
 bare : AllBare s'.gens
 un : Un (frs outer) [] H H s.heap s'.heap
 hok : HOk P w H s'.heap
 ex : ∃ oe vs, s'.heap.get? e = some oe /\ oe.cls = .ref C /\ oe.data = .fields vs /\ vs[1]? = some .none /\
  ((oe.dict = none /\ fs = []) \/ ∃ d mA, oe.dict = some d /\ d ≠ e /\ s.heap.get? d = none /\ H d = none /\ s'.heap.Ns1 d mA /\ ∀ f, RelO (fs.lookup f) (mA f))
section
variable {P : Program} {w : World} {K : Frag} {mg : Str -> Option Value} {base : Heap}
end
end Mi
namespace Mi
open PySem PySem.Spec L2 PySem.W
open PyProof.Rows hiding St
theorem Dens.getD {K : Frag} {as : List Addr} {H : Hp} : ∀ {vs : List V} {ps : List P}, Dens K as H vs ps -> ∀ i : Nat, Den K as H (vs.getD i .non) (ps.getD i .non)
 | _, _, .nil, i => by simp; exact .non
 | _, _, .cons d r, 0 => by simp; exact d
 | _, _, .cons d r, i + 1 => by
  have := Dens.getD r i
  simpa using this
structure IniFn (P' : Program) (w : World) (K : Frag) (mg : Str -> Option Value) (base : Heap) (c : Str) (k n : Nat) (ats : List (Str × Nat)) : Prop where
 ex : ∃ C fI oI, nsIn K mainGlobals c = some (some (.ref C)) /\ excInI K C fI = true /\ K.lookup fI = some oI /\ oI.cls = .type "function" /\
  ∀ (A : Around) (outer : List Env) (s : Shared) (H : Hp) (us : List Value) (vs : List V) (h' : Heap) (e : Addr) (Q : Value -> Shared -> Prop) (E : Value -> Shared -> Prop), Room k A -> Env0 P' w K mg base A outer s H -> Env0 P' w K mg base A outer { s with heap := h' } H -> vs.length = n -> Vals vs us -> (∀ v ∈ vs, Short v) ->
   Heap.MadeExcOf s.heap h' e (.ref C) us -> s.heap.objs.size <= h'.objs.size -> (∀ s', Made P' w outer s s' H e C (ats.map fun p => (p.1, vs.getD p.2 .non)) -> Q .none s') -> wpAny (model P' w) A (call (.ref fI) (.ref e :: us)) Q E { s with heap := h' }
end Mi
namespace L2
open PySem PySem.Spec PyProof.Rows
section
variable {X : Cx} {pins : List (Addr × Obj)} {σ : List (Option V)} {H : Hp} {s : Shared} {a : Addr} {o : Obj} {ws : List (Key × V)}
theorem Inv.thaw (I : Inv X pins σ H s) (e : H a = some (.frz o (.dK ws))) (n1 : ∀ xs, X.H₀ a ≠ some (.tup xs)) (n2 : ∀ o u, X.H₀ a ≠ some (.frz o u)) (n3 : ∀ ps, X.H₀ a ≠ some (.tbl ps)) : Inv X pins σ (upd H a (.dK ws)) s := by
 have hn : ∀ b, H b = none -> b ≠ a := fun b q z => by subst z; rw [e] at q; cases q
 refine ⟨I.ok, I.os, I.bare, ⟨I.base.keep, I.base.slot, fun b u q n x => ?_, I.base.there, fun b xs q => ?_, fun b u v q => ?_, fun b ps q => ?_⟩, I.loc, I.cell, ?_, fun x c q => ?_, fun p hp => ?_, fun b u q => ?_, I.len, I.tk⟩
 ·have := I.base.free b u q n x
  rw [Ye (hn b this)]; exact this
 ·by_cases h : b = a
  ·subst h; exact absurd q (n1 xs)
  ·rw [Ye h]; exact I.base.tups b xs q
 ·by_cases h : b = a
  ·subst h; exact absurd q (n2 u v)
  ·rw [Ye h]; exact I.base.frzs b u v q
 ·by_cases h : b = a
  ·subst h; exact absurd q (n3 ps)
  ·rw [Ye h]; exact I.base.tbls b ps q
 ·rw [Ye (hn _ I.free)]; exact I.free
 ·rw [Ye (hn _ (I.freeC x c q))]; exact I.freeC x c q
 ·obtain ⟨a1, a2, a3⟩ := I.pin p hp
  exact ⟨a1, by rw [Ye (hn _ a2)]; exact a2, a3⟩
 ·by_cases h : b = a
  ·subst h
   rw [Yh] at q; cases q
   exact (show ObjOk X.prog X.w H s.heap b (.frz o (.dK ws)) from I.hok b _ e).2
  ·rw [Ye h] at q
   refine (I.hok b u q).stay (fun c v hc r => r) (fun c r => ?_) fun c xs r => ?_
   ·rw [Ye (by rintro rfl; rw [e] at r; cases r)]; exact r
   ·rw [Ye (by rintro rfl; rw [e] at r; cases r)]; exact r
end
end L2
namespace Mi
open PySem PySem.Spec L2
open PyProof.Rows hiding St
section
variable {K : PySem.W.Frag} {as : List Addr} {H : Hp} {st : Stor} {a : Addr} {o : Obj} {ws : List (Key × V)} {u : HO}
theorem SqT.thaw {b : Addr} {vs : List V} (e : H a = some (.frz o (.dK ws))) (h : SqT K H b vs) : SqT K (upd H a u) b vs := by
 rcases h with (h | ⟨ob, h⟩) | h
 ·exact .inl (.inl (by rw [Ye (by rintro rfl; rw [e] at h; cases h)]; exact h))
 ·exact .inl (.inr ⟨ob, by rw [Ye (by rintro rfl; rw [e] at h; cases h)]; exact h⟩)
 ·exact .inr h
mutual
theorem Den.thaw {v : V} {p : P} (e : H a = some (.frz o (.dK ws))) (h : Den K as H v p) : Den K as (upd H a u) v p :=
 match h with
 | .non => .non
 | .bl => .bl
 | .int => .int
 | .str h z => .str h z
 | .ref q => .ref q
 | .tup q r t => .tup (SqT.thaw e q) (Dens.thaw e r) (by rw [Ye (by rintro rfl; rw [e] at t; cases t)]; exact t)
theorem Dens.thaw {vs : List V} {ps : List P} (e : H a = some (.frz o (.dK ws))) (h : Dens K as H vs ps) : Dens K as (upd H a u) vs ps :=
 match h with
 | .nil => .nil
 | .cons x r => .cons (Den.thaw e x) (Dens.thaw e r)
end
theorem ORep.thaw {b : Addr} {ob : O} (e : H a = some (.frz o (.dK ws))) (hb : b ≠ a) (h : ORep K as H b ob) : ORep K as (upd H a u) b ob := by
 cases ob with
 | lst xs => obtain ⟨vs, h1, h2⟩ := h; exact ⟨vs, by rw [Ye hb]; exact h1, h2.thaw e⟩
 | ro xs =>
  obtain ⟨vs, h1, h2⟩ := h
  refine ⟨vs, ?_, h2.thaw e⟩
  rcases h1 with ⟨o, h1⟩ | h1
  ·exact .inl ⟨o, by rw [Ye hb]; exact h1⟩
  ·exact .inr h1
 | dct kvs => obtain ⟨ws, h1, h2, h3⟩ := h; exact ⟨ws, by rw [Ye hb]; exact h1, h2, h3.thaw e⟩
 | exc c fs =>
  obtain ⟨C, od, h1, h2, h3⟩ := h
  refine ⟨C, od, h1, by rw [Ye hb]; exact h2, ?_⟩
  rcases h3 with h3 | ⟨d, ws, h4, h5, h6, h7⟩
  ·exact .inl h3
  ·exact .inr ⟨d, ws, h4, by rw [Ye (by rintro rfl; rw [e] at h5; cases h5)]; exact h5, h6, h7.thaw e⟩
 | dtt kvs => obtain ⟨ws, h1, h2, h3⟩ := h; exact ⟨ws, by rw [Ye hb]; exact h1, h2, h3.thaw e⟩
 | fdc kvs => obtain ⟨o, ws, h1, h2, h3⟩ := h; exact ⟨o, ws, by rw [Ye hb]; exact h1, h2, h3.thaw e⟩
theorem Rep.thaw {k : Nat} {kvs : List (Key × P)} (r : Rep K as st H) (hk : as[k]? = some a) (e : H a = some (.frz o (.dK ws))) (hs : st[k]? = some (.fdc kvs)) : Rep K as (st.set k (.dct kvs)) (upd H a (.dK ws)) where
 len := by rw [List.length_set]; exact r.len
 nd := fun i j b hi hj ni nj => by
  have key : ∀ (i : Nat), (¬ isRo (st.set k (.dct kvs))[i]?) -> ¬ isRo st[i]? := fun i ni z => by
   by_cases h : k = i
   ·subst h; rw [hs] at z; exact z
   ·rw [List.getElem?_set_ne h] at ni; exact ni z
  exact r.nd i j b hi hj (key i ni) (key j nj)
 ob := fun i b q hi hq => by
  have hkl : k < st.length := (List.getElem?_eq_some_iff.mp hs).1
  by_cases h : k = i
  ·subst h
   rw [hk] at hi; cases hi
   rw [List.getElem?_set_self hkl] at hq
   cases hq
   obtain ⟨o2, ws2, h1, h2, h3⟩ := r.ob k a _ hk hs
   rw [e] at h1; cases h1
   exact ⟨ws, Yh, h2, h3.thaw e⟩
  ·rw [List.getElem?_set_ne h] at hq
   have old := r.ob i b q hi hq
   by_cases hb : b = a
   ·subst hb
    by_cases hr : isRo st[i]?
    ·rw [hq] at hr
     cases q with
     | ro xs =>
      obtain ⟨vs, h1, h2⟩ := old
      refine ⟨vs, ?_, h2.thaw e⟩
      rcases h1 with ⟨ob, h1⟩ | h1
      ·rw [e] at h1; cases h1
      ·exact .inr h1
     | _ => exact hr.elim
    ·exact absurd (r.nd k i b hk hi (by rw [hs]; exact fun z => z) hr) h
   ·exact old.thaw e hb
theorem EnvOk.thaw {ρ : Rho} {σ : St} (e : H a = some (.frz o (.dK ws))) (h : EnvOk K as H ρ σ) : EnvOk K as (upd H a u) ρ σ :=
 ⟨h.len, fun i p q => let ⟨v, h1, h2⟩ := h.val i p q; ⟨v, h1, h2.thaw e⟩⟩
end
section
variable {X : Cx} {tg : Expr}
end
section
variable {X : Cx} {a b : Expr} {ma mb : ME} {pos : Pos}
end
section
variable {X : Cx} {e : Expr} {me : ME} {p1 c1 : Pos}
end
end Mi
namespace Mi
open PySem PySem.Spec L2
open PyProof.Rows hiding St
theorem slot_rev_next : Slot "reversed" "__next__" "reversed.__next__" :=
 .of (owner := "reversed") (n := "__next__") (by rw [typeLookup_type, builtinLookup_eq_fast]; kernel_rfl) (by decide +kernel) (by decide +kernel) (by decide +kernel)
  (by first | exact .inl (by decide +kernel) | exact .inr (by decide +kernel)) (by rw [isSubtype_type]; kernel_rfl)
theorem WB : Slot "reversed" "__iter__" "reversed.__iter__" :=
 .of (owner := "reversed") (n := "__iter__") (by rw [typeLookup_type, builtinLookup_eq_fast]; kernel_rfl) (by decide +kernel) (by decide +kernel) (by decide +kernel)
  (by first | exact .inl (by decide +kernel) | exact .inr (by decide +kernel)) (by rw [isSubtype_type]; kernel_rfl)
theorem slot_rev_hint : Slot "reversed" "__length_hint__" "reversed.__length_hint__" :=
 .of (owner := "reversed") (n := "__length_hint__") (by rw [typeLookup_type, builtinLookup_eq_fast]; kernel_rfl) (by decide +kernel) (by decide +kernel) (by decide +kernel)
  (by first | exact .inl (by decide +kernel) | exact .inr (by decide +kernel)) (by rw [isSubtype_type]; kernel_rfl)
theorem Yad : Slot "reversed" "__init__" "object.__init__" :=
 .of (owner := "object") (n := "__init__") (by rw [typeLookup_type, builtinLookup_eq_fast]; kernel_rfl) (by decide +kernel) (by decide +kernel) (by decide +kernel)
  (by first | exact .inl (by decide +kernel) | exact .inr (by decide +kernel)) (by rw [isSubtype_type]; kernel_rfl)
theorem Ycy : typeLookup (.type "reversed") "__len__" = pure none := by rw [typeLookup_type, builtinLookup_eq_fast]; kernel_rfl
theorem Yc0 : typeLookup (.type "str") "__reversed__" = pure none := by rw [typeLookup_type, builtinLookup_eq_fast]; kernel_rfl
theorem Wa : entryFor table "reversed.__next__" = some Builtin.«reversed.__next__» := entryFor_of_tree (by kernel_rfl)
theorem Jo : entryFor table "reversed.__length_hint__" = some Builtin.«reversed.__length_hint__» := entryFor_of_tree (by kernel_rfl)
theorem J1 : entryFor table "reversed.__new__" = some Builtin.«reversed.__new__» := entryFor_of_tree (by kernel_rfl)
theorem Jf : entryFor table "reversed.__iter__" = some Builtin.«dict_keyiterator.__iter__» :=
 entryFor_alias (id' := "dict_keyiterator.__iter__") (by kernel_rfl) rfl (by decide +kernel) (by kernel_rfl)
theorem WE (a : Value) : argsOk "reversed.__next__" ⟨[a], []⟩ := by unfold argsOk; kernel_rfl
theorem J6 (a : Value) : argsOk "reversed.__iter__" ⟨[a], []⟩ := by unfold argsOk; kernel_rfl
theorem Yai (a : Value) : argsOk "reversed.__length_hint__" ⟨[a], []⟩ := by unfold argsOk; kernel_rfl
theorem Ydi : mroOf (.type "reversed") = pure [.type "reversed", .type "object"] := by rw [mroOf_type]; kernel_rfl
theorem Jc : typeLookup (.type "reversed") "__new__" = pure (some (.builtin "reversed.__new__")) := by rw [typeLookup_type, builtinLookup_eq_fast]; kernel_rfl
theorem YcJ : TypeCalled "reversed" "reversed.__new__" "object.__init__" :=
 ⟨by decide +kernel, by decide +kernel, ⟨_, _, Ydi⟩, madeBy_type Ydi Jc (by decide +kernel), by decide +kernel, by rw [isSubtype_type]; kernel_rfl, Yad⟩
theorem Ya4 (a : Value) : checkTypeCall "reversed" ⟨[a], []⟩ = pure () := by kernel_rfl
theorem YbH (a : Value) : checkBuiltinCall "reversed.__new__" ⟨[.type "reversed", a], []⟩ = pure () := by kernel_rfl
theorem Ydb : isSubtype (.type "reversed") (.type "reversed") = pure true := by rw [isSubtype_type]; kernel_rfl
theorem Ybd : isSubtype (.type "str") (.type "dict") = pure false := by rw [isSubtype_type]; kernel_rfl
def revObj (f : Value) (i : Int) : Obj := { cls := .type "reversed", dict := none, data := .fields #[f, .int i 0], slots := #[] }
section
variable {prog : Program} {w : World} {A : Around} {E : Value -> Shared -> Prop} {s : Shared} {I : Addr} {z : Str} {t : Tok}
theorem YJ {f : Value} {i : Int} (h : s.heap.get? I = some (revObj f i)) : s.TypeIs (.ref I) "reversed" := ⟨_, h, rfl⟩
theorem Ygg {Q : Value -> Shared -> Prop} (hz : z.length <= cap)
 (h : Q (.ref s.heap.objs.size) { s with heap := s.heap.push (revObj (.str z t) ((z.length : Int) - 1)), toks := s.toks + 1 + 1 }) : wpAny (model prog w) A (call (.type "reversed") [.str z t]) Q E s := by
 have hfit : ¬ (z.length : Int) >= 2 ^ 63 := by have := Yi; have := line63; omega
 refine callType_new (S := fun _ R s => R (.ok (.ret (.ref s.heap.objs.size))) { s with heap := s.heap.push (revObj (.str z t) ((z.length : Int) - 1)), toks := s.toks + 1 + 1 }) YcJ (by decide) (Ya4 _) (YbH _) (fun obj => F.args_object_init_2 obj _) J1 (.of_wp fun prog w A R s h => ?_) ⟨⟨_, Heap.get?_push_size _ rfl, rfl⟩, h⟩
 obtain ⟨hp, g, d, tk, os⟩ := s
 have q1 := Ydb
 have q2 := Ybd
 have hT : Shared.TypeIs ⟨hp, g, d, tk, os⟩ (.str z t) "str" := rfl
 unfold Builtin.«reversed.__new__» Builtin.SmallTypes.newClass Builtin.SmallTypes.refuseKeywords
 wp_walk
 refine wpAny_of_eq Yc0 ?_
 dsimp only
 refine wpAny_bind ?_
 wp_delta
 wp_walk
 refine wpAny_of_eq F.slot_str_getitem.lookup ?_
 dsimp only
 rw [if_pos (by decide)]
 refine wpAny_pure ?_
 simp only [Bool.not_true, Bool.false_eq_true, if_false]
 refine wpAny_bind (PySem.P.len_str hfit ?_)
 refine wpAny_bind (wpAny_pure ?_)
 dsimp only
 unfold Builtin.SmallTypes.newRecord
 refine wpAny_bind (wpAny_newObj_type ?_)
 exact wpAny_pure ⟨_, rfl, h⟩
theorem Ye0 {i c : Nat} {Q : Option Value -> Shared -> Prop} (hI : s.heap.get? I = some (revObj (.str z t) i)) (hz : z.length <= cap) (hc : z.cps[i]? = some c)
 (h : ∀ h', h'.get? I = some (revObj (.str z t) ((i : Int) - 1)) -> Heap.SameBut I s.heap h' -> Q (some (.str ⟨#[c]⟩ (s.toks + 1))) { s with heap := h', toks := s.toks + 1 + 1 }) : wpAny (model prog w) A (pyNext (.ref I)) Q E s := by
 have hi : i < z.length := (Array.getElem?_eq_some_iff.mp hc).1
 have h63 : (i : Int) < 2 ^ 63 := by have := Yi; have := line63; omega
 unfold pyNext
 refine wpAny_bind (wpAny_attempt (wpAny_callSpecial?_slot (name := Str.ofString "__next__") (YJ hI) slot_rev_next
  (wpAny_call_entry slot_rev_next (YJ hI) Wa ?_ (WE _))))
 unfold Builtin.«reversed.__next__» slotArgs
 simp only [List.isEmpty_nil, Bool.not_true, Bool.false_eq_true, ↓reduceIte, List.length_nil, bne_self_eq_false]
 refine wpAny_bind (wpAny_pure ?_)
 dsimp only
 refine wpAny_bind (wpAny_field hI rfl (x := .str z t) rfl ?_)
 refine wpAny_bind (wpAny_field hI rfl (x := .int i 0) rfl ?_)
 dsimp only
 rw [if_neg (by omega)]
 refine wpAny_bind (wpAny_specialOf (typeIs_str s z t) F.slot_str_getitem.lookup ?_)
 simp only [Option.isNone_some, Bool.false_eq_true, if_false]
 refine wpAny_bind (wpAny_mkInt ?_)
 refine wpAny_bind (wpAny_attempt (PySem.P.getItem_str (c := c) (by
  have e1 : decide ((i : Int) < -(2 ^ 63 : Int)) = false := decide_eq_false (by omega)
  have e2 : decide ((i : Int) >= 2 ^ 63) = false := decide_eq_false (by omega)
  rw [e1, e2, Bool.or_false]) (by rw [seqIndex_of (Int.natCast_nonneg i) (by omega)]; simpa using hc) ?_))
 dsimp only
 refine wpAny_bind (wpAny_field (s := { s with toks := s.toks + 1 + 1 }) hI rfl (x := .int i 0) rfl ?_)
 dsimp only
 refine wpAny_bind (wpAny_setField_rec (s := { s with toks := s.toks + 1 + 1 }) hI (by simp) fun h1 g1 b1 => ?_)
 exact wpAny_pure ⟨_, rfl, wpAny_pure (h h1 (by rw [g1]; simp [revObj, rawInt]) b1)⟩
theorem YeF {α : Type} {h0 : Heap} (hh : A.handled = none) (k : Heap.ExtBut I h0 s.heap) {P : α -> Shared -> Prop}
 (h : ∀ h' x, Heap.ExtBut I h0 h' -> (∃ o, h'.get? x = some o /\ o.cls = .type "StopIteration") -> E (.ref x) { s with heap := h' }) :
 wpAny (model prog w) A (do raiseNew (<- newExc (.type "StopIteration") [])) P E s := by
 refine wpAny_bind ?_
 simp only [newExc, newTuple]
 refine wpAny_bind (wpAny_newObj_type ?_ (by size_fits))
 refine wpAny_bind (m := firstArgMember _ _) (wpAny_of_eq (a := Value.none) (by first | rfl | (simp only [firstArgMember]; rfl)) ?_)
 refine wpAny_newObj_type ?_ (by size_fits)
 simp only [raiseNew]
 refine wpAny_bind (wpAny_handled ?_)
 rw [hh]
 refine wpAny_bind (wpAny_pure (wpAny_throw ?_))
 exact h _ _ ((k.push _).push _) ⟨_, Heap.get?_push_size _ rfl, rfl⟩
theorem YgW {Q : Option Value -> Shared -> Prop} (hh : A.handled = none) (hI : s.heap.get? I = some (revObj (.str z t) (-1)))
 (h : ∀ h', Heap.ExtBut I s.heap h' -> Q none { s with heap := h' }) : wpAny (model prog w) A (pyNext (.ref I)) Q E s := by
 unfold pyNext
 refine wpAny_bind (wpAny_attempt (wpAny_callSpecial?_slot (name := Str.ofString "__next__") (YJ hI) slot_rev_next
  (wpAny_call_entry slot_rev_next (YJ hI) Wa ?_ (WE _))))
 unfold Builtin.«reversed.__next__» slotArgs
 simp only [List.isEmpty_nil, Bool.not_true, Bool.false_eq_true, ↓reduceIte, List.length_nil, bne_self_eq_false]
 refine wpAny_bind (wpAny_pure ?_)
 dsimp only
 refine wpAny_bind (wpAny_field hI rfl (x := .str z t) rfl ?_)
 refine wpAny_bind (wpAny_field hI rfl (x := .int (-1) 0) rfl ?_)
 dsimp only
 rw [if_pos (by omega)]
 refine wpAny_bind (wpAny_rule ?_)
 refine wpAny_bind ?_
 wp_delta
 refine wpAny_bind (wpAny_setField_rec hI (by simp) fun h1 g1 b1 => ?_)
 refine wpAny_setField_rec (s := { s with heap := h1 }) g1 (by simp) fun h2 g2 b2 => ?_
 refine wpAny_bind ?_
 unfold Builtin.SmallTypes.stopIteration
 refine YeF (h0 := s.heap) (s := { s with heap := h2 }) (A := A.in1) hh (b1.trans b2).extBut fun h3 x k ⟨o, ho, hc⟩ => ?_
 refine wpAny_bind (wpAny_isInstance (T := "StopIteration") (b := true) ⟨o, ho, hc⟩ isSubtype_stop ?_)
 exact wpAny_pure (h _ k)
theorem YbL {f : Value} {i : Int} (hI : s.heap.get? I = some (revObj f i)) {Q : Value -> Shared -> Prop} (h : Q (.ref I) s) : wpAny (model prog w) A (pyIter (.ref I)) Q E s := by
 refine wpAny_pyIter_slot (YJ hI) WB (wpAny_call_entry WB (YJ hI) Jf ?_ (J6 _))
 show wpAny _ _ (ret (.ref I)) _ _ s
 exact wpAny_pure ⟨_, rfl, "reversed", _, YJ hI, slot_rev_next.lookup, h⟩
theorem YfU {i : Int} (hI : s.heap.get? I = some (revObj (.str z t) i)) (hz : z.length <= cap) (hi : i + 1 <= z.length) (h0 : 0 <= i + 1) {Q : Bool -> Shared -> Prop} (h : ∀ b, Q b { s with toks := s.toks + 1 + 1 + 1 }) : wpAny (model prog w) A (Builtin.List.listLengthHint (.ref I)) Q E s := by
 unfold Builtin.List.listLengthHint
 refine wpAny_bind (wpAny_specialOf (YJ hI) Ycy ?_)
 show wpAny _ _ (specialOf (Value.ref I) (Str.ofString "__length_hint__") >>= _) _ _ _
 refine wpAny_bind (wpAny_specialOf (YJ hI) slot_rev_hint.lookup ?_)
 generalize hid : ("reversed.__length_hint__" : String) = id0
 wp_delta
 rw [show splitId id0 = some ("reversed", "__length_hint__") from by subst hid; decide +kernel]
 subst hid
 refine wpAny_bind (wpAny_isInstance (T := "reversed") (b := true) (YJ hI) Ydb ?_)
 simp only [Bool.not_true, Bool.false_eq_true, if_false]
 refine wpAny_ite_split (fun hab => absurd hab (by decide +kernel)) (fun _ => ?_)
 refine wpAny_bind (wpAny_rule ?_)
 refine wpAny_bind (wpAny_of_eq (slot_rev_hint.bind (.ref I)) ?_)
 dsimp only
 refine wpAny_bind (wpAny_attempt (wpAny_call_entry slot_rev_hint (YJ hI) Jo ?_ (Yai _)))
 unfold Builtin.«reversed.__length_hint__»
 refine wpAny_bind (wpAny_pure ?_)
 refine wpAny_bind (wpAny_field hI rfl (x := .str z t) rfl ?_)
 have hfit : ¬ (z.length : Int) >= 2 ^ 63 := by have := Yi; have := line63; omega
 rw [if_neg (show ¬ (Value.str z t == Value.none) = true from Bool.false_ne_true)]
 refine wpAny_bind (PySem.P.len_str hfit ?_)
 refine wpAny_bind (wpAny_pure ?_)
 dsimp only
 refine wpAny_bind (wpAny_field (s := { s with toks := s.toks + 1 + 1 }) hI rfl (x := .int i 0) rfl ?_)
 dsimp only
 rw [if_neg (by omega)]
 refine wpAny_bind (wpAny_mkInt (wpAny_pure ⟨_, rfl, ?_⟩))
 dsimp only
 refine wpAny_bind (wpAny_pure ?_)
 dsimp only
 have h63 := line63
 have hcl := Yi
 have e1 : Builtin.List.listFitsIndex (i + 1) = true := by
  unfold Builtin.List.listFitsIndex
  simp only [Bool.and_eq_true, decide_eq_true_eq]
  omega
 have e2 : Builtin.List.listTooLong (i + 1).toNat = false := by
  unfold Builtin.List.listTooLong
  exact decide_eq_false (by omega)
 rw [e1]
 simp only [Bool.not_true, Bool.false_eq_true, if_false]
 rw [if_neg (by omega), e2]
 simp only [Bool.false_eq_true, if_false]
 exact wpAny_pure (h _)
abbrev oneC (c : Nat) : Str := ⟨#[c]⟩
theorem Ygo {R : Result -> Shared -> Prop} (hh : A.handled = none) (hz : z.length <= cap) (B : Nat) (L : Addr) (hLI : L ≠ I) (res : Value) : ∀ (k : Nat) (s : Shared) (l : List (Str × Tok)) (c : Nat), k <= z.length -> s.heap.get? I = some (revObj (.str z t) ((k : Int) - 1)) ->
 s.heap.get? L = some { cls := .type "list", dict := none, data := .seq (strValues l).toArray c, slots := #[] } -> l.map (·.1) = (z.cps.toList.drop k).reverse.map oneC -> (∀ p ∈ l, B <= p.2 /\ p.2 < s.toks) -> B <= s.toks ->
 (∀ s' l' c', (∀ b o, b ≠ L -> b ≠ I -> s.heap.get? b = some o -> s'.heap.get? b = some o) -> s'.gens = s.gens -> s'.drawn = s.drawn -> s'.os = s.os -> s.toks <= s'.toks -> s'.heap.get? L = some { cls := .type "list", dict := none, data := .seq (strValues l').toArray c', slots := #[] } ->
  l'.map (·.1) = z.cps.toList.reverse.map oneC -> (∀ p ∈ l', B <= p.2 /\ p.2 < s'.toks) -> R (.ok (.ret res)) s') ->
 codeAny (model prog w) A (.builtin "list.extend.loop" ⟨[.ref L, .ref I, res], []⟩) R s := by
 intro k
 induction k with
 | zero =>
  intro s l c hk hI hL hl hp hB hR
  refine codeAny_builtin F.entry_extend_loop ?_
  rw [Around.under_plainId F.plain_extend_loop _]
  show wpAny _ A.in1 (pyNext (.ref I) >>= _) _ _ s
  refine wpAny_bind (YgW (A := A.in1) hh (by simpa using hI) fun h' hx => ?_)
  exact wpAny_pure (hR _ l c (fun b o _ hb e => hx b o hb e) rfl rfl rfl (Nat.le_refl _) (hx _ _ hLI hL) (by simpa using hl) hp)
 | succ k ih =>
  intro s l c hk hI hL hl hp hB hR
  have hlt : k < z.cps.size := hk
  have hc : z.cps[k]? = some z.cps[k] := by simp [hlt]
  have hlen : l.length = z.cps.size - (k + 1) := by
   have := congrArg List.length hl
   simpa using this
  have hcl := Yi
  have hzl : z.cps.size <= cap := hz
  refine codeAny_builtin F.entry_extend_loop ?_
  rw [Around.under_plainId F.plain_extend_loop _]
  show wpAny _ A.in1 (pyNext (.ref I) >>= _) _ _ s
  refine wpAny_bind (Ye0 (A := A.in1) (i := k) (c := z.cps[k]) (by rw [hI]; congr 2; omega) hz hc fun h' g' sb => ?_)
  have hL' : h'.get? L = some { cls := .type "list", dict := none, data := .seq (strValues l).toArray c, slots := #[] } := (sb.2 L hLI).trans hL
  show wpAny _ A.in1 (updateSeq L (·.push (.str ⟨#[z.cps[k]]⟩ (s.toks + 1))) >>= _) _ _ _
  refine wpAny_bind ?_
  obtain ⟨c2, hc2⟩ : ∃ c2, (h'.update L (Obj.mapSeq (·.push (.str ⟨#[z.cps[k]]⟩ (s.toks + 1))))).get? L = some { cls := .type "list", dict := none, data := .seq (strValues (l ++ [(⟨#[z.cps[k]]⟩, s.toks + 1)])).toArray c2, slots := #[] } := by
   have u := get?_update_seq (c := "list") (xs := (strValues l).toArray) (n := c) hL' (·.push (.str ⟨#[z.cps[k]]⟩ (s.toks + 1)))
   have e : (strValues l).toArray.push (.str ⟨#[z.cps[k]]⟩ (s.toks + 1)) = (strValues (l ++ [(⟨#[z.cps[k]]⟩, s.toks + 1)])).toArray := by simp [strValues]
   rw [<- e]
   exact ⟨_, u⟩
  refine wpAny_updateSeq (s := { s with heap := h', toks := s.toks + 1 + 1 }) hL' rfl (wpAny_pure ⟨plainId_quiet F.plain_extend_loop _, ih _ (l ++ [(⟨#[z.cps[k]]⟩, s.toks + 1)]) c2 (by omega) ?_ hc2 ?_ ?_ ?_ fun s'' l'' c'' k1 k2 k3 k4 k5 k6 k7 k8 => ?_⟩) ?_ ?_
  ·exact (Heap.get?_update_other _ _ hLI).trans g'
  ·rw [List.map_append, hl]
   have hd : z.cps.toList.drop k = z.cps[k] :: z.cps.toList.drop (k + 1) := by
    rw [List.drop_eq_getElem_cons (by simpa using hlt)]; simp
   rw [hd]; simp
  ·intro p hp'
   rcases List.mem_append.mp hp' with q | q
   ·have := hp p q
    exact ⟨this.1, Nat.lt_of_lt_of_le this.2 (Nat.le_trans (Nat.le_succ _) (Nat.le_succ _))⟩
   ·rw [List.mem_singleton.mp q]
    exact ⟨by show B <= s.toks + 1; omega, by show s.toks + 1 < s.toks + 1 + 1; omega⟩
  ·show B <= s.toks + 1 + 1; omega
  ·refine hR s'' l'' c'' (fun b o b1 b2 e => k1 b o b1 b2 ((Heap.get?_update_other _ _ (Ne.symm b1)).trans ((sb.2 b b2).trans e))) k2 k3 k4 (by have : s.toks + 1 + 1 <= s''.toks := k5; omega) k6 k7 k8
  ·show (strValues l).toArray.size <= sizeLine
   simp [strValues, hlen]; omega
  ·show ((strValues l).toArray.push _).size <= sizeLine + 1
   simp [strValues, hlen]; omega
theorem YcA (sep : Str) (t : Tok) (a : Addr) : ∃ (lst : Sem PySem.Fin) (k : Value -> Sem Value), Builtin.«str.join» ⟨[.str sep t, .ref a], []⟩ = (do
 let ty <- typeOf (.ref a)
 if (ty == .type "list" || ty == .type "tuple") = true then lst
 else (do
  let it <- tryCatch (pyIter (.ref a)) k
  let items <- collect it
  joinTail sep items)) := ⟨_, _, rfl⟩
end
section
variable {prog : Program} {w : World} {A : Around} {E : Value -> Shared -> Prop} {s : Shared} {I : Addr} {z : Str} {t : Tok}
theorem Ycb {R : List Value -> Shared -> Prop} (hh : A.handled = none) (hz : z.length <= cap) (hI : s.heap.get? I = some (revObj (.str z t) ((z.length : Int) - 1)))
 (h : ∀ (s' : Shared) (l : List (Str × Tok)), (∀ b o, b ≠ I -> s.heap.get? b = some o -> s'.heap.get? b = some o) -> s'.gens = s.gens -> s'.drawn = s.drawn -> s'.os = s.os -> s.toks <= s'.toks -> l.map (·.1) = z.cps.toList.reverse.map oneC -> (∀ p ∈ l, s.toks <= p.2 /\ p.2 < s'.toks) -> R (strValues l) s') :
 wpAny (model prog w) A (collect (.ref I)) R E s := by
 have hlt : I < s.heap.objs.size := Heap.lt_size hI
 have hLI : s.heap.objs.size ≠ I := Nat.ne_of_gt hlt
 unfold collect
 refine wpAny_bind (wpAny_runValue (codeAny_builtin F.entry_proto_collect ?_))
 rw [Around.under_plainId F.plain_proto_collect _]
 show wpAny _ A.in1 (newList [] >>= fun l => again (.builtin "list.__iadd__" ⟨[l, .ref I], []⟩)) _ _ s
 refine wpAny_bind (wpAny_newObj_type ?_)
 refine wpAny_pure ⟨plainId_quiet F.plain_list_iadd _, codeAny_builtin F.entry_list_iadd ?_⟩
 rw [Around.under_plainId F.plain_list_iadd _]
 have hI1 : (s.heap.push { cls := .type "list", data := .seq ([] : List Value).toArray }).get? I = some (revObj (.str z t) ((z.length : Int) - 1)) := Heap.get?_push_of_some _ hI
 show wpAny _ A.in1 (Builtin.List.listExtendWith (.ref s.heap.objs.size) (.ref I) (.ref s.heap.objs.size)) _ _ _
 unfold Builtin.List.listExtendWith
 refine wpAny_bind (wpAny_typeOf (T := "reversed") ⟨_, hI1, rfl⟩ ?_)
 have h1 : Builtin.List.listSameRef (.ref s.heap.objs.size) (.ref I) = false := by simp [Builtin.List.listSameRef, hLI]
 have h2 : (Value.type "reversed" == Value.type "list") = false := by decide
 have h3 : (Value.type "reversed" == Value.type "tuple") = false := by decide
 simp only [h1, h2, h3, Bool.or_false, Bool.false_eq_true, if_false]
 refine wpAny_bind (YbL (s := { s with heap := s.heap.push { cls := .type "list", data := .seq ([] : List Value).toArray } }) hI1 ?_)
 refine wpAny_bind (wpAny_holding (YfU (s := { s with heap := s.heap.push { cls := .type "list", data := .seq ([] : List Value).toArray } }) hI1 hz (by omega) (by omega) fun room => ?_))
 have hS₁ : (s.heap.push { cls := .type "list", data := .seq ([] : List Value).toArray }).get? s.heap.objs.size = some { cls := .type "list", data := .seq (strValues []).toArray } := Heap.get?_push_size _ rfl
 have key : ∀ (hp : Heap) (c₁ : Nat), hp.get? I = some (revObj (.str z t) ((z.length : Int) - 1)) -> (∀ b o, s.heap.get? b = some o -> hp.get? b = some o) -> hp.get? s.heap.objs.size = some { cls := .type "list", data := .seq (strValues []).toArray c₁ } ->
  codeAny (model prog w) A (.builtin "list.extend.loop" ⟨[.ref s.heap.objs.size, .ref I, .ref s.heap.objs.size], []⟩)
   (fun (q : Result) (s' : Shared) => ∃ (l : List (Str × Tok)) (c : Nat), q = .ok (.ret (.ref s.heap.objs.size)) /\ (∀ b o, b ≠ I -> s.heap.get? b = some o -> s'.heap.get? b = some o) /\ s'.gens = s.gens /\ s'.drawn = s.drawn /\ s'.os = s.os /\ s.toks <= s'.toks /\ s'.heap.get? s.heap.objs.size = some { cls := .type "list", dict := none, data := .seq (strValues l).toArray c, slots := #[] } /\ l.map (·.1) = z.cps.toList.reverse.map oneC /\ ∀ p ∈ l, s.toks <= p.2 /\ p.2 < s'.toks)
   { s with heap := hp, toks := s.toks + 1 + 1 + 1 } := by
  intro hp c₁ g1 g2 g3
  refine Ygo hh hz s.toks s.heap.objs.size hLI (.ref s.heap.objs.size) z.length _ [] c₁ (Nat.le_refl _) g1 g3 (by simp [Str.length]) (fun p hp' => absurd hp' (by simp)) (by show s.toks <= s.toks + 1 + 1 + 1; omega) fun s' l' c' k1 k2 k3 k4 k5 k6 k7 k8 => ?_
  exact ⟨l', c', rfl, fun b o hb e => k1 b o (Nat.ne_of_lt (Heap.lt_size e)) hb (g2 b o e), k2, k3, k4, by have : s.toks + 1 + 1 + 1 <= s'.toks := k5; omega, k6, k7, k8⟩
 have fin : ∀ (q : Result) (s' : Shared), (∃ (l : List (Str × Tok)) (c : Nat), q = .ok (.ret (.ref s.heap.objs.size)) /\ (∀ b o, b ≠ I -> s.heap.get? b = some o -> s'.heap.get? b = some o) /\ s'.gens = s.gens /\ s'.drawn = s.drawn /\ s'.os = s.os /\ s.toks <= s'.toks /\ s'.heap.get? s.heap.objs.size = some { cls := .type "list", dict := none, data := .seq (strValues l).toArray c, slots := #[] } /\ l.map (·.1) = z.cps.toList.reverse.map oneC /\ ∀ p ∈ l, s.toks <= p.2 /\ p.2 < s'.toks) ->
  ∃ v, q = .ok (.ret v) /\ wpAny (model prog w) A (match v with
   | .ref a => (do match (<- load a).data with | .seq xs _ => pure xs.toList | _ => unsupported "internal:collect")
   | _ => unsupported "internal:collect") R E s' := fun q s' ⟨l, c, e, k1, k2, k3, k4, k5, k6, k7, k8⟩ => by
  refine ⟨_, e, ?_⟩
  dsimp only
  refine wpAny_bind (wpAny_load k6 ?_)
  have := h s' l k1 k2 k3 k4 k5 k7 k8
  exact wpAny_pure (by simpa using this)
 refine wpAny_ite_split (fun _ => ?_) (fun _ => wpAny_pure ⟨plainId_quiet F.plain_extend_loop _, codeAny_mono (key _ 0 hI1 (fun b o e => Heap.get?_push_of_some _ e) hS₁) fun q s' x => ?_⟩)
 ·refine wpAny_bind (wpAny_rule ?_)
  refine wpAny_bind ?_
  show wpAny _ _ (updateSeq s.heap.objs.size (·.push .none) >>= fun _ => updateSeq s.heap.objs.size (·.pop)) _ _ _
  refine wpAny_bind (wpAny_updateSeq (s := { s with heap := s.heap.push { cls := .type "list", data := .seq ([] : List Value).toArray }, toks := s.toks + 1 + 1 + 1 }) hS₁ rfl ?_)
  have hS₂ := Heap.get?_update_self (Obj.mapSeq (·.push Value.none)) hS₁ rfl
  refine wpAny_updateSeq (hz := by seq_fits) hS₂ rfl ?_
  have hS₃ := Heap.get?_update_self (Obj.mapSeq (·.pop)) hS₂ rfl
  refine wpAny_pure ⟨plainId_quiet F.plain_extend_loop _, codeAny_mono (key _ _ ?_ (fun b o e => ?_) hS₃) fun q s' x => ?_⟩
  ·exact (Heap.get?_update_other _ _ hLI).trans ((Heap.get?_update_other _ _ hLI).trans hI1)
  ·have hb : s.heap.objs.size ≠ b := Nat.ne_of_gt (Heap.lt_size e)
   exact (Heap.get?_update_other _ _ hb).trans ((Heap.get?_update_other _ _ hb).trans (Heap.get?_push_of_some _ e))
  ·obtain ⟨v, rfl, q⟩ := fin q s' x
   exact q
 ·obtain ⟨v, rfl, q⟩ := fin q s' x
  exact q
theorem JN (x : Str) (tx : Tok) (I : Addr) (z : Str) (t : Tok) (hz : z.length <= cap) (hl : ((z.cps.toList.reverse.map oneC).map (·.length)).sum + (z.cps.toList.reverse.map oneC).length * x.length <= 16777216) :
 Meets (Builtin.«str.join» ⟨[.str x tx, .ref I], []⟩) (fun A R s => A.handled = none /\ s.heap.get? I = some (revObj (.str z t) ((z.length : Int) - 1)) /\
  ∀ (s' : Shared) (l : List (Str × Tok)), (∀ b o, b ≠ I -> s.heap.get? b = some o -> s'.heap.get? b = some o) -> s'.gens = s.gens -> s'.drawn = s.drawn -> s'.os = s.os -> s.toks <= s'.toks -> l.map (·.1) = z.cps.toList.reverse.map oneC -> (∀ p ∈ l, s.toks <= p.2 /\ p.2 < s'.toks) -> (joinMade x l).post (fun v s' => R (.ok (.ret v)) s') s') := by
 obtain ⟨lst, k, htree⟩ := YcA x tx I
 intro prog w A R s ⟨hh, hI, h⟩
 rw [htree]
 refine wpAny_bind (wpAny_typeOf (T := "reversed") ⟨_, hI, rfl⟩ ?_)
 rw [if_neg (by decide)]
 refine wpAny_bind (wpAny_tryCatch (YbL hI ?_))
 refine wpAny_bind (Ycb (A := A.in1) hh hz hI fun s' l k1 k2 k3 k4 k5 k6 k7 => ?_)
 have hok' := joinOk_of hl
 unfold JoinOk at hok'
 rw [Bool.not_eq_true', <- k6] at hok'
 have g : Gives (joinTail x (strValues l)) (joinMade x l) := by
  have g0 := gives_joinTail x l hok'
  cases l with
  | nil => exact g0
  | cons p r => cases r with
   | nil => exact g0
   | cons q r' => exact g0
 exact g prog w A R s' (h s' l k1 k2 k3 k4 k5 k6 k7)
end
def eJoinR (me mx : ME) : ME := fun ρ st => (me ρ st).bind fun p st1 => match p with
 | .str s => (mx ρ st1).bind fun q st2 => match q with
  | .str x => if joinLen s (x.cps.toList.map fun c => ⟨#[c]⟩) <= cap then .ok (.str (Txt.join s (x.cps.toList.reverse.map fun c => ⟨#[c]⟩))) st2 else .bad
  | _ => .bad
 | _ => .bad
theorem YbY : bootBuiltins "reversed" = some (.type "reversed") := by decide +kernel
section
variable {X : Cx} {o e : Expr} {me mx : ME} {p apos pos cpos : Pos}
theorem Ye5 (hc : X.calm = true) (ho : JE X o me) (hg : Gl X "reversed") (hm : X.mg "reversed" = none) (hv : bootBuiltins "reversed" = some (.type "reversed")) (hx : JE X e mx)
 (hbase : attributeBase o "join" X.env (eval o X.env) = eval o X.env := by rfl)
 (hfew : ((backTo cpos (starEach [.Call (.Name "reversed" p) [e] [] pos] X.env)).all (fun x => !x.1) && (backToKw cpos (keywordEach [] X.env)).all (fun x => x.1.isSome)
  && decide (([.Call (.Name "reversed" p) [e] [] pos] : List Expr).length + ([] : List Keyword).length + (if ([] : List Keyword).isEmpty then 0 else 1) < 30)) = true := by rfl)
 (hline : (apos.endLine == cpos.line) = true := by rfl) (hs : starEach [.Call (.Name "reversed" p) [e] [] pos] X.env = (false, eval (.Call (.Name "reversed" p) [e] [] pos) X.env) :: starEach [] X.env := by rfl)
 (hs2 : starEach [e] X.env = (false, eval e X.env) :: starEach [] X.env := by rfl) :
 JE X (.Call (.Attribute o "join" apos) [.Call (.Name "reversed" p) [e] [] pos] [] cpos) (eJoinR me mx) := by
 intro pins s σ H Q I ⟨as, ρ, st, en, rp, h⟩
 refine wpAny_Call_method_late hbase hfew hline rfl (thn (ho pins s σ H (fun v H1 => ∃ y ty as1 st1, v = .str y ty /\ EnvOk X.K as1 H1 ρ σ /\ Rep X.K as1 st1 H1 /\ Post X as1 H1 ρ ((mx ρ st1).bind fun q st2 => match q with
  | .str x => if joinLen y (x.cps.toList.map fun c => ⟨#[c]⟩) <= cap then .ok (.str (Txt.join y (x.cps.toList.reverse.map fun c => ⟨#[c]⟩))) st2 else .bad
  | _ => .bad) Q) I ⟨as, ρ, st, en, rp, Post.bindE h fun p st1 as1 H1 v x rp1 d h1 => ?_⟩) fun v s1 ⟨x, H1, I1, r1, y, ty, as1, st1, e1, en1, rp1, h1⟩ => ?_)
 ·cases d with
  | @str y ty _ _ =>
   exact ⟨y, ty, as1, st1, rfl, en.ext x, rp1, h1⟩
  | _ => exact h1.elim
 ·subst e1
  cases r1
  refine ⟨"str", "str.join", PySem.F.plainAttrs_str, PySem.F.slot_str_join, PySem.F.type_str_join, typeIs_str _ _ _, (fun a e => nomatch e), ?_⟩
  rw [hs]
  refine Calls.callWith_builtin rfl (Calls.evalArgs_plain ?_)
  show wpAny _ _ (spliced ((false, eval (.Call (.Name "reversed" p) [e] [] pos) X.env) :: backTo cpos (starEach [] X.env))) _ _ s1
  refine Calls.spliced_cons ?_
  refine wpAny_Call_Name_kw (ZT I1 hg hm hv ?_ (by decide) (by decide))
  refine PyProof.Rows.callWith_type1 ?_ hs2 rfl
  rw [hs2]
  show wpAny _ _ (spliced ((false, eval e X.env) :: backTo pos (starEach [] X.env))) _ _ s1
  refine Calls.spliced_cons ?_
  refine thn (hx pins s1 σ H1 (fun v H2 => ∃ z tz as2 st2, v = .str z tz /\ Rep X.K as2 st2 H2 /\ joinLen y (z.cps.toList.map fun c => ⟨#[c]⟩) <= cap /\ Post X as2 H2 ρ (.ok (.str (Txt.join y (z.cps.toList.reverse.map fun c => ⟨#[c]⟩))) st2) Q) I1 ⟨as1, ρ, st1, en1, rp1, Post.bindE h1 fun p st2 as2 H2 v x rp2 d h2 => ?_⟩) fun u s2 ⟨x2, H2, I2, r2, z, tz, as2, st2, e2, rp2, hlen, h2⟩ => ?_
  ·cases d with
   | @str z tz _ _ =>
    have h2' : Post X as2 H2 ρ (if joinLen y (z.cps.toList.map fun c => ⟨#[c]⟩) <= cap then .ok (.str (Txt.join y (z.cps.toList.reverse.map fun c => ⟨#[c]⟩))) st2 else .bad) Q := h2
    by_cases hz : joinLen y (z.cps.toList.map fun c => ⟨#[c]⟩) <= cap
    ·rw [if_pos hz] at h2'
     exact ⟨z, tz, as2, st2, rfl, rp2, hz, h2'⟩
    ·rw [if_neg hz] at h2'; exact h2'.elim
   | _ => exact h2.elim
  ·subst e2
   cases r2
   refine Calls.spliced_nil ?_
   have hsum : ∀ (l : List Nat), ((l.map oneC).map (·.length)).sum = l.length := fun l => by
    induction l with
    | nil => rfl
    | cons a l ih => simp only [List.map_cons, List.sum_cons, ih, List.length_cons]; show 1 + _ = _; omega
   have hlz : z.length <= cap := by
    have q0 : ((z.cps.toList.map oneC).map (·.length)).sum + (z.cps.toList.map oneC).length * y.length <= cap := hlen
    rw [hsum] at q0
    have e : z.length = z.cps.toList.length := by simp [Str.length]
    omega
   have hl2 : ((z.cps.toList.reverse.map oneC).map (·.length)).sum + (z.cps.toList.reverse.map oneC).length * y.length <= 16777216 := by
    have q1 : ((z.cps.toList.map oneC).map (·.length)).sum + (z.cps.toList.map oneC).length * y.length <= cap := hlen
    rw [hsum] at q1 ⊢
    simp only [List.length_map, List.length_reverse] at q1 ⊢
    exact Nat.le_trans q1 (by decide)
   refine Ygg hlz ?_
   refine Calls.spliced_nil ?_
   have gI : (s2.heap.push (revObj (.str z tz) ((z.length : Int) - 1))).get? s2.heap.objs.size = some (revObj (.str z tz) ((z.length : Int) - 1)) := Heap.get?_push_size _ rfl
   refine call_meets PySem.F.slot_str_join (typeIs_str _ _ _) PySem.F.entry_str_join (PySem.F.args_str_join_2 _ _) (JN y ty s2.heap.objs.size z tz hlz hl2) ⟨I2.ok.hd hc, gI, fun s' l k1 k2 k3 k4 k5 k6 k7 => ?_⟩
   have keep : ∀ b o, s2.heap.get? b = some o -> s'.heap.get? b = some o := fun b o e => k1 b o (Nat.ne_of_lt (Heap.lt_size e)) (Heap.get?_push_of_some _ e)
   have le2 : s2.toks <= s'.toks := Nat.le_trans (Nat.le_trans (Nat.le_succ _) (Nat.le_succ _)) k5
   have I3 : Inv X pins σ H2 s' := by
    have I3a : Inv X pins σ H2 { s2 with heap := s'.heap, toks := s'.toks } := I2.kept keep le2
    obtain ⟨hp, gg, dd, tk, oo⟩ := s'
    obtain rfl : gg = s2.gens := k2
    obtain rfl : dd = s2.drawn := k3
    obtain rfl : oo = s2.os := k4
    exact I3a
   have ez : (z.cps.toList.reverse.map oneC) = l.map (·.1) := k6.symm
   have fit : (Txt.join y (l.map (·.1))).length <= sizeLine := by
    have := joinOk_of hl2
    unfold JoinOk at this
    rw [Bool.not_eq_true'] at this
    rw [<- ez]
    exact joinFit_length this
   refine WM fit (fun y0 u e0 => ?_) ?_
   ·have e1 : l = [(y0, u)] := by
     match l, e0 with
     | [(a, b)], e0 => cases e0; rfl
    subst e1
    have ku := k7 (y0, u) (List.mem_cons_self ..)
    have lu : s2.toks <= u := Nat.le_trans (Nat.le_trans (Nat.le_succ _) (Nat.le_succ _)) ku.1
    have I4 : Inv X pins σ (H2.put u y0) s' := I3.un (h' := s'.heap) (t' := s'.toks) Un.put I3.hok.put (I2.tk.put lu ku.2)
    have fr := I2.fresh_tok lu
    refine ⟨.str y0 u, _, I4, rfl, h2 as2 _ _ (Ext.put fr.1) (rp2.put fr.1) ?_⟩
    have ez' : (z.cps.toList.reverse.map fun c => (⟨#[c]⟩ : Str)) = [y0] := ez
    rw [ez']
    exact .str (if_pos rfl) fr.2
   ·rw [<- ez]
    exact ⟨.str _ _, _, I3.txt, rfl, (mkT rp2 fun as1 H1 v x r d => h2 as1 H1 v x r d) _ I3.fresh_tok.1 I3.fresh_tok.2⟩
def replaceP : GM := fun p ps st => match p, ps with
 | .str x, [.str y, .str z] => if x.length + (x.length + 1) * z.length <= cap /\ y ≠ z then okP (.str (Txt.replace x y z)) st else none
 | _, _ => none
theorem Jz : MtR X "str.replace" (rMM X replaceP) := mM fun pins s σ H x xs v us Q as st p ps I rx rv rp d1 d2 h => by
 cases d1 with
 | @str z tz hz zz =>
  cases d2 with
  | nil => exact h.elim
  | cons da r =>
   cases r with
   | nil => cases da <;> exact h.elim
   | cons db r =>
    cases r with
    | cons _ _ => cases da <;> first | exact h.elim | (cases db <;> exact h.elim)
    | nil =>
     cases da with
     | @str y ty hy zy =>
      cases db with
      | @str b tb hb zb =>
       have h' : PostO X as H (if z.length + (z.length + 1) * b.length <= cap /\ y ≠ b then okP (.str (Txt.replace z y b)) st else none) Q := h
       by_cases hc : z.length + (z.length + 1) * b.length <= cap /\ y ≠ b
       ·rw [if_pos hc] at h'
        obtain ⟨u, w, rfl, ru, rw⟩ := rv.two
        cases rx
        cases ru
        cases rw
        have huv : ty ≠ tb := fun e => by
         subst e
         rw [hy] at hb
         exact hc.2 (Option.some.inj hb)
        have hyz : (y == b) = false := by simpa using hc.2
        have hl16 : z.length + (z.length + 1) * b.length <= 16777216 := Nat.le_trans hc.1 (by decide)
        have hl : Builtin.Str.tooLong (z.length + (Builtin.Str.occurrences z y 0 z.length (z.length + 1)).length * b.length) = false := by
         have h1 := StrLaws.occ_length_le z y 0 z.length (z.length + 1)
         have h2 : (Builtin.Str.occurrences z y 0 z.length (z.length + 1)).length * b.length <= (z.length + 1) * b.length := Nat.mul_le_mul_right _ h1
         unfold Builtin.Str.tooLong sizeLine
         exact decide_eq_false (by omega)
        refine call_gives PySem.F.slot_str_replace (typeIs_str _ _ _) PySem.F.entry_str_replace (PySem.F.args_str_replace_3 _ _ _)
         (gives_str_replace z y b tz ty tb fun _ => ⟨by simp [zy, zb], by simp [huv], hyz, hl⟩) ?_
        have hq : MkT (Txt.replace z y b) Q H := mkT rp fun as1 H1 v x r d => h' as1 H1 v x r d
        have hq0 : Txt.replace z y b = z -> Q (.str z tz) H := fun e => h' as H _ Ext.refl rp (by rw [e]; exact .str hz zz)
        unfold Txt.replace at hq hq0
        refine YaU (fun c => ⟨.str z tz, H, I, rfl, hq0 (if_pos c)⟩) fun c => ?_
        rw [if_neg c] at hq
        exact ⟨fits_replaced y hl16, .str _ _, _, I.txt, rfl, hq _ I.fresh_tok.1 I.fresh_tok.2⟩
       ·rw [if_neg hc] at h'; exact h'.elim
      | _ => exact h.elim
     | _ => exact h.elim
 | _ => exact h.elim
end
theorem Yh8 (n : Nat) : sliceRange ((n : Int) - 1) (-1) (-1) = (List.range n).reverse := by
 unfold sliceRange
 have hc : (if (-1 : Int) > 0 then (if (n : Int) - 1 < -1 then (-1 - ((n : Int) - 1) + -1 - 1) / -1 else 0) else (if (n : Int) - 1 > -1 then ((n : Int) - 1 - -1 - -1 - 1) / (- -1) else 0)) = (n : Int) := by
  rw [if_neg (by decide)]
  by_cases h : (n : Int) - 1 > -1
  ·rw [if_pos h, show (- -1 : Int) = 1 from rfl, Int.ediv_one]; omega
  ·rw [if_neg h]; omega
 simp only [hc, Int.toNat_natCast]
 apply List.ext_getElem
 ·simp
 ·intro i h1 h2
  simp only [List.getElem_map, List.getElem_range, List.getElem_reverse, List.length_range]
  simp at h1
  omega
theorem Ygq {α : Type} (xs : List α) : pickL (List.range xs.length).reverse xs = xs.reverse := by
 unfold pickL
 rw [List.filterMap_reverse]
 congr 1
 have : ∀ n : Nat, n <= xs.length -> (List.range n).filterMap (fun i => xs[i]?) = xs.take n := by
  intro n hn
  induction n with
  | zero => rfl
  | succ n ih =>
   rw [List.range_succ, List.filterMap_append, ih (by omega), List.take_add_one, List.getElem?_eq_getElem (show n < xs.length by omega)]
   simp [show n < xs.length by omega]
 rw [this _ (Nat.le_refl _), List.take_length]
theorem Yhj (z : Str) : revS z = ⟨z.cps.toList.reverse.toArray⟩ := by
 unfold revS
 have : Builtin.Str.strSliceIndices none none (-1) z.length = (List.range z.cps.toList.length).reverse := Yh8 _
 rw [this]
 have h2 := Ygq z.cps.toList
 unfold pickL at h2
 congr 2
 rw [<- h2]
 congr 1
 funext i
 simp
end Mi
namespace HT
theorem sIx_none (n d : Nat) : sIx n d none = d := rfl
end HT
set_option maxHeartbeats 4000000
namespace G
open PySem PySem.Spec L2 Mi
open PyProof.Rows hiding St
set_option hygiene false in
local macro_rules | `(tactic| walk_at "1") => `(tactic| first | exact Or.inl rfl | exact Or.inr rfl)
set_option hygiene false in
local macro_rules | `(tactic| walk_at "2") => `(tactic| refine YgI ?_ ?_)
set_option hygiene false in
local macro_rules | `(tactic| walk_at "3") => `(tactic| refine Ygh ?_ ?_)
set_option hygiene false in
local macro_rules | `(tactic| walk_at "4") => `(tactic| refine Yil ?_ ?_ ?_)
set_option hygiene false in
local macro_rules | `(tactic| walk_at "6") => `(tactic| exact (fun _ _ => rfl))
set_option hygiene false in
local macro_rules | `(tactic| walk_at "7") => `(tactic| refine YjK ?_ ?_ ?_ ?_)
set_option hygiene false in
local macro_rules | `(tactic| walk_at "8") => `(tactic| refine Yjd ?_ ?_ ?_ ?_)
set_option hygiene false in
local macro_rules | `(tactic| walk_at "A") => `(tactic| refine YgM ?_ ?_ ?_)
set_option hygiene false in
local macro_rules | `(tactic| walk_at "C") => `(tactic| refine Yis ?_ ?_ ?_ ?_)
set_option hygiene false in
local macro_rules | `(tactic| walk_at "D") => `(tactic| refine YfI ?_ ?_)
set_option hygiene false in
local macro_rules | `(tactic| walk_at "E") => `(tactic| exact (hr.mono (by decide)))
def top (i : Nat) : Stmt := PySem.Challenge.pw_gapwords_k18_whole_answers_go_along.main.body.getD i (.Pass ⟨0, 0, 0, 0⟩)
def ZQ : MS :=
 (sRet (eChain leP leP (eC (.str "A")) (eVar 0) (eC (.str "Z"))))
def Yp : MF := fnM 1 ZQ
def ZS : MS :=
 (sRet (eJoinL (eC (.str "")) (lComp (iVal (eVar 0)) 2 [] (mgTup 2 (mgCons (mgName 0) (mgCons (mgName 1) mgNil))) nTrue (eBin addP (eVar 0) (eVar 1)))))
def YN : MF := fnM 1 ZS
def V9 : MS :=
 (sRet (eJoinL (eC (.str "")) (lSortSetX (eVar 0))))
def ZE : MF := fnM 1 V9
def WT : MS :=
 (sRet (eCall 1 ZE (aCons (eSto (lComp (iVal (eCall 1 YN (aCons (eVar 0) aNil))) 1 [] (mgName 0) (eTru (eCall 1 Yp (aCons (eVar 0) aNil))) (eVar 0))) aNil)))
def YA : MF := fnM 1 WT
def JM : MS :=
 (sRet (eTupL (lComp (iVal (eVar 0)) 2 [] (mgTup 2 (mgCons (mgName 0) (mgCons (mgName 1) mgNil))) nTrue (eTup (aCons (eVar 1) (aCons (eVar 0) aNil))))))
def ZC : MF := fnM 1 JM
def WN : MS :=
 (sRet (eJoinR (eC (.str "")) (eVar 0)))
def YV : MF := fnM 1 WN
def WK : MS :=
 (sRet (eTupL (lComp (iVal (eVar 0)) 2 [] (mgTup 2 (mgCons (mgName 0) (mgCons (mgName 1) mgNil))) nTrue (eTup (aCons (eCall 1 YV (aCons (eVar 0) aNil)) (aCons (eCall 1 YV (aCons (eVar 1) aNil)) aNil))))))
def Y7 : MF := fnM 1 WK
def Vr : MS :=
 (sRet (eAnd (eBin eqP (eB lenP (aCons (eVar 0) aNil)) (eC (.int 1))) (eCall 1 Yp (aCons (eVar 0) aNil))))
def Za : MF := fnM 1 Vr
def Vo : MS :=
 (sSeq (sSet 3 (eCall 1 YA (aCons (eVar 0) aNil)))
 (sSeq (sIf (eOrT (eNotT (eTru (eCall 1 Za (aCons (eVar 1) aNil)))) (eTst (eBin notIn2P (eVar 1) (eVar 3))))
 sBad
 sNil)
 (sSeq (sIf (eNotT (eTru (eCall 1 Za (aCons (eVar 2) aNil))))
 sBad
 sNil)
 (sSeq (sIf (eTst (eBin in2P (eVar 2) (eVar 3)))
 sBad
 sNil)
 (sRet (eTupL (lComp (iVal (eVar 0)) 2 [2, 1] (mgTup 2 (mgCons (mgName 0) (mgCons (mgName 1) mgNil))) nTrue (eTup (aCons (eM isStr replaceP (eVar 0) (aCons (eVar 3) (aCons (eVar 2) aNil))) (aCons (eM isStr replaceP (eVar 1) (aCons (eVar 3) (aCons (eVar 2) aNil))) aNil))))))))))
def Zk : MF := fnM 4 Vo
def Jy : MS :=
 (sSeq (sSet 3 (eDictZ (aCons (eVar 1) (aCons (eVar 2) aNil))))
 (sRet (eJoinL (eC (.str "")) (lComp (iVal (eVar 0)) 1 [3] (mgName 0) nTrue (eGet (eVar 1) (eVar 0) (eVar 0))))))
def Y0 : MF := fnM 4 Jy
def YaR : MS :=
 (sSeq (sSet 2 (eCall 1 YA (aCons (eVar 0) aNil)))
 (sRet (eAllL (lComp (iVal (eVar 0)) 2 [2, 1] (mgTup 2 (mgCons (mgName 0) (mgCons (mgName 1) mgNil))) nTrue (eBin eqP (eCall 3 Y0 (aCons (eVar 0) (aCons (eVar 2) (aCons (eVar 3) aNil)))) (eCall 3 Y0 (aCons (eVar 1) (aCons (eVar 2) (aCons (eVar 3) aNil)))))))))
def YF : MF := fnM 3 YaR
def Zm : MS :=
 (sSeq (sIf (eTst (eBin ltP (eVar 1) (eB lenP (aCons (eVar 0) aNil))))
 (sRet (eBin ixP (eVar 0) (eVar 1)))
 sNil)
 (sRet (eC (.int 0))))
def Yd : MF := fnM 2 Zm
def Zx : MS :=
 (sSeq (sSet 3 (eBin ixP (eC (.str "ABCDEFGHIJKLMNOPQRSTUVWXYZ")) (eBin modP (eBin addP (eBin fdivP (eVar 0) (eC (.int 4))) (eBin mul2P (eBin ixP (eSto (lMk (aCons (eC (.int 1)) (aCons (eC (.int 5)) (aCons (eC (.int 9)) aNil))))) (eBin modP (eBin fdivP (eVar 0) (eC (.int 104))) (eC (.int 3)))) (eVar 2))) (eC (.int 26)))))
 (sSeq (sSet 4 (eB lenP (aCons (eSto (lComp (iVal (eVar 1)) 1 [3] (mgName 0) (eTst (eBin ltP (eVar 0) (eVar 1))) (eVar 0))) aNil)))
 (sSet 1 (eBin addP (eBin addP (eSl (eVar 1) oNone (oSome (eVar 4))) (eVar 3)) (eSl (eVar 1) (oSome (eVar 4)) oNone)))))
def ZO : MS :=
 (sSeq (sSet 1 (eC (.str "")))
 (sSeq (sFor (iRange (aCons (eBin addP (eC (.int 1)) (eBin modP (eVar 0) (eC (.int 4)))) aNil)) (mgName 2)
 Zx)
 (sRet (eVar 1))))
def YL : MF := fnM 5 ZO
def ZY : MS :=
 (sSeq (sSet 3 (eBin modP (eBin addP (eBin addP (eBin mul2P (eVar 3) (eVar 3)) (eBin mul2P (eC (.int 69621)) (eVar 3))) (eVar 4)) (eC (.int 2147483629))))
 (sSet 2 (eBin addP (eVar 2) (eBin ixP (eVar 1) (eBin modP (eBin fdivP (eVar 3) (eC (.int 7))) (eB lenP (aCons (eVar 1) aNil)))))))
def Z1 : MS :=
 (sSeq (sSet 2 (eC (.str "")))
 (sSeq (sSet 3 (eBin modP (eBin mul2P (eVar 0) (eC (.int 48271))) (eC (.int 2147483647))))
 (sSeq (sFor (iRange (aCons (eBin ixP (eSto (lMk (aCons (eC (.int 0)) (aCons (eC (.int 1)) (aCons (eC (.int 2)) (aCons (eC (.int 3)) (aCons (eC (.int 5)) (aCons (eC (.int 9)) aNil)))))))) (eBin modP (eVar 0) (eC (.int 6)))) aNil)) (mgName 4)
 ZY)
 (sRet (eVar 2)))))
def YH : MF := fnM 5 Z1
def Zj : MS :=
 (sSeq (sSet 10 (eBin addP (eBin mul2P (eJoinL (eC (.str "")) (lComp (iVal (eVar 1)) 1 [4] (mgName 0) (eTst (eBin gtP (eBin ixP (eVar 1) (eVar 0)) (eC (.int 0)))) (eVar 0))) (eC (.int 2))) (eVar 3)))
 (sSeq (sSet 11 (eBin ixP (eVar 10) (eBin modP (eBin modP (eBin mul2P (eVar 9) (eC (.int 48271))) (eC (.int 1000003))) (eB lenP (aCons (eVar 10) aNil)))))
 (sSeq (sSet 12 (eVar 11))
 (sSeq (sIf (eTst (eBin inP (eVar 11) (eVar 1)))
 (sSet 12 (eBin ixP (eVar 2) (eM isStr findSP (eVar 1) (aCons (eVar 11) aNil))))
 sNil)
 (sIf (eAndT (eTst (eBin ltP (eB lenP (aCons (eVar 7) aNil)) (eVar 5))) (eTst (eBin leP (eBin addP (eB lenP (aCons (eVar 8) aNil)) (eB lenP (aCons (eVar 12) aNil))) (eVar 6))))
 (sSeq (sSet 7 (eBin addP (eVar 7) (eVar 11)))
 (sSeq (sSet 8 (eBin addP (eVar 8) (eVar 12)))
 (sIf (eTst (eBin inP (eVar 11) (eVar 1)))
 (sPut (eVar 4) (eVar 11) (eBin subP (eBin ixP (eVar 4) (eVar 11)) (eC (.int 1))))
 sNil)))
 sNil)))))
def Z7 : MS :=
 (sSeq (sSet 7 (eC (.str "")))
 (sSeq (sSet 8 (eC (.str "")))
 (sSeq (sFor (iVal (eVar 0)) (mgName 9)
 Zj)
 (sRet (eTup (aCons (eVar 7) (aCons (eVar 8) aNil)))))))
def YX : MF := fnM 13 Z7
def Ze : MS :=
 (sSeq (sSet 11 (eBin ixP (eVar 2) (eBin modP (eBin addP (eBin fdivP (eVar 6) (eC (.int 9))) (eVar 10)) (eB lenP (aCons (eVar 2) aNil)))))
 (sSeq (sSet 12 (eBin ixP (eVar 3) (eM isStr findSP (eVar 2) (aCons (eVar 11) aNil))))
 (sIf (eAndT (eTst (eBin gtP (eBin modP (eVar 6) (eC (.int 9))) (eC (.int 2)))) (eAndT (eTst (eBin gtP (eBin ixP (eVar 4) (eVar 11)) (eC (.int 0)))) (eAndT (eTst (eBin neP (eVar 12) (eC (.str "")))) (eTst (eBin eqP (eSl (eVar 1) (oSome (eVar 7)) (oSome (eBin addP (eVar 7) (eB lenP (aCons (eVar 12) aNil))))) (eVar 12))))))
 (sSeq (sSet 8 (eVar 11))
 (sSeq (sSet 9 (eB lenP (aCons (eVar 12) aNil)))
 sBreak))
 sNil)))
def Zg : MS :=
 (sSeq (sSet 6 (eBin modP (eBin addP (eBin addP (eBin mul2P (eVar 6) (eVar 6)) (eBin mul2P (eC (.int 48271)) (eVar 6))) (eVar 7)) (eC (.int 2147483629))))
 (sSeq (sSet 8 (eBin ixP (eVar 1) (eVar 7)))
 (sSeq (sSet 9 (eC (.int 1)))
 (sSeq (sFor (iRange (aCons (eB lenP (aCons (eVar 2) aNil)) aNil)) (mgName 10)
 Ze)
 (sSeq (sIf (eTst (eBin inP (eVar 8) (eVar 2)))
 (sPut (eVar 4) (eVar 8) (eBin subP (eBin ixP (eVar 4) (eVar 8)) (eC (.int 1))))
 sNil)
 (sSeq (sSet 5 (eBin addP (eVar 5) (eVar 8)))
 (sSet 7 (eBin addP (eVar 7) (eVar 9)))))))))
def Zf : MS :=
 (sIf (eAndT (eTst (eBin eqP (eBin ixP (eVar 3) (eVar 10)) (eC (.str "")))) (eAndT (eTst (eBin gtP (eBin ixP (eVar 4) (eBin ixP (eVar 2) (eVar 10))) (eC (.int 0)))) (eTst (eBin gtP (eBin modP (eBin fdivP (eVar 6) (eC (.int 11))) (eC (.int 3))) (eC (.int 0))))))
 (sSeq (sSet 13 (eBin modP (eBin fdivP (eVar 6) (eC (.int 33))) (eBin addP (eB lenP (aCons (eVar 5) aNil)) (eC (.int 1)))))
 (sSeq (sSet 5 (eBin addP (eBin addP (eSl (eVar 5) oNone (oSome (eVar 13))) (eBin ixP (eVar 2) (eVar 10))) (eSl (eVar 5) (oSome (eVar 13)) oNone)))
 (sPut (eVar 4) (eBin ixP (eVar 2) (eVar 10)) (eBin subP (eBin ixP (eVar 4) (eBin ixP (eVar 2) (eVar 10))) (eC (.int 1))))))
 sNil)
def WO : MS :=
 (sSeq (sSet 5 (eC (.str "")))
 (sSeq (sSet 6 (eBin modP (eBin mul2P (eVar 0) (eC (.int 69621))) (eC (.int 2147483647))))
 (sSeq (sSet 7 (eC (.int 0)))
 (sSeq (sWhile (eTst (eBin ltP (eVar 7) (eB lenP (aCons (eVar 1) aNil))))
 Zg)
 (sSeq (sFor (iRange (aCons (eB lenP (aCons (eVar 2) aNil)) aNil)) (mgName 10)
 Zf)
 (sRet (eVar 5)))))))
def Y9 : MF := fnM 14 WO
def Y8 : MS :=
 (sPut (eVar 5) (eVar 6) (eC (.int 2)))
def YM : MS :=
 (sSeq (sSet 11 (eSl (eVar 8) (oSome (eBin fdivP (eBin mul2P (eVar 10) (eB lenP (aCons (eVar 8) aNil))) (eVar 7))) (oSome (eBin fdivP (eBin mul2P (eBin addP (eVar 10) (eC (.int 1))) (eB lenP (aCons (eVar 8) aNil))) (eVar 7)))))
 (sSeq (sSet 12 (eBin ixP (eSto (lMk (aCons (eC (.int 12)) (aCons (eC (.int 6)) (aCons (eC (.int 4)) aNil))))) (eBin subP (eVar 7) (eC (.int 1)))))
 (sSeq (sTup (eCall 7 YX (aCons (eVar 11) (aCons (eVar 3) (aCons (eVar 4) (aCons (eVar 2) (aCons (eVar 5) (aCons (eVar 12) (aCons (eBin ixP (eSto (lMk (aCons (eC (.int 20)) (aCons (eC (.int 9)) (aCons (eC (.int 6)) aNil))))) (eBin subP (eVar 7) (eC (.int 1)))) aNil)))))))) (mgTup 2 (mgCons (mgName 13) (mgCons (mgName 14) mgNil))))
 (sSeq (sSet 15 (eCall 5 Y9 (aCons (eBin addP (eBin addP (eBin fdivP (eCall 2 Yd (aCons (eVar 0) (aCons (eC (.int 1)) aNil))) (eC (.int 3))) (eBin mul2P (eC (.int 17)) (eVar 10))) (eBin modP (eB sumP (aCons (eVar 11) aNil)) (eC (.int 1000003)))) (aCons (eVar 14) (aCons (eVar 3) (aCons (eVar 4) (aCons (eVar 5) aNil)))))))
 (sDrop (eM isLst appendP (eVar 9) (aCons (eBin ixP (eSto (lMk (aCons (eTup (aCons (eVar 13) (aCons (eVar 15) aNil))) (aCons (eTup (aCons (eVar 15) (aCons (eVar 13) aNil))) aNil)))) (eBin modP (eBin fdivP (eCall 2 Yd (aCons (eVar 0) (aCons (eC (.int 1)) aNil))) (eBin addP (eC (.int 3)) (eVar 10))) (eC (.int 2)))) aNil)))))))
def Zi : MS :=
 (sSeq (sSet 1 (eCall 2 Yd (aCons (eVar 0) (aCons (eC (.int 0)) aNil))))
 (sSeq (sSet 2 (eBin ixP (eSto (lMk (aCons (eC (.str "a")) (aCons (eC (.str "ab")) (aCons (eC (.str "qz")) (aCons (eC (.str "abc")) (aCons (eC (.str "aekz")) aNil))))))) (eBin modP (eBin fdivP (eVar 1) (eC (.int 312))) (eC (.int 5)))))
 (sSeq (sSet 3 (eCall 1 YL (aCons (eVar 1) aNil)))
 (sSeq (sSet 4 (eSto (lComp (iRange (aCons (eB lenP (aCons (eVar 3) aNil)) aNil)) 1 [0, 2] (mgName 0) nTrue (eCall 2 YH (aCons (eCall 2 Yd (aCons (eVar 1) (aCons (eBin addP (eC (.int 2)) (eVar 0)) aNil))) (aCons (eVar 2) aNil))))))
 (sSeq (sSet 5 eDict0)
 (sSeq (sFor (iVal (eVar 3)) (mgName 6)
 Y8)
 (sSeq (sSet 7 (eBin addP (eC (.int 1)) (eBin modP (eCall 2 Yd (aCons (eVar 0) (aCons (eC (.int 1)) aNil))) (eC (.int 3)))))
 (sSeq (sSet 8 (eSl (eVar 0) (oSome (eC (.int 6))) (oSome (eC (.int 66)))))
 (sSeq (sSet 9 (eSto (lMk aNil)))
 (sSeq (sFor (iRange (aCons (eVar 7) aNil)) (mgName 10)
 YM)
 (sSeq (sSet 16 (eJoinL (eC (.str "")) (lComp (iVal (eVar 9)) 2 [] (mgTup 2 (mgCons (mgName 0) (mgCons (mgName 1) mgNil))) nTrue (eBin addP (eVar 0) (eVar 1)))))
 (sSeq (sSetL 17 (lComp (iRange (aCons (eB lenP (aCons (eVar 3) aNil)) aNil)) 1 [16, 3] (mgName 0) (eTst (eBin inP (eBin ixP (eVar 2) (eVar 0)) (eVar 1))) (eVar 0)))
 (sRet (eTup (aCons (eB tupleP (aCons (eVar 9) aNil)) (aCons (eJoinL (eC (.str "")) (lComp (iVal (eVar 17)) 1 [3] (mgName 0) nTrue (eBin ixP (eVar 1) (eVar 0)))) (aCons (eTupL (lComp (iVal (eVar 17)) 1 [4] (mgName 0) nTrue (eBin ixP (eVar 1) (eVar 0)))) aNil)))))))))))))))))
def Yu : MF := fnM 18 Zi
def Zy : MS :=
 (sIf (eTst (eBin eqP (eVar 5) (eVar 3)))
 (sDrop (eM isLst appendP (eVar 4) (aCons (eBin ixP (eVar 1) (eM isStr findSP (eVar 0) (aCons (eVar 2) aNil))) aNil)))
 (sIf (eAndT (eTst (eBin inP (eVar 5) (eVar 0))) (eTst (eBin neP (eVar 5) (eVar 2))))
 (sDrop (eM isLst appendP (eVar 4) (aCons (eBin ixP (eVar 1) (eM isStr findSP (eVar 0) (aCons (eVar 5) aNil))) aNil)))
 sNil))
def ZN : MS :=
 (sSeq (sSet 4 (eSto (lMk aNil)))
 (sSeq (sFor (iVal (eC (.str "ABCDEFGHIJKLMNOPQRSTUVWXYZ"))) (mgName 5)
 Zy)
 (sRet (eB tupleP (aCons (eVar 4) aNil)))))
def YK : MF := fnM 6 ZN
def Z3 : MS :=
 (sRet (eAnd (eIsi "bool" (eVar 0)) (eBin eqP (eVar 0) (eVar 1))))
def Yq : MF := fnM 2 Z3
def ZX : MS :=
 (sSeq (sIf (eOrT (eNotT (eTru (eCall 2 Yq (aCons (eCall 2 YF (aCons (eVar 0) (aCons (eVar 2) aNil))) (aCons (eVar 5) aNil))))) (eNotT (eTru (eCall 2 Yq (aCons (eCall 2 YF (aCons (eCall 1 ZC (aCons (eVar 0) aNil)) (aCons (eVar 2) aNil))) (aCons (eVar 5) aNil))))))
 (sRet (eC (.bl false)))
 sNil)
 (sSeq (sIf (eNotT (eTru (eCall 2 Yq (aCons (eCall 2 YF (aCons (eCall 1 Y7 (aCons (eVar 0) aNil)) (aCons (eTupL (lComp (iVal (eVar 2)) 1 [] (mgName 0) nTrue (eRevX (eVar 0)))) aNil))) (aCons (eVar 5) aNil)))))
 (sRet (eC (.bl false)))
 sNil)
 (sSeq (sIf (eNotT (eTru (eCall 2 Yq (aCons (eCall 2 YF (aCons (eRevX (eVar 0)) (aCons (eVar 2) aNil))) (aCons (eVar 5) aNil)))))
 (sRet (eC (.bl false)))
 sNil)
 (sSeq (sIf (eTst (eBin eqP (eVar 1) (eC (.str ""))))
 (sRet (eC (.bl true)))
 sNil)
 (sRet (eCall 2 Yq (aCons (eCall 2 YF (aCons (eCall 3 Zk (aCons (eVar 0) (aCons (eVar 3) (aCons (eVar 4) aNil)))) (aCons (eCall 4 YK (aCons (eVar 1) (aCons (eVar 2) (aCons (eVar 3) (aCons (eVar 4) aNil))))) aNil))) (aCons (eVar 5) aNil))))))))
def Yx : MF := fnM 6 ZX
def YcE : MS :=
 (sSeq (sSet 9 (eBin addP (eBin addP (eSl (eVar 3) oNone (oSome (eVar 8))) (eTup (aCons (eBin addP (eBin ixP (eVar 3) (eVar 8)) (eBin ixP (eC (.str "ab")) (eBin modP (eBin fdivP (eVar 4) (eC (.int 11))) (eC (.int 2))))) aNil))) (eSl (eVar 3) (oSome (eBin addP (eVar 8) (eC (.int 1)))) oNone)))
 (sIf (eNotT (eTru (eCall 6 Yx (aCons (eVar 1) (aCons (eVar 2) (aCons (eVar 9) (aCons (eVar 6) (aCons (eVar 7) (aCons (eCall 2 YF (aCons (eVar 1) (aCons (eVar 9) aNil))) aNil)))))))))
 (sRet (eC (.bl false)))
 sNil))
def Yga : MS :=
 (sSeq (sTup (eCall 1 Yu (aCons (eVar 0) aNil)) (mgTup 3 (mgCons (mgName 1) (mgCons (mgName 2) (mgCons (mgName 3) mgNil)))))
 (sSeq (sSet 4 (eCall 2 Yd (aCons (eVar 0) (aCons (eC (.int 1)) aNil))))
 (sSeq (sSetL 5 (lComp (iVal (eC (.str "ABCDEFGHIJKLMNOPQRSTUVWXYZ"))) 1 [2] (mgName 0) (eTst (eBin notIn2P (eVar 0) (eVar 1))) (eVar 0)))
 (sSeq (sSet 6 (eBin ixP (eBin addP (eVar 2) (eC (.str "A"))) (eBin modP (eBin fdivP (eVar 4) (eC (.int 7))) (eB maxP (aCons (eC (.int 1)) (aCons (eB lenP (aCons (eVar 2) aNil)) aNil))))))
 (sSeq (sSet 7 (eBin ixP (eVar 5) (eBin modP (eBin fdivP (eVar 4) (eC (.int 28))) (eB lenP (aCons (eVar 5) aNil)))))
 (sSeq (sIf (eNotT (eTru (eCall 6 Yx (aCons (eVar 1) (aCons (eVar 2) (aCons (eVar 3) (aCons (eVar 6) (aCons (eVar 7) (aCons (eC (.bl true)) aNil)))))))))
 (sRet (eC (.bl false)))
 sNil)
 (sSeq (sFor (iRange (aCons (eB lenP (aCons (eVar 3) aNil)) aNil)) (mgName 8)
 YcE)
 (sRet (eC (.bl true))))))))))
def Ybz : MF := fnM 10 Yga
section
variable {P' : Program} {w : World} {K : PySem.W.Frag} {mg : Str -> Option Value} {base : Heap}
structure Own (K : PySem.W.Frag) (mg : Str -> Option Value) : Prop where
 z_all : mg "all" = none
 z_bool : mg "bool" = none
 z_dict : mg "dict" = none
 z_isinstance : mg "isinstance" = none
 z_len : mg "len" = none
 z_max : mg "max" = none
 z_range : mg "range" = none
 z_reversed : mg "reversed" = none
 z_set : mg "set" = none
 z_sorted : mg "sorted" = none
 z_sum : mg "sum" = none
 z_tuple : mg "tuple" = none
 z_zip : mg "zip" = none
theorem WA : FnScope ["letter"] ["letter"] (defScope (top 5)) := ⟨rfl, rfl, rfl, by decide +kernel, rfl, by decide +kernel, by decide +kernel⟩
theorem J3 (kV doc pm : Value) (an : Option Addr) (cdv ct : Value) (us : List Value) (hl : us.length = (["letter"] : List Str).length) : bindArgs (PySem.W.fnOf "is_unknown" "is_unknown" (defArgs (top 5)) (defBody (top 5)) (defScope (top 5)) .none kV doc pm an cdv ct) ⟨us, []⟩ = pure ((["letter"] : List Str).zip us) := by
 match us, hl with
 | [_], _ => exact rfl
theorem Yag (T : Top K mg) (O : Own K mg) (D : DefAt K "is_unknown" (top 5))  : Fn P' w K mg base "is_unknown" 1 ["letter"] Yp := by
 refine @YW P' w K mg base "is_unknown" (top 5) ["letter"] ["letter"] 0 ZQ T D WA J3 ?_
 intro f cdv A outer s H E hr
 have hu := YQ hr
 have hu8 := Yy hr
 have sc := WA
 refine Yc ?_
 refine Yk ?_
 refine YfM ?_ ?_ ?_ ?_ ?_
 exact YfF
 exact YfF
 exact Yn
 exact (jv 0)
 exact Yn
theorem Wz : FnScope ["system"] ["system"] (defScope (top 6)) := ⟨rfl, rfl, rfl, by decide +kernel, rfl, by decide +kernel, by decide +kernel⟩
theorem J7 (kV doc pm : Value) (an : Option Addr) (cdv ct : Value) (us : List Value) (hl : us.length = (["system"] : List Str).length) : bindArgs (PySem.W.fnOf "letters_of" "letters_of" (defArgs (top 6)) (defBody (top 6)) (defScope (top 6)) .none kV doc pm an cdv ct) ⟨us, []⟩ = pure ((["system"] : List Str).zip us) := by
 match us, hl with
 | [_], _ => exact rfl
theorem Yaf (T : Top K mg) (O : Own K mg) (D : DefAt K "letters_of" (top 6))  : Fn P' w K mg base "letters_of" 1 ["system"] YN := by
 refine @YW P' w K mg base "letters_of" (top 6) ["system"] ["system"] 0 ZS T D Wz J7 ?_
 intro f cdv A outer s H E hr
 have hu := YQ hr
 have hu8 := Yy hr
 have sc := Wz
 refine Yc ?_
 refine Yk ?_
 refine ZH ?_ ?_
 exact Yn
 refine YE (TN := ["left", "right"]) (FN := []) (fr := []) ?_ ?_ ?_ ?_ ?_
 exact rfl
 exact (Yz ["left", "right"] [] [] (by rfl))
 refine YI ?_
 exact (jv 0)
 exact (Vm (YC (Yl (by decide)) (YC (Yl (by decide)) Wp)))
 intro C s₀ H₀ ex
 refine ⟨?_, ?_, ?_⟩
 refine Z8 ?_ ?_
 exact rfl
 walk_at "D"
 walk_at "A"
 show (["left", "right"] : List Str).Nodup; decide +kernel
 exact rfl
 walk_at "1"
 walk_at "D"
 walk_at "A"
 show (["left", "right"] : List Str).Nodup; decide +kernel
 exact rfl
 walk_at "1"
 exact Zv
 exact Y1
 walk_at "4"
 exact Yf
 exact (jv 0)
 exact (jv 1)
theorem YaJ : FnScope ["letters"] ["letters"] (defScope (top 7)) := ⟨rfl, rfl, rfl, by decide +kernel, rfl, by decide +kernel, by decide +kernel⟩
theorem Yd7 (kV doc pm : Value) (an : Option Addr) (cdv ct : Value) (us : List Value) (hl : us.length = (["letters"] : List Str).length) : bindArgs (PySem.W.fnOf "rising" "rising" (defArgs (top 7)) (defBody (top 7)) (defScope (top 7)) .none kV doc pm an cdv ct) ⟨us, []⟩ = pure ((["letters"] : List Str).zip us) := by
 match us, hl with
 | [_], _ => exact rfl
theorem Yei (T : Top K mg) (O : Own K mg) (D : DefAt K "rising" (top 7))  : Fn P' w K mg base "rising" 1 ["letters"] ZE := by
 have z_set := O.z_set
 have z_sorted := O.z_sorted
 refine @YW P' w K mg base "rising" (top 7) ["letters"] ["letters"] 0 V9 T D YaJ Yd7 ?_
 intro f cdv A outer s H E hr
 have hu := YQ hr
 have hu8 := Yy hr
 have sc := YaJ
 refine Yc ?_
 refine Yk ?_
 refine ZH ?_ ?_
 exact Yn
 refine Yb2 ?_ ?_ ?_ ?_ ?_ ?_ ?_ ?_
 exact rfl
 exact rfl
 exact z_sorted
 exact Yen
 exact rfl
 exact z_set
 exact Yix
 exact (jv 0)
theorem VE : FnScope ["system"] ["system"] (defScope (top 8)) := ⟨rfl, rfl, rfl, by decide +kernel, rfl, by decide +kernel, by decide +kernel⟩
theorem Yb3 (kV doc pm : Value) (an : Option Addr) (cdv ct : Value) (us : List Value) (hl : us.length = (["system"] : List Str).length) : bindArgs (PySem.W.fnOf "names_of" "names_of" (defArgs (top 8)) (defBody (top 8)) (defScope (top 8)) .none kV doc pm an cdv ct) ⟨us, []⟩ = pure ((["system"] : List Str).zip us) := by
 match us, hl with
 | [_], _ => exact rfl
theorem YbU (T : Top K mg) (O : Own K mg) (D : DefAt K "names_of" (top 8)) (F_is_unknown : Fn P' w K mg base "is_unknown" 1 ["letter"] Yp) (F_letters_of : Fn P' w K mg base "letters_of" 1 ["system"] YN) (F_rising : Fn P' w K mg base "rising" 1 ["letters"] ZE) : Fn P' w K mg base "names_of" 2 ["system"] YA := by
 refine @YW P' w K mg base "names_of" (top 8) ["system"] ["system"] 1 WT T D VE Yb3 ?_
 intro f cdv A outer s H E hr
 have hu := YQ hr
 have hu8 := Yy hr
 have sc := VE
 refine Yc ?_
 refine Yk ?_
 refine Yj (ps := ["letters"]) (k := 1) ?_ ?_ ?_ ?_
 exact F_rising
 walk_at "E"
 exact rfl
 walk_at "2"
 refine Zr ?_
 refine YE (TN := ["letter"]) (FN := []) (fr := []) ?_ ?_ ?_ ?_ ?_
 exact rfl
 exact (Yz ["letter"] [] [] (by rfl))
 refine YI ?_
 refine Yj (ps := ["system"]) (k := 1) ?_ ?_ ?_ ?_
 exact F_letters_of
 walk_at "E"
 exact rfl
 walk_at "2"
 exact (jv 0)
 exact Ya
 exact (Yl (by decide))
 intro C s₀ H₀ ex
 refine ⟨?_, ?_, ?_⟩
 walk_at "A"
 show (["letter"] : List Str).Nodup; decide +kernel
 exact rfl
 walk_at "1"
 refine W4 ?_
 refine ZI ?_ ?_
 refine Yj (ps := ["letter"]) (k := 1) ?_ ?_ ?_ ?_
 exact F_is_unknown
 walk_at "E"
 exact rfl
 walk_at "2"
 exact (jv 0)
 exact Ya
 exact (fun _ => rfl)
 exact (jv 0)
 exact Ya
theorem Yau : FnScope ["system"] ["system"] (defScope (top 10)) := ⟨rfl, rfl, rfl, by decide +kernel, rfl, by decide +kernel, by decide +kernel⟩
theorem YdG (kV doc pm : Value) (an : Option Addr) (cdv ct : Value) (us : List Value) (hl : us.length = (["system"] : List Str).length) : bindArgs (PySem.W.fnOf "turned" "turned" (defArgs (top 10)) (defBody (top 10)) (defScope (top 10)) .none kV doc pm an cdv ct) ⟨us, []⟩ = pure ((["system"] : List Str).zip us) := by
 match us, hl with
 | [_], _ => exact rfl
theorem Yd3 (T : Top K mg) (O : Own K mg) (D : DefAt K "turned" (top 10))  : Fn P' w K mg base "turned" 1 ["system"] ZC := by
 have z_tuple := O.z_tuple
 refine @YW P' w K mg base "turned" (top 10) ["system"] ["system"] 0 JM T D Yau YdG ?_
 intro f cdv A outer s H E hr
 have hu := YQ hr
 have hu8 := Yy hr
 have sc := Yau
 refine Yc ?_
 refine Yk ?_
 refine Zz ?_ ?_ ?_ ?_
 exact rfl
 exact z_tuple
 exact Zt
 refine YE (TN := ["left", "right"]) (FN := []) (fr := []) ?_ ?_ ?_ ?_ ?_
 exact rfl
 exact (Yz ["left", "right"] [] [] (by rfl))
 refine YI ?_
 exact (jv 0)
 exact (Vm (YC (Yl (by decide)) (YC (Yl (by decide)) Wp)))
 intro C s₀ H₀ ex
 refine ⟨?_, ?_, ?_⟩
 refine Z8 ?_ ?_
 exact rfl
 walk_at "D"
 walk_at "A"
 show (["left", "right"] : List Str).Nodup; decide +kernel
 exact rfl
 walk_at "1"
 walk_at "D"
 walk_at "A"
 show (["left", "right"] : List Str).Nodup; decide +kernel
 exact rfl
 walk_at "1"
 exact Zv
 exact Y1
 refine Z6 ?_
 walk_at "2"
 exact (jv 1)
 walk_at "2"
 exact (jv 0)
 exact Ya
theorem VQ : FnScope ["side"] ["side"] (defScope (top 11)) := ⟨rfl, rfl, rfl, by decide +kernel, rfl, by decide +kernel, by decide +kernel⟩
theorem YbJ (kV doc pm : Value) (an : Option Addr) (cdv ct : Value) (us : List Value) (hl : us.length = (["side"] : List Str).length) : bindArgs (PySem.W.fnOf "from_end" "from_end" (defArgs (top 11)) (defBody (top 11)) (defScope (top 11)) .none kV doc pm an cdv ct) ⟨us, []⟩ = pure ((["side"] : List Str).zip us) := by
 match us, hl with
 | [_], _ => exact rfl
theorem Yb1 (T : Top K mg) (O : Own K mg) (D : DefAt K "from_end" (top 11))  : Fn P' w K mg base "from_end" 1 ["side"] YV := by
 have z_reversed := O.z_reversed
 refine @YW P' w K mg base "from_end" (top 11) ["side"] ["side"] 0 WN T D VQ YbJ ?_
 intro f cdv A outer s H E hr
 have hu := YQ hr
 have hu8 := Yy hr
 have sc := VQ
 refine Yc ?_
 refine Yk ?_
 refine Ye5 ?_ ?_ ?_ ?_ ?_ ?_
 exact rfl
 exact Yn
 exact rfl
 exact z_reversed
 exact YbY
 exact (jv 0)
theorem VI : FnScope ["system"] ["system"] (defScope (top 12)) := ⟨rfl, rfl, rfl, by decide +kernel, rfl, by decide +kernel, by decide +kernel⟩
theorem Ycd (kV doc pm : Value) (an : Option Addr) (cdv ct : Value) (us : List Value) (hl : us.length = (["system"] : List Str).length) : bindArgs (PySem.W.fnOf "mirrored" "mirrored" (defArgs (top 12)) (defBody (top 12)) (defScope (top 12)) .none kV doc pm an cdv ct) ⟨us, []⟩ = pure ((["system"] : List Str).zip us) := by
 match us, hl with
 | [_], _ => exact rfl
theorem Ycc (T : Top K mg) (O : Own K mg) (D : DefAt K "mirrored" (top 12)) (F_from_end : Fn P' w K mg base "from_end" 1 ["side"] YV) : Fn P' w K mg base "mirrored" 2 ["system"] Y7 := by
 have z_tuple := O.z_tuple
 refine @YW P' w K mg base "mirrored" (top 12) ["system"] ["system"] 1 WK T D VI Ycd ?_
 intro f cdv A outer s H E hr
 have hu := YQ hr
 have hu8 := Yy hr
 have sc := VI
 refine Yc ?_
 refine Yk ?_
 refine Zz ?_ ?_ ?_ ?_
 exact rfl
 exact z_tuple
 exact Zt
 refine YE (TN := ["left", "right"]) (FN := []) (fr := []) ?_ ?_ ?_ ?_ ?_
 exact rfl
 exact (Yz ["left", "right"] [] [] (by rfl))
 refine YI ?_
 exact (jv 0)
 exact (Vm (YC (Yl (by decide)) (YC (Yl (by decide)) Wp)))
 intro C s₀ H₀ ex
 refine ⟨?_, ?_, ?_⟩
 refine Z8 ?_ ?_
 exact rfl
 walk_at "D"
 walk_at "A"
 show (["left", "right"] : List Str).Nodup; decide +kernel
 exact rfl
 walk_at "1"
 walk_at "D"
 walk_at "A"
 show (["left", "right"] : List Str).Nodup; decide +kernel
 exact rfl
 walk_at "1"
 exact Zv
 exact Y1
 refine Z6 ?_
 walk_at "2"
 refine Yj (ps := ["side"]) (k := 1) ?_ ?_ ?_ ?_
 exact F_from_end
 walk_at "E"
 exact rfl
 walk_at "2"
 exact (jv 0)
 exact Ya
 walk_at "2"
 refine Yj (ps := ["side"]) (k := 1) ?_ ?_ ?_ ?_
 exact F_from_end
 walk_at "E"
 exact rfl
 walk_at "2"
 exact (jv 1)
 exact Ya
 exact Ya
theorem Jl : FnScope ["text"] ["text"] (defScope (top 13)) := ⟨rfl, rfl, rfl, by decide +kernel, rfl, by decide +kernel, by decide +kernel⟩
theorem Ycs (kV doc pm : Value) (an : Option Addr) (cdv ct : Value) (us : List Value) (hl : us.length = (["text"] : List Str).length) : bindArgs (PySem.W.fnOf "is_name" "is_name" (defArgs (top 13)) (defBody (top 13)) (defScope (top 13)) .none kV doc pm an cdv ct) ⟨us, []⟩ = pure ((["text"] : List Str).zip us) := by
 match us, hl with
 | [_], _ => exact rfl
theorem Yc4 (T : Top K mg) (O : Own K mg) (D : DefAt K "is_name" (top 13)) (F_is_unknown : Fn P' w K mg base "is_unknown" 1 ["letter"] Yp) : Fn P' w K mg base "is_name" 2 ["text"] Za := by
 have z_len := O.z_len
 refine @YW P' w K mg base "is_name" (top 13) ["text"] ["text"] 1 Vr T D Jl Ycs ?_
 intro f cdv A outer s H E hr
 have hu := YQ hr
 have hu8 := Yy hr
 have sc := Jl
 refine Yc ?_
 refine Yk ?_
 refine Yfp ?_ ?_
 refine YcC ?_ ?_ ?_ ?_
 exact (JV hu8)
 refine je_B (id := "len") ?_ ?_ ?_ ?_ ?_
 exact Yr
 exact rfl
 exact z_len
 exact Ys
 walk_at "2"
 exact (jv 0)
 exact Ya
 exact Yb
 exact (nomark _)
 refine Yfv ?_
 refine Yj (ps := ["letter"]) (k := 1) ?_ ?_ ?_ ?_
 exact F_is_unknown
 walk_at "E"
 exact rfl
 walk_at "2"
 exact (jv 0)
 exact Ya
theorem JY : FnScope ["system", "old", "new", "names"] ["system", "old", "new"] (defScope (top 14)) := ⟨rfl, rfl, rfl, by decide +kernel, rfl, by decide +kernel, by decide +kernel⟩
theorem YcB (kV doc pm : Value) (an : Option Addr) (cdv ct : Value) (us : List Value) (hl : us.length = (["system", "old", "new"] : List Str).length) : bindArgs (PySem.W.fnOf "renamed" "renamed" (defArgs (top 14)) (defBody (top 14)) (defScope (top 14)) .none kV doc pm an cdv ct) ⟨us, []⟩ = pure ((["system", "old", "new"] : List Str).zip us) := by
 match us, hl with
 | [_, _, _], _ => exact rfl
theorem YcZ (T : Top K mg) (O : Own K mg) (D : DefAt K "renamed" (top 14)) (F_is_name : Fn P' w K mg base "is_name" 2 ["text"] Za) (F_names_of : Fn P' w K mg base "names_of" 2 ["system"] YA) : Fn P' w K mg base "renamed" 3 ["system", "old", "new"] Zk := by
 have z_tuple := O.z_tuple
 refine @YW P' w K mg base "renamed" (top 14) ["system", "old", "new", "names"] ["system", "old", "new"] 2 Vo T D JY YcB ?_
 intro f cdv A outer s H E hr
 have hu := YQ hr
 have hu8 := Yy hr
 have sc := JY
 walk_at "3"
 walk_at "8"
 exact sc.nd
 exact rfl
 walk_at "1"
 refine Yj (ps := ["system"]) (k := 2) ?_ ?_ ?_ ?_
 exact F_names_of
 walk_at "E"
 exact rfl
 walk_at "2"
 exact (jv 0)
 exact Ya
 walk_at "3"
 refine Y6 ?_ ?_ ?_
 refine L2.PW.pt ?_
 refine YhG ?_ ?_
 refine Wk ?_
 refine ZI ?_ ?_
 refine Yj (ps := ["text"]) (k := 2) ?_ ?_ ?_ ?_
 exact F_is_name
 walk_at "E"
 exact rfl
 walk_at "2"
 exact (jv 1)
 exact Ya
 exact (fun _ => rfl)
 refine Yfa ?_
 walk_at "C"
 exact (YaG hu)
 exact (jv 1)
 exact (jv 3)
 with_unfolding_all rfl
 refine Yc ?_
 exact Ycv
 exact Yv
 walk_at "3"
 refine Y6 ?_ ?_ ?_
 refine Wk ?_
 refine ZI ?_ ?_
 refine Yj (ps := ["text"]) (k := 2) ?_ ?_ ?_ ?_
 exact F_is_name
 walk_at "E"
 exact rfl
 walk_at "2"
 exact (jv 2)
 exact Ya
 exact (fun _ => rfl)
 refine Yc ?_
 exact Ycv
 exact Yv
 walk_at "3"
 refine Y6 ?_ ?_ ?_
 walk_at "C"
 exact (Yi1 hu)
 exact (jv 2)
 exact (jv 3)
 with_unfolding_all rfl
 refine Yc ?_
 exact Ycv
 exact Yv
 refine Yc ?_
 refine Yk ?_
 refine Zz ?_ ?_ ?_ ?_
 exact rfl
 exact z_tuple
 exact Zt
 refine YE (TN := ["left", "right"]) (FN := ["new", "old"]) (fr := [2, 1]) ?_ ?_ ?_ ?_ ?_
 exact rfl
 exact (Yz ["left", "right"] ["new", "old"] [2, 1] (by rfl))
 refine YI ?_
 exact (jv 0)
 exact (Vm (YC (Yl (by decide)) (YC (Yl (by decide)) Wp)))
 intro C s₀ H₀ ex
 refine ⟨?_, ?_, ?_⟩
 refine Z8 ?_ ?_
 exact rfl
 walk_at "D"
 walk_at "A"
 show (["left", "right", "new", "old"] : List Str).Nodup; decide +kernel
 exact rfl
 walk_at "1"
 walk_at "D"
 walk_at "A"
 show (["left", "right", "new", "old"] : List Str).Nodup; decide +kernel
 exact rfl
 walk_at "1"
 exact Zv
 exact Y1
 refine Z6 ?_
 walk_at "2"
 refine je_M (T := "str") (id := "str.replace") ?_ ?_ ?_ ?_ ?_ ?_ ?_
 exact Vn
 exact PySem.F.plainAttrs_str
 exact PySem.F.slot_str_replace
 exact PySem.F.type_str_replace
 exact Jz
 exact (jv 0)
 walk_at "2"
 exact (jv 3)
 walk_at "2"
 exact (jv 2)
 exact Ya
 walk_at "2"
 refine je_M (T := "str") (id := "str.replace") ?_ ?_ ?_ ?_ ?_ ?_ ?_
 exact Vn
 exact PySem.F.plainAttrs_str
 exact PySem.F.slot_str_replace
 exact PySem.F.type_str_replace
 exact Jz
 exact (jv 1)
 walk_at "2"
 exact (jv 3)
 walk_at "2"
 exact (jv 2)
 exact Ya
 exact Ya
theorem Yam : FnScope ["side", "names", "words", "word_of"] ["side", "names", "words"] (defScope (top 16)) := ⟨rfl, rfl, rfl, by decide +kernel, rfl, by decide +kernel, by decide +kernel⟩
theorem Yd6 (kV doc pm : Value) (an : Option Addr) (cdv ct : Value) (us : List Value) (hl : us.length = (["side", "names", "words"] : List Str).length) : bindArgs (PySem.W.fnOf "filled" "filled" (defArgs (top 16)) (defBody (top 16)) (defScope (top 16)) .none kV doc pm an cdv ct) ⟨us, []⟩ = pure ((["side", "names", "words"] : List Str).zip us) := by
 match us, hl with
 | [_, _, _], _ => exact rfl
theorem Yeh (T : Top K mg) (O : Own K mg) (D : DefAt K "filled" (top 16))  : Fn P' w K mg base "filled" 1 ["side", "names", "words"] Y0 := by
 have z_dict := O.z_dict
 have z_zip := O.z_zip
 refine @YW P' w K mg base "filled" (top 16) ["side", "names", "words", "word_of"] ["side", "names", "words"] 0 Jy T D Yam Yd6 ?_
 intro f cdv A outer s H E hr
 have hu := YQ hr
 have hu8 := Yy hr
 have sc := Yam
 walk_at "3"
 walk_at "8"
 exact sc.nd
 exact rfl
 walk_at "1"
 refine YeM ?_ ?_ ?_ ?_ ?_ ?_ ?_ ?_
 exact rfl
 exact rfl
 exact z_dict
 exact YgE
 exact rfl
 exact z_zip
 exact Yij
 walk_at "2"
 exact (jv 1)
 walk_at "2"
 exact (jv 2)
 exact Ya
 refine Yc ?_
 refine Yk ?_
 refine ZH ?_ ?_
 exact Yn
 refine YE (TN := ["letter"]) (FN := ["word_of"]) (fr := [3]) ?_ ?_ ?_ ?_ ?_
 exact rfl
 exact (Yz ["letter"] ["word_of"] [3] (by rfl))
 refine YI ?_
 exact (jv 0)
 exact (Yl (by decide))
 intro C s₀ H₀ ex
 refine ⟨?_, ?_, ?_⟩
 walk_at "A"
 show (["letter", "word_of"] : List Str).Nodup; decide +kernel
 exact rfl
 walk_at "1"
 exact Y1
 refine Yi0 ?_ ?_ ?_ ?_ ?_
 exact hu
 exact (jv 1)
 exact (jv 0)
 exact (jv 0)
 exact ⟨rfl, rfl, rfl, rfl⟩
theorem Ycf : FnScope ["system", "words", "names"] ["system", "words"] (defScope (top 17)) := ⟨rfl, rfl, rfl, by decide +kernel, rfl, by decide +kernel, by decide +kernel⟩
theorem Ygj (kV doc pm : Value) (an : Option Addr) (cdv ct : Value) (us : List Value) (hl : us.length = (["system", "words"] : List Str).length) : bindArgs (PySem.W.fnOf "holds" "holds" (defArgs (top 17)) (defBody (top 17)) (defScope (top 17)) .none kV doc pm an cdv ct) ⟨us, []⟩ = pure ((["system", "words"] : List Str).zip us) := by
 match us, hl with
 | [_, _], _ => exact rfl
theorem Yfg (T : Top K mg) (O : Own K mg) (D : DefAt K "holds" (top 17)) (F_filled : Fn P' w K mg base "filled" 1 ["side", "names", "words"] Y0) (F_names_of : Fn P' w K mg base "names_of" 2 ["system"] YA) : Fn P' w K mg base "holds" 3 ["system", "words"] YF := by
 have z_all := O.z_all
 refine @YW P' w K mg base "holds" (top 17) ["system", "words", "names"] ["system", "words"] 2 YaR T D Ycf Ygj ?_
 intro f cdv A outer s H E hr
 have hu := YQ hr
 have hu8 := Yy hr
 have sc := Ycf
 walk_at "3"
 walk_at "8"
 exact sc.nd
 exact rfl
 walk_at "1"
 refine Yj (ps := ["system"]) (k := 2) ?_ ?_ ?_ ?_
 exact F_names_of
 walk_at "E"
 exact rfl
 walk_at "2"
 exact (jv 0)
 exact Ya
 refine Yc ?_
 refine Yk ?_
 refine YgH ?_ ?_ ?_ ?_ ?_
 exact rfl
 exact rfl
 exact z_all
 exact YiE
 refine YE (TN := ["left", "right"]) (FN := ["names", "words"]) (fr := [2, 1]) ?_ ?_ ?_ ?_ ?_
 exact rfl
 exact (Yz ["left", "right"] ["names", "words"] [2, 1] (by rfl))
 refine YI ?_
 exact (jv 0)
 exact (Vm (YC (Yl (by decide)) (YC (Yl (by decide)) Wp)))
 intro C s₀ H₀ ex
 refine ⟨?_, ?_, ?_⟩
 refine Z8 ?_ ?_
 exact rfl
 walk_at "D"
 walk_at "A"
 show (["left", "right", "names", "words"] : List Str).Nodup; decide +kernel
 exact rfl
 walk_at "1"
 walk_at "D"
 walk_at "A"
 show (["left", "right", "names", "words"] : List Str).Nodup; decide +kernel
 exact rfl
 walk_at "1"
 exact Zv
 exact Y1
 refine YcC ?_ ?_ ?_ ?_
 exact (JV hu8)
 refine Yj (ps := ["side", "names", "words"]) (k := 1) ?_ ?_ ?_ ?_
 exact F_filled
 walk_at "E"
 exact rfl
 walk_at "2"
 exact (jv 0)
 walk_at "2"
 exact (jv 2)
 walk_at "2"
 exact (jv 3)
 exact Ya
 refine Yj (ps := ["side", "names", "words"]) (k := 1) ?_ ?_ ?_ ?_
 exact F_filled
 walk_at "E"
 exact rfl
 walk_at "2"
 exact (jv 1)
 walk_at "2"
 exact (jv 2)
 walk_at "2"
 exact (jv 3)
 exact Ya
 exact (nomark _)
theorem Z0 : FnScope ["_law_script", "_law_k"] ["_law_script", "_law_k"] (defScope (top 19)) := ⟨rfl, rfl, rfl, by decide +kernel, rfl, by decide +kernel, by decide +kernel⟩
theorem VV (kV doc pm : Value) (an : Option Addr) (cdv ct : Value) (us : List Value) (hl : us.length = (["_law_script", "_law_k"] : List Str).length) : bindArgs (PySem.W.fnOf "_law_cell_at" "_law_cell_at" (defArgs (top 19)) (defBody (top 19)) (defScope (top 19)) .none kV doc pm an cdv ct) ⟨us, []⟩ = pure ((["_law_script", "_law_k"] : List Str).zip us) := by
 match us, hl with
 | [_, _], _ => exact rfl
theorem VU (T : Top K mg) (O : Own K mg) (D : DefAt K "_law_cell_at" (top 19))  : Fn P' w K mg base "_law_cell_at" 1 ["_law_script", "_law_k"] Yd := by
 have z_len := O.z_len
 refine @YW P' w K mg base "_law_cell_at" (top 19) ["_law_script", "_law_k"] ["_law_script", "_law_k"] 0 Zm T D Z0 VV ?_
 intro f cdv A outer s H E hr
 have hu := YQ hr
 have hu8 := Yy hr
 have sc := Z0
 walk_at "3"
 refine Y6 ?_ ?_ ?_
 walk_at "C"
 exact Ydg
 exact (jv 1)
 refine je_B (id := "len") ?_ ?_ ?_ ?_ ?_
 exact Yr
 exact rfl
 exact z_len
 exact Ys
 walk_at "2"
 exact (jv 0)
 exact Ya
 exact (nomark _)
 refine Yc ?_
 refine Yk ?_
 walk_at "7"
 exact hu
 exact (jv 0)
 exact (jv 1)
 walk_at "6"
 exact Yv
 refine Yc ?_
 refine Yk ?_
 exact Yb
theorem WI : FnScope ["_law_cell", "_law_names_here", "_law_k", "_law_name", "_law_at"] ["_law_cell"] (defScope (top 20)) := ⟨rfl, rfl, rfl, by decide +kernel, rfl, by decide +kernel, by decide +kernel⟩
theorem Yab (kV doc pm : Value) (an : Option Addr) (cdv ct : Value) (us : List Value) (hl : us.length = (["_law_cell"] : List Str).length) : bindArgs (PySem.W.fnOf "_law_names" "_law_names" (defArgs (top 20)) (defBody (top 20)) (defScope (top 20)) .none kV doc pm an cdv ct) ⟨us, []⟩ = pure ((["_law_cell"] : List Str).zip us) := by
 match us, hl with
 | [_], _ => exact rfl
theorem J2 (T : Top K mg) (O : Own K mg) (D : DefAt K "_law_names" (top 20))  : Fn P' w K mg base "_law_names" 1 ["_law_cell"] YL := by
 have z_len := O.z_len
 have z_range := O.z_range
 refine @YW P' w K mg base "_law_names" (top 20) ["_law_cell", "_law_names_here", "_law_k", "_law_name", "_law_at"] ["_law_cell"] 0 ZO T D WI Yab ?_
 intro f cdv A outer s H E hr
 have hu := YQ hr
 have hu8 := Yy hr
 have sc := WI
 walk_at "3"
 walk_at "8"
 exact sc.nd
 exact rfl
 walk_at "1"
 exact Yn
 walk_at "3"
 refine ZP ?_ ?_ ?_ ?_ ?_
 exact PassesOwn.never
 exact rfl
 refine YY ?_ ?_ ?_ ?_
 exact rfl
 exact z_range
 walk_at "2"
 walk_at "4"
 exact Yf
 exact Yb
 walk_at "4"
 exact Yt
 exact (jv 0)
 exact Yb
 exact Ya
 exact (YZ Zc)
 walk_at "A"
 exact sc.nd
 exact rfl
 walk_at "1"
 walk_at "3"
 walk_at "8"
 exact sc.nd
 exact rfl
 walk_at "1"
 walk_at "7"
 exact hu
 exact Yn
 walk_at "4"
 exact Yt
 walk_at "4"
 exact Yf
 walk_at "4"
 exact YG
 exact (jv 0)
 exact Yb
 walk_at "4"
 exact YR
 walk_at "7"
 exact hu
 refine Zr ?_
 refine Wg ?_
 walk_at "2"
 exact Yb
 walk_at "2"
 exact Yb
 walk_at "2"
 exact Yb
 exact Ya
 walk_at "4"
 exact Yt
 walk_at "4"
 exact YG
 exact (jv 0)
 exact Yb
 exact Yb
 walk_at "6"
 exact (jv 2)
 exact Yb
 walk_at "6"
 walk_at "3"
 walk_at "8"
 exact sc.nd
 exact rfl
 walk_at "1"
 refine je_B (id := "len") ?_ ?_ ?_ ?_ ?_
 exact Yr
 exact rfl
 exact z_len
 exact Ys
 walk_at "2"
 refine Zr ?_
 refine YE (TN := ["_law_known"]) (FN := ["_law_name"]) (fr := [3]) ?_ ?_ ?_ ?_ ?_
 exact rfl
 exact (Yz ["_law_known"] ["_law_name"] [3] (by rfl))
 refine YI ?_
 exact (jv 1)
 exact (Yl (by decide))
 intro C s₀ H₀ ex
 refine ⟨?_, ?_, ?_⟩
 walk_at "A"
 show (["_law_known", "_law_name"] : List Str).Nodup; decide +kernel
 exact rfl
 walk_at "1"
 refine W4 ?_
 walk_at "C"
 exact Ydg
 exact (jv 0)
 exact (jv 1)
 exact (nomark _)
 exact (jv 0)
 exact Ya
 refine Yc ?_
 walk_at "8"
 exact sc.nd
 exact rfl
 walk_at "1"
 walk_at "4"
 exact Yf
 walk_at "4"
 exact Yf
 refine Y4 ?_ ?_ ?_
 exact (jv 1)
 exact Ws
 refine YS ?_
 exact (jv 4)
 exact (jv 3)
 refine Y4 ?_ ?_ ?_
 exact (jv 1)
 refine YS ?_
 exact (jv 4)
 exact Ws
 refine Yc ?_
 refine Yk ?_
 exact (jv 1)
theorem WZ : FnScope ["_law_cell", "_law_signs", "_law_word_here", "_law_number", "_law_k"] ["_law_cell", "_law_signs"] (defScope (top 21)) := ⟨rfl, rfl, rfl, by decide +kernel, rfl, by decide +kernel, by decide +kernel⟩
theorem Ybg (kV doc pm : Value) (an : Option Addr) (cdv ct : Value) (us : List Value) (hl : us.length = (["_law_cell", "_law_signs"] : List Str).length) : bindArgs (PySem.W.fnOf "_law_word" "_law_word" (defArgs (top 21)) (defBody (top 21)) (defScope (top 21)) .none kV doc pm an cdv ct) ⟨us, []⟩ = pure ((["_law_cell", "_law_signs"] : List Str).zip us) := by
 match us, hl with
 | [_, _], _ => exact rfl
theorem YaX (T : Top K mg) (O : Own K mg) (D : DefAt K "_law_word" (top 21))  : Fn P' w K mg base "_law_word" 1 ["_law_cell", "_law_signs"] YH := by
 have z_len := O.z_len
 have z_range := O.z_range
 refine @YW P' w K mg base "_law_word" (top 21) ["_law_cell", "_law_signs", "_law_word_here", "_law_number", "_law_k"] ["_law_cell", "_law_signs"] 0 Z1 T D WZ Ybg ?_
 intro f cdv A outer s H E hr
 have hu := YQ hr
 have hu8 := Yy hr
 have sc := WZ
 walk_at "3"
 walk_at "8"
 exact sc.nd
 exact rfl
 walk_at "1"
 exact Yn
 walk_at "3"
 walk_at "8"
 exact sc.nd
 exact rfl
 walk_at "1"
 walk_at "4"
 exact Yt
 walk_at "4"
 exact YR
 exact (jv 0)
 exact Yb
 exact Yb
 walk_at "3"
 refine ZP ?_ ?_ ?_ ?_ ?_
 exact PassesOwn.never
 exact rfl
 refine YY ?_ ?_ ?_ ?_
 exact rfl
 exact z_range
 walk_at "2"
 walk_at "7"
 exact hu
 refine Zr ?_
 refine Wg ?_
 walk_at "2"
 exact Yb
 walk_at "2"
 exact Yb
 walk_at "2"
 exact Yb
 walk_at "2"
 exact Yb
 walk_at "2"
 exact Yb
 walk_at "2"
 exact Yb
 exact Ya
 walk_at "4"
 exact Yt
 exact (jv 0)
 exact Yb
 walk_at "6"
 exact Ya
 exact (YZ Zc)
 walk_at "A"
 exact sc.nd
 exact rfl
 walk_at "1"
 walk_at "3"
 walk_at "8"
 exact sc.nd
 exact rfl
 walk_at "1"
 walk_at "4"
 exact Yt
 walk_at "4"
 exact Yf
 walk_at "4"
 exact Yf
 walk_at "4"
 exact YR
 exact (jv 3)
 exact (jv 3)
 walk_at "4"
 exact YR
 exact Yb
 exact (jv 3)
 exact (jv 4)
 exact Yb
 refine Yc ?_
 walk_at "8"
 exact sc.nd
 exact rfl
 walk_at "1"
 walk_at "4"
 exact Yf
 exact (jv 2)
 walk_at "7"
 exact hu
 exact (jv 1)
 walk_at "4"
 exact Yt
 walk_at "4"
 exact YG
 exact (jv 3)
 exact Yb
 refine je_B (id := "len") ?_ ?_ ?_ ?_ ?_
 exact Yr
 exact rfl
 exact z_len
 exact Ys
 walk_at "2"
 exact (jv 1)
 exact Ya
 walk_at "6"
 refine Yc ?_
 refine Yk ?_
 exact (jv 2)
theorem Vd : FnScope ["_law_cells", "_law_names_here", "_law_words", "_law_signs", "_law_uses", "_law_most", "_law_wide", "_law_side", "_law_full", "_law_cell", "_law_pool", "_law_letter", "_law_word_here"] ["_law_cells", "_law_names_here", "_law_words", "_law_signs", "_law_uses", "_law_most", "_law_wide"] (defScope (top 22)) := ⟨rfl, rfl, rfl, by decide +kernel, rfl, by decide +kernel, by decide +kernel⟩
theorem YaT (kV doc pm : Value) (an : Option Addr) (cdv ct : Value) (us : List Value) (hl : us.length = (["_law_cells", "_law_names_here", "_law_words", "_law_signs", "_law_uses", "_law_most", "_law_wide"] : List Str).length) : bindArgs (PySem.W.fnOf "_law_left" "_law_left" (defArgs (top 22)) (defBody (top 22)) (defScope (top 22)) .none kV doc pm an cdv ct) ⟨us, []⟩ = pure ((["_law_cells", "_law_names_here", "_law_words", "_law_signs", "_law_uses", "_law_most", "_law_wide"] : List Str).zip us) := by
 match us, hl with
 | [_, _, _, _, _, _, _], _ => exact rfl
theorem Yba (T : Top K mg) (O : Own K mg) (D : DefAt K "_law_left" (top 22))  : Fn P' w K mg base "_law_left" 1 ["_law_cells", "_law_names_here", "_law_words", "_law_signs", "_law_uses", "_law_most", "_law_wide"] YX := by
 have z_len := O.z_len
 refine @YW P' w K mg base "_law_left" (top 22) ["_law_cells", "_law_names_here", "_law_words", "_law_signs", "_law_uses", "_law_most", "_law_wide", "_law_side", "_law_full", "_law_cell", "_law_pool", "_law_letter", "_law_word_here"] ["_law_cells", "_law_names_here", "_law_words", "_law_signs", "_law_uses", "_law_most", "_law_wide"] 0 Z7 T D Vd YaT ?_
 intro f cdv A outer s H E hr
 have hu := YQ hr
 have hu8 := Yy hr
 have sc := Vd
 walk_at "3"
 walk_at "8"
 exact sc.nd
 exact rfl
 walk_at "1"
 exact Yn
 walk_at "3"
 walk_at "8"
 exact sc.nd
 exact rfl
 walk_at "1"
 exact Yn
 walk_at "3"
 refine ZP ?_ ?_ ?_ ?_ ?_
 exact PassesOwn.never
 exact rfl
 refine YI ?_
 exact (jv 0)
 walk_at "A"
 exact sc.nd
 exact rfl
 walk_at "1"
 walk_at "3"
 walk_at "8"
 exact sc.nd
 exact rfl
 walk_at "1"
 walk_at "4"
 exact Yf
 walk_at "4"
 exact YR
 refine ZH ?_ ?_
 exact Yn
 refine YE (TN := ["_law_name"]) (FN := ["_law_uses"]) (fr := [4]) ?_ ?_ ?_ ?_ ?_
 exact rfl
 exact (Yz ["_law_name"] ["_law_uses"] [4] (by rfl))
 refine YI ?_
 exact (jv 1)
 exact (Yl (by decide))
 intro C s₀ H₀ ex
 refine ⟨?_, ?_, ?_⟩
 walk_at "A"
 show (["_law_name", "_law_uses"] : List Str).Nodup; decide +kernel
 exact rfl
 walk_at "1"
 refine W4 ?_
 walk_at "C"
 exact YbV
 walk_at "7"
 exact hu
 exact (jv 1)
 exact (jv 0)
 walk_at "6"
 exact Yb
 exact (nomark _)
 exact (jv 0)
 exact Yb
 exact (jv 3)
 walk_at "3"
 walk_at "8"
 exact sc.nd
 exact rfl
 walk_at "1"
 walk_at "7"
 exact hu
 exact (jv 10)
 walk_at "4"
 exact Yt
 walk_at "4"
 exact Yt
 walk_at "4"
 exact YR
 exact (jv 9)
 exact Yb
 exact Yb
 refine je_B (id := "len") ?_ ?_ ?_ ?_ ?_
 exact Yr
 exact rfl
 exact z_len
 exact Ys
 walk_at "2"
 exact (jv 10)
 exact Ya
 walk_at "6"
 walk_at "3"
 walk_at "8"
 exact sc.nd
 exact rfl
 walk_at "1"
 exact (jv 11)
 walk_at "3"
 refine Y6 ?_ ?_ ?_
 walk_at "C"
 exact (Yan hu)
 exact (jv 11)
 exact (jv 1)
 with_unfolding_all rfl
 refine Yc ?_
 walk_at "8"
 exact sc.nd
 exact rfl
 walk_at "1"
 walk_at "7"
 exact hu
 exact (jv 2)
 refine je_M (T := "str") (id := "str.find") ?_ ?_ ?_ ?_ ?_ ?_ ?_
 exact Vn
 exact PySem.F.plainAttrs_str
 exact PySem.F.slot_str_find
 exact PySem.F.type_str_find
 exact W7
 exact (jv 1)
 walk_at "2"
 exact (jv 11)
 exact Ya
 walk_at "6"
 exact Yv
 refine Yc ?_
 refine Y6 ?_ ?_ ?_
 refine L2.PW.pt ?_
 refine WP ?_ ?_
 walk_at "C"
 exact Ydg
 refine je_B (id := "len") ?_ ?_ ?_ ?_ ?_
 exact Yr
 exact rfl
 exact z_len
 exact Ys
 walk_at "2"
 exact (jv 7)
 exact Ya
 exact (jv 5)
 exact (nomark _)
 refine V4 ?_
 walk_at "C"
 exact YfF
 walk_at "4"
 exact Yf
 refine je_B (id := "len") ?_ ?_ ?_ ?_ ?_
 exact Yr
 exact rfl
 exact z_len
 exact Ys
 walk_at "2"
 exact (jv 8)
 exact Ya
 refine je_B (id := "len") ?_ ?_ ?_ ?_ ?_
 exact Yr
 exact rfl
 exact z_len
 exact Ys
 walk_at "2"
 exact (jv 12)
 exact Ya
 exact (jv 6)
 exact (nomark _)
 walk_at "3"
 walk_at "8"
 exact sc.nd
 exact rfl
 walk_at "1"
 walk_at "4"
 exact Yf
 exact (jv 7)
 exact (jv 11)
 walk_at "3"
 walk_at "8"
 exact sc.nd
 exact rfl
 walk_at "1"
 walk_at "4"
 exact Yf
 exact (jv 8)
 exact (jv 12)
 refine Yc ?_
 refine Y6 ?_ ?_ ?_
 walk_at "C"
 exact (Yan hu)
 exact (jv 11)
 exact (jv 1)
 with_unfolding_all rfl
 refine Yc ?_
 refine YaY ?_ ?_ ?_ ?_
 exact hu
 exact (jv 4)
 exact (jv 11)
 walk_at "4"
 exact Jw
 walk_at "7"
 exact hu
 exact (jv 4)
 exact (jv 11)
 walk_at "6"
 exact Yb
 exact Yv
 exact Yv
 refine Yc ?_
 refine Yk ?_
 refine Z6 ?_
 walk_at "2"
 exact (jv 7)
 walk_at "2"
 exact (jv 8)
 exact Ya
theorem VF : FnScope ["_law_cell", "_law_full", "_law_names_here", "_law_words", "_law_uses", "_law_side", "_law_number", "_law_at", "_law_letter", "_law_step", "_law_k", "_law_name", "_law_word_here", "_law_place"] ["_law_cell", "_law_full", "_law_names_here", "_law_words", "_law_uses"] (defScope (top 23)) := ⟨rfl, rfl, rfl, by decide +kernel, rfl, by decide +kernel, by decide +kernel⟩
theorem YbT (kV doc pm : Value) (an : Option Addr) (cdv ct : Value) (us : List Value) (hl : us.length = (["_law_cell", "_law_full", "_law_names_here", "_law_words", "_law_uses"] : List Str).length) : bindArgs (PySem.W.fnOf "_law_cut" "_law_cut" (defArgs (top 23)) (defBody (top 23)) (defScope (top 23)) .none kV doc pm an cdv ct) ⟨us, []⟩ = pure ((["_law_cell", "_law_full", "_law_names_here", "_law_words", "_law_uses"] : List Str).zip us) := by
 match us, hl with
 | [_, _, _, _, _], _ => exact rfl
theorem YbO (T : Top K mg) (O : Own K mg) (D : DefAt K "_law_cut" (top 23))  : Fn P' w K mg base "_law_cut" 1 ["_law_cell", "_law_full", "_law_names_here", "_law_words", "_law_uses"] Y9 := by
 have z_len := O.z_len
 have z_range := O.z_range
 refine @YW P' w K mg base "_law_cut" (top 23) ["_law_cell", "_law_full", "_law_names_here", "_law_words", "_law_uses", "_law_side", "_law_number", "_law_at", "_law_letter", "_law_step", "_law_k", "_law_name", "_law_word_here", "_law_place"] ["_law_cell", "_law_full", "_law_names_here", "_law_words", "_law_uses"] 0 WO T D VF YbT ?_
 intro f cdv A outer s H E hr
 have hu := YQ hr
 have hu8 := Yy hr
 have sc := VF
 walk_at "3"
 walk_at "8"
 exact sc.nd
 exact rfl
 walk_at "1"
 exact Yn
 walk_at "3"
 walk_at "8"
 exact sc.nd
 exact rfl
 walk_at "1"
 walk_at "4"
 exact Yt
 walk_at "4"
 exact YR
 exact (jv 0)
 exact Yb
 exact Yb
 walk_at "3"
 walk_at "8"
 exact sc.nd
 exact rfl
 walk_at "1"
 exact Yb
 walk_at "3"
 refine Yfi ?_ ?_ ?_
 exact PassesOwn.never
 walk_at "C"
 exact Ydg
 exact (jv 7)
 refine je_B (id := "len") ?_ ?_ ?_ ?_ ?_
 exact Yr
 exact rfl
 exact z_len
 exact Ys
 walk_at "2"
 exact (jv 1)
 exact Ya
 exact (nomark _)
 walk_at "3"
 walk_at "8"
 exact sc.nd
 exact rfl
 walk_at "1"
 walk_at "4"
 exact Yt
 walk_at "4"
 exact Yf
 walk_at "4"
 exact Yf
 walk_at "4"
 exact YR
 exact (jv 6)
 exact (jv 6)
 walk_at "4"
 exact YR
 exact Yb
 exact (jv 6)
 exact (jv 7)
 exact Yb
 walk_at "3"
 walk_at "8"
 exact sc.nd
 exact rfl
 walk_at "1"
 walk_at "7"
 exact hu
 exact (jv 1)
 exact (jv 7)
 walk_at "6"
 walk_at "3"
 walk_at "8"
 exact sc.nd
 exact rfl
 walk_at "1"
 exact Yb
 walk_at "3"
 refine ZP ?_ ?_ ?_ ?_ ?_
 exact PassesOwn.never
 exact rfl
 refine YY ?_ ?_ ?_ ?_
 exact rfl
 exact z_range
 walk_at "2"
 refine je_B (id := "len") ?_ ?_ ?_ ?_ ?_
 exact Yr
 exact rfl
 exact z_len
 exact Ys
 walk_at "2"
 exact (jv 2)
 exact Ya
 exact Ya
 exact (YZ Zc)
 walk_at "A"
 exact sc.nd
 exact rfl
 walk_at "1"
 walk_at "3"
 walk_at "8"
 exact sc.nd
 exact rfl
 walk_at "1"
 walk_at "7"
 exact hu
 exact (jv 2)
 walk_at "4"
 exact Yt
 walk_at "4"
 exact Yf
 walk_at "4"
 exact YG
 exact (jv 6)
 exact Yb
 exact (jv 10)
 refine je_B (id := "len") ?_ ?_ ?_ ?_ ?_
 exact Yr
 exact rfl
 exact z_len
 exact Ys
 walk_at "2"
 exact (jv 2)
 exact Ya
 walk_at "6"
 walk_at "3"
 walk_at "8"
 exact sc.nd
 exact rfl
 walk_at "1"
 walk_at "7"
 exact hu
 exact (jv 3)
 refine je_M (T := "str") (id := "str.find") ?_ ?_ ?_ ?_ ?_ ?_ ?_
 exact Vn
 exact PySem.F.plainAttrs_str
 exact PySem.F.slot_str_find
 exact PySem.F.type_str_find
 exact W7
 exact (jv 2)
 walk_at "2"
 exact (jv 11)
 exact Ya
 walk_at "6"
 refine Yc ?_
 refine Y6 ?_ ?_ ?_
 refine L2.PW.pt ?_
 refine WP ?_ ?_
 walk_at "C"
 exact YbV
 walk_at "4"
 exact Yt
 exact (jv 6)
 exact Yb
 exact Yb
 exact (nomark _)
 refine WP ?_ ?_
 walk_at "C"
 exact YbV
 walk_at "7"
 exact hu
 exact (jv 4)
 exact (jv 11)
 walk_at "6"
 exact Yb
 exact (nomark _)
 refine WP ?_ ?_
 walk_at "C"
 exact (YhF hu8)
 exact (jv 12)
 exact Yn
 exact (nomark _)
 refine V4 ?_
 walk_at "C"
 exact (JV hu8)
 refine Y4 ?_ ?_ ?_
 exact (jv 1)
 refine YS ?_
 exact (jv 7)
 refine YS ?_
 walk_at "4"
 exact Yf
 exact (jv 7)
 refine je_B (id := "len") ?_ ?_ ?_ ?_ ?_
 exact Yr
 exact rfl
 exact z_len
 exact Ys
 walk_at "2"
 exact (jv 12)
 exact Ya
 exact (jv 12)
 exact (nomark _)
 walk_at "3"
 walk_at "8"
 exact sc.nd
 exact rfl
 walk_at "1"
 exact (jv 11)
 walk_at "3"
 walk_at "8"
 exact sc.nd
 exact rfl
 walk_at "1"
 refine je_B (id := "len") ?_ ?_ ?_ ?_ ?_
 exact Yr
 exact rfl
 exact z_len
 exact Ys
 walk_at "2"
 exact (jv 12)
 exact Ya
 refine Yc ?_
 exact YfH
 exact Yv
 walk_at "3"
 refine Y6 ?_ ?_ ?_
 walk_at "C"
 exact (Yan hu)
 exact (jv 8)
 exact (jv 2)
 with_unfolding_all rfl
 refine Yc ?_
 refine YaY ?_ ?_ ?_ ?_
 exact hu
 exact (jv 4)
 exact (jv 8)
 walk_at "4"
 exact Jw
 walk_at "7"
 exact hu
 exact (jv 4)
 exact (jv 8)
 walk_at "6"
 exact Yb
 exact Yv
 walk_at "3"
 walk_at "8"
 exact sc.nd
 exact rfl
 walk_at "1"
 walk_at "4"
 exact Yf
 exact (jv 5)
 exact (jv 8)
 refine Yc ?_
 walk_at "8"
 exact sc.nd
 exact rfl
 walk_at "1"
 walk_at "4"
 exact Yf
 exact (jv 7)
 exact (jv 9)
 walk_at "3"
 refine ZP ?_ ?_ ?_ ?_ ?_
 exact PassesOwn.never
 exact rfl
 refine YY ?_ ?_ ?_ ?_
 exact rfl
 exact z_range
 walk_at "2"
 refine je_B (id := "len") ?_ ?_ ?_ ?_ ?_
 exact Yr
 exact rfl
 exact z_len
 exact Ys
 walk_at "2"
 exact (jv 2)
 exact Ya
 exact Ya
 exact (YZ Zc)
 walk_at "A"
 exact sc.nd
 exact rfl
 walk_at "1"
 refine Yc ?_
 refine Y6 ?_ ?_ ?_
 refine L2.PW.pt ?_
 refine WP ?_ ?_
 walk_at "C"
 exact (JV hu8)
 walk_at "7"
 exact hu
 exact (jv 3)
 exact (jv 10)
 walk_at "6"
 exact Yn
 exact (nomark _)
 refine WP ?_ ?_
 walk_at "C"
 exact YbV
 walk_at "7"
 exact hu
 exact (jv 4)
 walk_at "7"
 exact hu
 exact (jv 2)
 exact (jv 10)
 walk_at "6"
 walk_at "6"
 exact Yb
 exact (nomark _)
 refine V4 ?_
 walk_at "C"
 exact YbV
 walk_at "4"
 exact Yt
 walk_at "4"
 exact YG
 exact (jv 6)
 exact Yb
 exact Yb
 exact Yb
 exact (nomark _)
 walk_at "3"
 walk_at "8"
 exact sc.nd
 exact rfl
 walk_at "1"
 walk_at "4"
 exact Yt
 walk_at "4"
 exact YG
 exact (jv 6)
 exact Yb
 walk_at "4"
 exact Yf
 refine je_B (id := "len") ?_ ?_ ?_ ?_ ?_
 exact Yr
 exact rfl
 exact z_len
 exact Ys
 walk_at "2"
 exact (jv 5)
 exact Ya
 exact Yb
 walk_at "3"
 walk_at "8"
 exact sc.nd
 exact rfl
 walk_at "1"
 walk_at "4"
 exact Yf
 walk_at "4"
 exact Yf
 refine Y4 ?_ ?_ ?_
 exact (jv 5)
 exact Ws
 refine YS ?_
 exact (jv 13)
 walk_at "7"
 exact hu
 exact (jv 2)
 exact (jv 10)
 walk_at "6"
 refine Y4 ?_ ?_ ?_
 exact (jv 5)
 refine YS ?_
 exact (jv 13)
 exact Ws
 refine Yc ?_
 refine YaY ?_ ?_ ?_ ?_
 exact hu
 exact (jv 4)
 walk_at "7"
 exact hu
 exact (jv 2)
 exact (jv 10)
 walk_at "6"
 walk_at "4"
 exact Jw
 walk_at "7"
 exact hu
 exact (jv 4)
 walk_at "7"
 exact hu
 exact (jv 2)
 exact (jv 10)
 walk_at "6"
 walk_at "6"
 exact Yb
 exact Yv
 refine Yc ?_
 refine Yk ?_
 exact (jv 5)
theorem ZG : FnScope ["_law_script", "_law_first", "_law_signs", "_law_names_here", "_law_words", "_law_uses", "_law_name", "_law_many", "_law_cells", "_law_system", "_law_k", "_law_some", "_law_most", "_law_left_here", "_law_full", "_law_right", "_law_letters", "_law_there"] ["_law_script"] (defScope (top 24)) := ⟨rfl, rfl, rfl, by decide +kernel, rfl, by decide +kernel, by decide +kernel⟩
theorem Vu (kV doc pm : Value) (an : Option Addr) (cdv ct : Value) (us : List Value) (hl : us.length = (["_law_script"] : List Str).length) : bindArgs (PySem.W.fnOf "_law_answered" "_law_answered" (defArgs (top 24)) (defBody (top 24)) (defScope (top 24)) .none kV doc pm an cdv ct) ⟨us, []⟩ = pure ((["_law_script"] : List Str).zip us) := by
 match us, hl with
 | [_], _ => exact rfl
theorem VD (T : Top K mg) (O : Own K mg) (D : DefAt K "_law_answered" (top 24)) (F__law_cell_at : Fn P' w K mg base "_law_cell_at" 1 ["_law_script", "_law_k"] Yd) (F__law_cut : Fn P' w K mg base "_law_cut" 1 ["_law_cell", "_law_full", "_law_names_here", "_law_words", "_law_uses"] Y9) (F__law_left : Fn P' w K mg base "_law_left" 1 ["_law_cells", "_law_names_here", "_law_words", "_law_signs", "_law_uses", "_law_most", "_law_wide"] YX) (F__law_names : Fn P' w K mg base "_law_names" 1 ["_law_cell"] YL) (F__law_word : Fn P' w K mg base "_law_word" 1 ["_law_cell", "_law_signs"] YH) : Fn P' w K mg base "_law_answered" 2 ["_law_script"] Yu := by
 have z_len := O.z_len
 have z_range := O.z_range
 have z_sum := O.z_sum
 have z_tuple := O.z_tuple
 refine @YW P' w K mg base "_law_answered" (top 24) ["_law_script", "_law_first", "_law_signs", "_law_names_here", "_law_words", "_law_uses", "_law_name", "_law_many", "_law_cells", "_law_system", "_law_k", "_law_some", "_law_most", "_law_left_here", "_law_full", "_law_right", "_law_letters", "_law_there"] ["_law_script"] 1 Zi T D ZG Vu ?_
 intro f cdv A outer s H E hr
 have hu := YQ hr
 have hu8 := Yy hr
 have sc := ZG
 walk_at "3"
 walk_at "8"
 exact sc.nd
 exact rfl
 walk_at "1"
 refine Yj (ps := ["_law_script", "_law_k"]) (k := 1) ?_ ?_ ?_ ?_
 exact F__law_cell_at
 walk_at "E"
 exact rfl
 walk_at "2"
 exact (jv 0)
 walk_at "2"
 exact Yb
 exact Ya
 walk_at "3"
 walk_at "8"
 exact sc.nd
 exact rfl
 walk_at "1"
 walk_at "7"
 exact hu
 refine Zr ?_
 refine Wg ?_
 walk_at "2"
 exact Yn
 walk_at "2"
 exact Yn
 walk_at "2"
 exact Yn
 walk_at "2"
 exact Yn
 walk_at "2"
 exact Yn
 exact Ya
 walk_at "4"
 exact Yt
 walk_at "4"
 exact YG
 exact (jv 1)
 exact Yb
 exact Yb
 walk_at "6"
 walk_at "3"
 walk_at "8"
 exact sc.nd
 exact rfl
 walk_at "1"
 refine Yj (ps := ["_law_cell"]) (k := 1) ?_ ?_ ?_ ?_
 exact F__law_names
 walk_at "E"
 exact rfl
 walk_at "2"
 exact (jv 1)
 exact Ya
 walk_at "3"
 walk_at "8"
 exact sc.nd
 exact rfl
 walk_at "1"
 refine Zr ?_
 refine YE (TN := ["_law_k"]) (FN := ["_law_script", "_law_signs"]) (fr := [0, 2]) ?_ ?_ ?_ ?_ ?_
 exact rfl
 exact (Yz ["_law_k"] ["_law_script", "_law_signs"] [0, 2] (by rfl))
 refine YY ?_ ?_ ?_ ?_
 exact rfl
 exact z_range
 walk_at "2"
 refine je_B (id := "len") ?_ ?_ ?_ ?_ ?_
 exact Yr
 exact rfl
 exact z_len
 exact Ys
 walk_at "2"
 exact (jv 3)
 exact Ya
 exact Ya
 exact (YZ Zc)
 exact (Yl (by decide))
 intro C s₀ H₀ ex
 refine ⟨?_, ?_, ?_⟩
 walk_at "A"
 show (["_law_k", "_law_script", "_law_signs"] : List Str).Nodup; decide +kernel
 exact rfl
 walk_at "1"
 exact Y1
 refine Yj (ps := ["_law_cell", "_law_signs"]) (k := 1) ?_ ?_ ?_ ?_
 exact F__law_word
 walk_at "E"
 exact rfl
 walk_at "2"
 refine Yj (ps := ["_law_script", "_law_k"]) (k := 1) ?_ ?_ ?_ ?_
 exact F__law_cell_at
 walk_at "E"
 exact rfl
 walk_at "2"
 exact (jv 1)
 walk_at "2"
 walk_at "4"
 exact Yf
 exact Yb
 exact (jv 0)
 exact Ya
 walk_at "2"
 exact (jv 2)
 exact Ya
 walk_at "3"
 walk_at "8"
 exact sc.nd
 exact rfl
 walk_at "1"
 exact Ye4
 walk_at "3"
 refine ZP ?_ ?_ ?_ ?_ ?_
 exact PassesOwn.never
 exact rfl
 refine YI ?_
 exact (jv 3)
 walk_at "A"
 exact sc.nd
 exact rfl
 walk_at "1"
 refine Yc ?_
 refine YaY ?_ ?_ ?_ ?_
 exact hu
 exact (jv 5)
 exact (jv 6)
 exact Yb
 walk_at "3"
 walk_at "8"
 exact sc.nd
 exact rfl
 walk_at "1"
 walk_at "4"
 exact Yf
 exact Yb
 walk_at "4"
 exact Yt
 refine Yj (ps := ["_law_script", "_law_k"]) (k := 1) ?_ ?_ ?_ ?_
 exact F__law_cell_at
 walk_at "E"
 exact rfl
 walk_at "2"
 exact (jv 0)
 walk_at "2"
 exact Yb
 exact Ya
 exact Yb
 walk_at "3"
 walk_at "8"
 exact sc.nd
 exact rfl
 walk_at "1"
 refine Y4 ?_ ?_ ?_
 exact (jv 0)
 refine YS ?_
 exact Yb
 refine YS ?_
 exact Yb
 walk_at "3"
 walk_at "8"
 exact sc.nd
 exact rfl
 walk_at "1"
 refine Zr ?_
 refine Wg ?_
 exact Ya
 walk_at "3"
 refine ZP ?_ ?_ ?_ ?_ ?_
 exact PassesOwn.never
 exact rfl
 refine YY ?_ ?_ ?_ ?_
 exact rfl
 exact z_range
 walk_at "2"
 exact (jv 7)
 exact Ya
 exact (YZ Zc)
 walk_at "A"
 exact sc.nd
 exact rfl
 walk_at "1"
 walk_at "3"
 walk_at "8"
 exact sc.nd
 exact rfl
 walk_at "1"
 refine Y4 ?_ ?_ ?_
 exact (jv 8)
 refine YS ?_
 walk_at "4"
 exact YG
 walk_at "4"
 exact YR
 exact (jv 10)
 refine je_B (id := "len") ?_ ?_ ?_ ?_ ?_
 exact Yr
 exact rfl
 exact z_len
 exact Ys
 walk_at "2"
 exact (jv 8)
 exact Ya
 exact (jv 7)
 refine YS ?_
 walk_at "4"
 exact YG
 walk_at "4"
 exact YR
 walk_at "4"
 exact Yf
 exact (jv 10)
 exact Yb
 refine je_B (id := "len") ?_ ?_ ?_ ?_ ?_
 exact Yr
 exact rfl
 exact z_len
 exact Ys
 walk_at "2"
 exact (jv 8)
 exact Ya
 exact (jv 7)
 walk_at "3"
 walk_at "8"
 exact sc.nd
 exact rfl
 walk_at "1"
 walk_at "7"
 exact hu
 refine Zr ?_
 refine Wg ?_
 walk_at "2"
 exact Yb
 walk_at "2"
 exact Yb
 walk_at "2"
 exact Yb
 exact Ya
 walk_at "4"
 exact Jw
 exact (jv 7)
 exact Yb
 walk_at "6"
 walk_at "3"
 refine YfN ?_ ?_
 refine Yj (ps := ["_law_cells", "_law_names_here", "_law_words", "_law_signs", "_law_uses", "_law_most", "_law_wide"]) (k := 1) ?_ ?_ ?_ ?_
 exact F__law_left
 walk_at "E"
 exact rfl
 walk_at "2"
 exact (jv 11)
 walk_at "2"
 exact (jv 3)
 walk_at "2"
 exact (jv 4)
 walk_at "2"
 exact (jv 2)
 walk_at "2"
 exact (jv 5)
 walk_at "2"
 exact (jv 12)
 walk_at "2"
 walk_at "7"
 exact hu
 refine Zr ?_
 refine Wg ?_
 walk_at "2"
 exact Yb
 walk_at "2"
 exact Yb
 walk_at "2"
 exact Yb
 exact Ya
 walk_at "4"
 exact Jw
 exact (jv 7)
 exact Yb
 walk_at "6"
 exact Ya
 refine Z8 ?_ ?_
 exact rfl
 walk_at "D"
 walk_at "A"
 exact sc.nd
 exact rfl
 walk_at "1"
 walk_at "D"
 walk_at "A"
 exact sc.nd
 exact rfl
 walk_at "1"
 exact Zv
 walk_at "3"
 walk_at "8"
 exact sc.nd
 exact rfl
 walk_at "1"
 refine Yj (ps := ["_law_cell", "_law_full", "_law_names_here", "_law_words", "_law_uses"]) (k := 1) ?_ ?_ ?_ ?_
 exact F__law_cut
 walk_at "E"
 exact rfl
 walk_at "2"
 walk_at "4"
 exact Yf
 walk_at "4"
 exact Yf
 walk_at "4"
 exact YG
 refine Yj (ps := ["_law_script", "_law_k"]) (k := 1) ?_ ?_ ?_ ?_
 exact F__law_cell_at
 walk_at "E"
 exact rfl
 walk_at "2"
 exact (jv 0)
 walk_at "2"
 exact Yb
 exact Ya
 exact Yb
 walk_at "4"
 exact YR
 exact Yb
 exact (jv 10)
 walk_at "4"
 exact Yt
 refine je_B (id := "sum") ?_ ?_ ?_ ?_ ?_
 exact (YiU rfl)
 exact rfl
 exact z_sum
 exact Yid
 walk_at "2"
 exact (jv 11)
 exact Ya
 exact Yb
 walk_at "2"
 exact (jv 14)
 walk_at "2"
 exact (jv 3)
 walk_at "2"
 exact (jv 4)
 walk_at "2"
 exact (jv 5)
 exact Ya
 refine Yc ?_
 refine YaS ?_
 refine je_M (T := "list") (id := "list.append") ?_ ?_ ?_ ?_ ?_ ?_ ?_
 exact YcK
 exact PySem.F.plainAttrs_list
 exact PySem.F.slot_list_append
 exact PySem.F.type_list_append
 exact VB
 exact (jv 9)
 walk_at "2"
 walk_at "7"
 exact hu
 refine Zr ?_
 refine Wg ?_
 walk_at "2"
 refine Z6 ?_
 walk_at "2"
 exact (jv 13)
 walk_at "2"
 exact (jv 15)
 exact Ya
 walk_at "2"
 refine Z6 ?_
 walk_at "2"
 exact (jv 15)
 walk_at "2"
 exact (jv 13)
 exact Ya
 exact Ya
 walk_at "4"
 exact Yt
 walk_at "4"
 exact YG
 refine Yj (ps := ["_law_script", "_law_k"]) (k := 1) ?_ ?_ ?_ ?_
 exact F__law_cell_at
 walk_at "E"
 exact rfl
 walk_at "2"
 exact (jv 0)
 walk_at "2"
 exact Yb
 exact Ya
 walk_at "4"
 exact Yf
 exact Yb
 exact (jv 10)
 exact Yb
 walk_at "6"
 exact Ya
 walk_at "3"
 walk_at "8"
 exact sc.nd
 exact rfl
 walk_at "1"
 refine ZH ?_ ?_
 exact Yn
 refine YE (TN := ["_law_left_here", "_law_right"]) (FN := []) (fr := []) ?_ ?_ ?_ ?_ ?_
 exact rfl
 exact (Yz ["_law_left_here", "_law_right"] [] [] (by rfl))
 refine YI ?_
 exact (jv 9)
 exact (Vm (YC (Yl (by decide)) (YC (Yl (by decide)) Wp)))
 intro C s₀ H₀ ex
 refine ⟨?_, ?_, ?_⟩
 refine Z8 ?_ ?_
 exact rfl
 walk_at "D"
 walk_at "A"
 show (["_law_left_here", "_law_right"] : List Str).Nodup; decide +kernel
 exact rfl
 walk_at "1"
 walk_at "D"
 walk_at "A"
 show (["_law_left_here", "_law_right"] : List Str).Nodup; decide +kernel
 exact rfl
 walk_at "1"
 exact Zv
 exact Y1
 walk_at "4"
 exact Yf
 exact (jv 0)
 exact (jv 1)
 walk_at "3"
 refine Jk (TN := ["_law_k"]) (FN := ["_law_letters", "_law_names_here"]) (fr := [16, 3]) ?_ ?_ ?_ ?_ ?_ ?_ ?_ ?_
 exact sc.nd
 exact rfl
 walk_at "1"
 exact rfl
 exact (Yz ["_law_k"] ["_law_letters", "_law_names_here"] [16, 3] (by rfl))
 refine YY ?_ ?_ ?_ ?_
 exact rfl
 exact z_range
 walk_at "2"
 refine je_B (id := "len") ?_ ?_ ?_ ?_ ?_
 exact Yr
 exact rfl
 exact z_len
 exact Ys
 walk_at "2"
 exact (jv 3)
 exact Ya
 exact Ya
 exact (YZ Zc)
 exact (Yl (by decide))
 intro C s₀ H₀ ex
 refine ⟨?_, ?_, ?_⟩
 walk_at "A"
 show (["_law_k", "_law_letters", "_law_names_here"] : List Str).Nodup; decide +kernel
 exact rfl
 walk_at "1"
 refine W4 ?_
 walk_at "C"
 exact (Yan hu)
 walk_at "7"
 exact hu
 exact (jv 2)
 exact (jv 0)
 walk_at "6"
 exact (jv 1)
 with_unfolding_all rfl
 exact (jv 0)
 refine Yc ?_
 refine Yk ?_
 refine Z6 ?_
 walk_at "2"
 refine YhK (T := "tuple") ?_ ?_ ?_ ?_ ?_
 exact YbX
 exact rfl
 exact z_tuple
 exact Zt
 walk_at "2"
 exact (jv 9)
 exact Ya
 walk_at "2"
 refine ZH ?_ ?_
 exact Yn
 refine YE (TN := ["_law_k"]) (FN := ["_law_names_here"]) (fr := [3]) ?_ ?_ ?_ ?_ ?_
 exact rfl
 exact (Yz ["_law_k"] ["_law_names_here"] [3] (by rfl))
 refine YI ?_
 exact (jv 17)
 exact (Yl (by decide))
 intro C s₀ H₀ ex
 refine ⟨?_, ?_, ?_⟩
 walk_at "A"
 show (["_law_k", "_law_names_here"] : List Str).Nodup; decide +kernel
 exact rfl
 walk_at "1"
 exact Y1
 walk_at "7"
 exact hu
 exact (jv 1)
 exact (jv 0)
 walk_at "6"
 walk_at "2"
 refine Zz ?_ ?_ ?_ ?_
 exact rfl
 exact z_tuple
 exact Zt
 refine YE (TN := ["_law_k"]) (FN := ["_law_words"]) (fr := [4]) ?_ ?_ ?_ ?_ ?_
 exact rfl
 exact (Yz ["_law_k"] ["_law_words"] [4] (by rfl))
 refine YI ?_
 exact (jv 17)
 exact (Yl (by decide))
 intro C s₀ H₀ ex
 refine ⟨?_, ?_, ?_⟩
 walk_at "A"
 show (["_law_k", "_law_words"] : List Str).Nodup; decide +kernel
 exact rfl
 walk_at "1"
 exact Y1
 walk_at "7"
 exact hu
 exact (jv 1)
 exact (jv 0)
 walk_at "6"
 exact Ya
theorem WG : FnScope ["_law_names_here", "_law_words", "_law_old", "_law_new", "_law_found", "_law_name"] ["_law_names_here", "_law_words", "_law_old", "_law_new"] (defScope (top 25)) := ⟨rfl, rfl, rfl, by decide +kernel, rfl, by decide +kernel, by decide +kernel⟩
theorem J5 (kV doc pm : Value) (an : Option Addr) (cdv ct : Value) (us : List Value) (hl : us.length = (["_law_names_here", "_law_words", "_law_old", "_law_new"] : List Str).length) : bindArgs (PySem.W.fnOf "_law_moved" "_law_moved" (defArgs (top 25)) (defBody (top 25)) (defScope (top 25)) .none kV doc pm an cdv ct) ⟨us, []⟩ = pure ((["_law_names_here", "_law_words", "_law_old", "_law_new"] : List Str).zip us) := by
 match us, hl with
 | [_, _, _, _], _ => exact rfl
theorem J8 (T : Top K mg) (O : Own K mg) (D : DefAt K "_law_moved" (top 25))  : Fn P' w K mg base "_law_moved" 1 ["_law_names_here", "_law_words", "_law_old", "_law_new"] YK := by
 have z_tuple := O.z_tuple
 refine @YW P' w K mg base "_law_moved" (top 25) ["_law_names_here", "_law_words", "_law_old", "_law_new", "_law_found", "_law_name"] ["_law_names_here", "_law_words", "_law_old", "_law_new"] 0 ZN T D WG J5 ?_
 intro f cdv A outer s H E hr
 have hu := YQ hr
 have hu8 := Yy hr
 have sc := WG
 walk_at "3"
 walk_at "8"
 exact sc.nd
 exact rfl
 walk_at "1"
 refine Zr ?_
 refine Wg ?_
 exact Ya
 walk_at "3"
 refine ZP ?_ ?_ ?_ ?_ ?_
 exact PassesOwn.never
 exact rfl
 refine YI ?_
 exact Yn
 walk_at "A"
 exact sc.nd
 exact rfl
 walk_at "1"
 refine Yc ?_
 refine Y6 ?_ ?_ ?_
 walk_at "C"
 exact (JV hu8)
 exact (jv 5)
 exact (jv 3)
 exact (nomark _)
 refine Yc ?_
 refine YaS ?_
 refine je_M (T := "list") (id := "list.append") ?_ ?_ ?_ ?_ ?_ ?_ ?_
 exact YcK
 exact PySem.F.plainAttrs_list
 exact PySem.F.slot_list_append
 exact PySem.F.type_list_append
 exact VB
 exact (jv 4)
 walk_at "2"
 walk_at "7"
 exact hu
 exact (jv 1)
 refine je_M (T := "str") (id := "str.find") ?_ ?_ ?_ ?_ ?_ ?_ ?_
 exact Vn
 exact PySem.F.plainAttrs_str
 exact PySem.F.slot_str_find
 exact PySem.F.type_str_find
 exact W7
 exact (jv 0)
 walk_at "2"
 exact (jv 2)
 exact Ya
 walk_at "6"
 exact Ya
 refine Yc ?_
 refine Y6 ?_ ?_ ?_
 refine L2.PW.pt ?_
 refine WP ?_ ?_
 walk_at "C"
 exact (Yan hu)
 exact (jv 5)
 exact (jv 0)
 with_unfolding_all rfl
 refine V4 ?_
 walk_at "C"
 exact (YhF hu8)
 exact (jv 5)
 exact (jv 2)
 exact (nomark _)
 refine Yc ?_
 refine YaS ?_
 refine je_M (T := "list") (id := "list.append") ?_ ?_ ?_ ?_ ?_ ?_ ?_
 exact YcK
 exact PySem.F.plainAttrs_list
 exact PySem.F.slot_list_append
 exact PySem.F.type_list_append
 exact VB
 exact (jv 4)
 walk_at "2"
 walk_at "7"
 exact hu
 exact (jv 1)
 refine je_M (T := "str") (id := "str.find") ?_ ?_ ?_ ?_ ?_ ?_ ?_
 exact Vn
 exact PySem.F.plainAttrs_str
 exact PySem.F.slot_str_find
 exact PySem.F.type_str_find
 exact W7
 exact (jv 0)
 walk_at "2"
 exact (jv 5)
 exact Ya
 walk_at "6"
 exact Ya
 exact Yv
 refine Yc ?_
 refine Yk ?_
 refine YhK (T := "tuple") ?_ ?_ ?_ ?_ ?_
 exact YbX
 exact rfl
 exact z_tuple
 exact Zt
 walk_at "2"
 exact (jv 4)
 exact Ya
theorem WY : FnScope ["_law_found", "_law_due"] ["_law_found", "_law_due"] (defScope (top 26)) := ⟨rfl, rfl, rfl, by decide +kernel, rfl, by decide +kernel, by decide +kernel⟩
theorem Ybn (kV doc pm : Value) (an : Option Addr) (cdv ct : Value) (us : List Value) (hl : us.length = (["_law_found", "_law_due"] : List Str).length) : bindArgs (PySem.W.fnOf "_law_told" "_law_told" (defArgs (top 26)) (defBody (top 26)) (defScope (top 26)) .none kV doc pm an cdv ct) ⟨us, []⟩ = pure ((["_law_found", "_law_due"] : List Str).zip us) := by
 match us, hl with
 | [_, _], _ => exact rfl
theorem Ybl (T : Top K mg) (O : Own K mg) (D : DefAt K "_law_told" (top 26))  : Fn P' w K mg base "_law_told" 1 ["_law_found", "_law_due"] Yq := by
 have z_bool := O.z_bool
 have z_isinstance := O.z_isinstance
 refine @YW P' w K mg base "_law_told" (top 26) ["_law_found", "_law_due"] ["_law_found", "_law_due"] 0 Z3 T D WY Ybn ?_
 intro f cdv A outer s H E hr
 have hu := YQ hr
 have hu8 := Yy hr
 have sc := WY
 refine Yc ?_
 refine Yk ?_
 refine Yfp ?_ ?_
 refine YiT ?_ ?_ ?_ ?_ ?_ ?_ ?_ ?_
 exact Ye9
 exact rfl
 exact z_isinstance
 exact Yak
 exact rfl
 exact z_bool
 exact YhC
 exact (jv 0)
 refine Yfv ?_
 refine YcC ?_ ?_ ?_ ?_
 exact (JV hu8)
 exact (jv 0)
 exact (jv 1)
 exact (nomark _)
theorem WC : FnScope ["_law_system", "_law_names_here", "_law_words", "_law_old", "_law_new", "_law_due"] ["_law_system", "_law_names_here", "_law_words", "_law_old", "_law_new", "_law_due"] (defScope (top 27)) := ⟨rfl, rfl, rfl, by decide +kernel, rfl, by decide +kernel, by decide +kernel⟩
theorem Yah (kV doc pm : Value) (an : Option Addr) (cdv ct : Value) (us : List Value) (hl : us.length = (["_law_system", "_law_names_here", "_law_words", "_law_old", "_law_new", "_law_due"] : List Str).length) : bindArgs (PySem.W.fnOf "_law_along" "_law_along" (defArgs (top 27)) (defBody (top 27)) (defScope (top 27)) .none kV doc pm an cdv ct) ⟨us, []⟩ = pure ((["_law_system", "_law_names_here", "_law_words", "_law_old", "_law_new", "_law_due"] : List Str).zip us) := by
 match us, hl with
 | [_, _, _, _, _, _], _ => exact rfl
theorem Yaj (T : Top K mg) (O : Own K mg) (D : DefAt K "_law_along" (top 27)) (F__law_moved : Fn P' w K mg base "_law_moved" 1 ["_law_names_here", "_law_words", "_law_old", "_law_new"] YK) (F__law_told : Fn P' w K mg base "_law_told" 1 ["_law_found", "_law_due"] Yq) (F_holds : Fn P' w K mg base "holds" 3 ["system", "words"] YF) (F_mirrored : Fn P' w K mg base "mirrored" 2 ["system"] Y7) (F_renamed : Fn P' w K mg base "renamed" 3 ["system", "old", "new"] Zk) (F_turned : Fn P' w K mg base "turned" 1 ["system"] ZC) : Fn P' w K mg base "_law_along" 4 ["_law_system", "_law_names_here", "_law_words", "_law_old", "_law_new", "_law_due"] Yx := by
 have z_tuple := O.z_tuple
 refine @YW P' w K mg base "_law_along" (top 27) ["_law_system", "_law_names_here", "_law_words", "_law_old", "_law_new", "_law_due"] ["_law_system", "_law_names_here", "_law_words", "_law_old", "_law_new", "_law_due"] 3 ZX T D WC Yah ?_
 intro f cdv A outer s H E hr
 have hu := YQ hr
 have hu8 := Yy hr
 have sc := WC
 walk_at "3"
 refine Y6 ?_ ?_ ?_
 refine L2.PW.pt ?_
 refine YhG ?_ ?_
 refine Wk ?_
 refine ZI ?_ ?_
 refine Yj (ps := ["_law_found", "_law_due"]) (k := 1) ?_ ?_ ?_ ?_
 exact F__law_told
 walk_at "E"
 exact rfl
 walk_at "2"
 refine Yj (ps := ["system", "words"]) (k := 3) ?_ ?_ ?_ ?_
 exact F_holds
 walk_at "E"
 exact rfl
 walk_at "2"
 exact (jv 0)
 walk_at "2"
 exact (jv 2)
 exact Ya
 walk_at "2"
 exact (jv 5)
 exact Ya
 exact (fun _ => rfl)
 refine Yfa ?_
 refine Wk ?_
 refine ZI ?_ ?_
 refine Yj (ps := ["_law_found", "_law_due"]) (k := 1) ?_ ?_ ?_ ?_
 exact F__law_told
 walk_at "E"
 exact rfl
 walk_at "2"
 refine Yj (ps := ["system", "words"]) (k := 3) ?_ ?_ ?_ ?_
 exact F_holds
 walk_at "E"
 exact rfl
 walk_at "2"
 refine Yj (ps := ["system"]) (k := 1) ?_ ?_ ?_ ?_
 exact F_turned
 walk_at "E"
 exact rfl
 walk_at "2"
 exact (jv 0)
 exact Ya
 walk_at "2"
 exact (jv 2)
 exact Ya
 walk_at "2"
 exact (jv 5)
 exact Ya
 exact (fun _ => rfl)
 refine Yc ?_
 refine Yk ?_
 exact VL
 exact Yv
 walk_at "3"
 refine Y6 ?_ ?_ ?_
 refine Wk ?_
 refine ZI ?_ ?_
 refine Yj (ps := ["_law_found", "_law_due"]) (k := 1) ?_ ?_ ?_ ?_
 exact F__law_told
 walk_at "E"
 exact rfl
 walk_at "2"
 refine Yj (ps := ["system", "words"]) (k := 3) ?_ ?_ ?_ ?_
 exact F_holds
 walk_at "E"
 exact rfl
 walk_at "2"
 refine Yj (ps := ["system"]) (k := 2) ?_ ?_ ?_ ?_
 exact F_mirrored
 walk_at "E"
 exact rfl
 walk_at "2"
 exact (jv 0)
 exact Ya
 walk_at "2"
 refine Zz ?_ ?_ ?_ ?_
 exact rfl
 exact z_tuple
 exact Zt
 refine YE (TN := ["_law_word_here"]) (FN := []) (fr := []) ?_ ?_ ?_ ?_ ?_
 exact rfl
 exact (Yz ["_law_word_here"] [] [] (by rfl))
 refine YI ?_
 exact (jv 2)
 exact (Yl (by decide))
 intro C s₀ H₀ ex
 refine ⟨?_, ?_, ?_⟩
 walk_at "A"
 show (["_law_word_here"] : List Str).Nodup; decide +kernel
 exact rfl
 walk_at "1"
 exact Y1
 refine Ydj ?_
 exact (jv 0)
 exact Ya
 walk_at "2"
 exact (jv 5)
 exact Ya
 exact (fun _ => rfl)
 refine Yc ?_
 refine Yk ?_
 exact VL
 exact Yv
 walk_at "3"
 refine Y6 ?_ ?_ ?_
 refine Wk ?_
 refine ZI ?_ ?_
 refine Yj (ps := ["_law_found", "_law_due"]) (k := 1) ?_ ?_ ?_ ?_
 exact F__law_told
 walk_at "E"
 exact rfl
 walk_at "2"
 refine Yj (ps := ["system", "words"]) (k := 3) ?_ ?_ ?_ ?_
 exact F_holds
 walk_at "E"
 exact rfl
 walk_at "2"
 refine Ydj ?_
 exact (jv 0)
 walk_at "2"
 exact (jv 2)
 exact Ya
 walk_at "2"
 exact (jv 5)
 exact Ya
 exact (fun _ => rfl)
 refine Yc ?_
 refine Yk ?_
 exact VL
 exact Yv
 walk_at "3"
 refine Y6 ?_ ?_ ?_
 walk_at "C"
 exact (JV hu8)
 exact (jv 1)
 exact Yn
 exact (nomark _)
 refine Yc ?_
 refine Yk ?_
 exact VL
 exact Yv
 refine Yc ?_
 refine Yk ?_
 refine Yj (ps := ["_law_found", "_law_due"]) (k := 1) ?_ ?_ ?_ ?_
 exact F__law_told
 walk_at "E"
 exact rfl
 walk_at "2"
 refine Yj (ps := ["system", "words"]) (k := 3) ?_ ?_ ?_ ?_
 exact F_holds
 walk_at "E"
 exact rfl
 walk_at "2"
 refine Yj (ps := ["system", "old", "new"]) (k := 3) ?_ ?_ ?_ ?_
 exact F_renamed
 walk_at "E"
 exact rfl
 walk_at "2"
 exact (jv 0)
 walk_at "2"
 exact (jv 3)
 walk_at "2"
 exact (jv 4)
 exact Ya
 walk_at "2"
 refine Yj (ps := ["_law_names_here", "_law_words", "_law_old", "_law_new"]) (k := 1) ?_ ?_ ?_ ?_
 exact F__law_moved
 walk_at "E"
 exact rfl
 walk_at "2"
 exact (jv 1)
 walk_at "2"
 exact (jv 2)
 walk_at "2"
 exact (jv 3)
 walk_at "2"
 exact (jv 4)
 exact Ya
 exact Ya
 walk_at "2"
 exact (jv 5)
 exact Ya
theorem Ygp : FnScope ["_law_script", "_law_system", "_law_names_here", "_law_words", "_law_cell", "_law_others", "_law_old", "_law_new", "_law_k", "_law_other"] ["_law_script"] (defScope (top 28)) := ⟨rfl, rfl, rfl, by decide +kernel, rfl, by decide +kernel, by decide +kernel⟩
theorem YjS (kV doc pm : Value) (an : Option Addr) (cdv ct : Value) (us : List Value) (hl : us.length = (["_law_script"] : List Str).length) : bindArgs (PySem.W.fnOf "law" "law" (defArgs (top 28)) (defBody (top 28)) (defScope (top 28)) .none kV doc pm an cdv ct) ⟨us, []⟩ = pure ((["_law_script"] : List Str).zip us) := by
 match us, hl with
 | [_], _ => exact rfl
theorem Yi2 (T : Top K mg) (O : Own K mg) (F__law_along : Fn P' w K mg base "_law_along" 4 ["_law_system", "_law_names_here", "_law_words", "_law_old", "_law_new", "_law_due"] Yx) (F__law_answered : Fn P' w K mg base "_law_answered" 2 ["_law_script"] Yu) (F__law_cell_at : Fn P' w K mg base "_law_cell_at" 1 ["_law_script", "_law_k"] Yd) (F_holds : Fn P' w K mg base "holds" 3 ["system", "words"] YF) (f : Addr) (fd : FuncData) (F : Fun K "law" "law" (top 28) f fd) : FM P' w K mg base 5 f fd ["_law_script"] Ybz := by
 have z_len := O.z_len
 have z_max := O.z_max
 have z_range := O.z_range
 refine @Mi.Fun.mirror P' w K mg base "law" "law" (top 28) f fd ["_law_script", "_law_system", "_law_names_here", "_law_words", "_law_cell", "_law_others", "_law_old", "_law_new", "_law_k", "_law_other"] ["_law_script"] 4 Yga F Ygp ?_
 intro cdv A outer s H E hr
 have hu := YQ hr
 have hu8 := Yy hr
 have sc := Ygp
 walk_at "3"
 refine YfN ?_ ?_
 refine Yj (ps := ["_law_script"]) (k := 2) ?_ ?_ ?_ ?_
 exact F__law_answered
 walk_at "E"
 exact rfl
 walk_at "2"
 exact (jv 0)
 exact Ya
 refine Z8 ?_ ?_
 exact rfl
 walk_at "D"
 walk_at "A"
 exact sc.nd
 exact rfl
 walk_at "1"
 walk_at "D"
 walk_at "A"
 exact sc.nd
 exact rfl
 walk_at "1"
 walk_at "D"
 walk_at "A"
 exact sc.nd
 exact rfl
 walk_at "1"
 exact Zv
 walk_at "3"
 walk_at "8"
 exact sc.nd
 exact rfl
 walk_at "1"
 refine Yj (ps := ["_law_script", "_law_k"]) (k := 1) ?_ ?_ ?_ ?_
 exact F__law_cell_at
 walk_at "E"
 exact rfl
 walk_at "2"
 exact (jv 0)
 walk_at "2"
 exact Yb
 exact Ya
 walk_at "3"
 refine Jk (TN := ["_law_name"]) (FN := ["_law_names_here"]) (fr := [2]) ?_ ?_ ?_ ?_ ?_ ?_ ?_ ?_
 exact sc.nd
 exact rfl
 walk_at "1"
 exact rfl
 exact (Yz ["_law_name"] ["_law_names_here"] [2] (by rfl))
 refine YI ?_
 exact Yn
 exact (Yl (by decide))
 intro C s₀ H₀ ex
 refine ⟨?_, ?_, ?_⟩
 walk_at "A"
 show (["_law_name", "_law_names_here"] : List Str).Nodup; decide +kernel
 exact rfl
 walk_at "1"
 refine W4 ?_
 walk_at "C"
 exact (YaG hu)
 exact (jv 0)
 exact (jv 1)
 with_unfolding_all rfl
 exact (jv 0)
 walk_at "3"
 walk_at "8"
 exact sc.nd
 exact rfl
 walk_at "1"
 walk_at "7"
 exact hu
 walk_at "4"
 exact Yf
 exact (jv 2)
 exact Yn
 walk_at "4"
 exact Yt
 walk_at "4"
 exact YG
 exact (jv 4)
 exact Yb
 refine je_B (id := "max") ?_ ?_ ?_ ?_ ?_
 exact (Yh4 rfl)
 exact rfl
 exact z_max
 exact YiG
 walk_at "2"
 exact Yb
 walk_at "2"
 refine je_B (id := "len") ?_ ?_ ?_ ?_ ?_
 exact Yr
 exact rfl
 exact z_len
 exact Ys
 walk_at "2"
 exact (jv 2)
 exact Ya
 exact Ya
 walk_at "6"
 walk_at "3"
 walk_at "8"
 exact sc.nd
 exact rfl
 walk_at "1"
 walk_at "7"
 exact hu
 exact (jv 5)
 walk_at "4"
 exact Yt
 walk_at "4"
 exact YG
 exact (jv 4)
 exact Yb
 refine je_B (id := "len") ?_ ?_ ?_ ?_ ?_
 exact Yr
 exact rfl
 exact z_len
 exact Ys
 walk_at "2"
 exact (jv 5)
 exact Ya
 walk_at "6"
 walk_at "3"
 refine Y6 ?_ ?_ ?_
 refine Wk ?_
 refine ZI ?_ ?_
 refine Yj (ps := ["_law_system", "_law_names_here", "_law_words", "_law_old", "_law_new", "_law_due"]) (k := 4) ?_ ?_ ?_ ?_
 exact F__law_along
 walk_at "E"
 exact rfl
 walk_at "2"
 exact (jv 1)
 walk_at "2"
 exact (jv 2)
 walk_at "2"
 exact (jv 3)
 walk_at "2"
 exact (jv 6)
 walk_at "2"
 exact (jv 7)
 walk_at "2"
 exact VL
 exact Ya
 exact (fun _ => rfl)
 refine Yc ?_
 refine Yk ?_
 exact VL
 exact Yv
 walk_at "3"
 refine ZP ?_ ?_ ?_ ?_ ?_
 exact PassesOwn.never
 exact rfl
 refine YY ?_ ?_ ?_ ?_
 exact rfl
 exact z_range
 walk_at "2"
 refine je_B (id := "len") ?_ ?_ ?_ ?_ ?_
 exact Yr
 exact rfl
 exact z_len
 exact Ys
 walk_at "2"
 exact (jv 3)
 exact Ya
 exact Ya
 exact (YZ Zc)
 walk_at "A"
 exact sc.nd
 exact rfl
 walk_at "1"
 walk_at "3"
 walk_at "8"
 exact sc.nd
 exact rfl
 walk_at "1"
 walk_at "4"
 exact Yf
 walk_at "4"
 exact Yf
 refine Y4 ?_ ?_ ?_
 exact (jv 3)
 exact Ws
 refine YS ?_
 exact (jv 8)
 refine Z6 ?_
 walk_at "2"
 walk_at "4"
 exact Yf
 walk_at "7"
 exact hu
 exact (jv 3)
 exact (jv 8)
 walk_at "6"
 walk_at "7"
 exact hu
 exact Yn
 walk_at "4"
 exact Yt
 walk_at "4"
 exact YG
 exact (jv 4)
 exact Yb
 exact Yb
 walk_at "6"
 exact Ya
 refine Y4 ?_ ?_ ?_
 exact (jv 3)
 refine YS ?_
 walk_at "4"
 exact Yf
 exact (jv 8)
 exact Yb
 exact Ws
 refine Yc ?_
 refine Y6 ?_ ?_ ?_
 refine Wk ?_
 refine ZI ?_ ?_
 refine Yj (ps := ["_law_system", "_law_names_here", "_law_words", "_law_old", "_law_new", "_law_due"]) (k := 4) ?_ ?_ ?_ ?_
 exact F__law_along
 walk_at "E"
 exact rfl
 walk_at "2"
 exact (jv 1)
 walk_at "2"
 exact (jv 2)
 walk_at "2"
 exact (jv 9)
 walk_at "2"
 exact (jv 6)
 walk_at "2"
 exact (jv 7)
 walk_at "2"
 refine Yj (ps := ["system", "words"]) (k := 3) ?_ ?_ ?_ ?_
 exact F_holds
 walk_at "E"
 exact rfl
 walk_at "2"
 exact (jv 1)
 walk_at "2"
 exact (jv 9)
 exact Ya
 exact Ya
 exact (fun _ => rfl)
 refine Yc ?_
 refine Yk ?_
 exact VL
 exact Yv
 refine Yc ?_
 refine Yk ?_
 exact VL
end
structure Seen (K : PySem.W.Frag) : Prop where
 d_is_unknown : DefAt K "is_unknown" (top 5)
 d_letters_of : DefAt K "letters_of" (top 6)
 d_rising : DefAt K "rising" (top 7)
 d_names_of : DefAt K "names_of" (top 8)
 d_turned : DefAt K "turned" (top 10)
 d_from_end : DefAt K "from_end" (top 11)
 d_mirrored : DefAt K "mirrored" (top 12)
 d_is_name : DefAt K "is_name" (top 13)
 d_renamed : DefAt K "renamed" (top 14)
 d_filled : DefAt K "filled" (top 16)
 d_holds : DefAt K "holds" (top 17)
 d__law_cell_at : DefAt K "_law_cell_at" (top 19)
 d__law_names : DefAt K "_law_names" (top 20)
 d__law_word : DefAt K "_law_word" (top 21)
 d__law_left : DefAt K "_law_left" (top 22)
 d__law_cut : DefAt K "_law_cut" (top 23)
 d__law_answered : DefAt K "_law_answered" (top 24)
 d__law_moved : DefAt K "_law_moved" (top 25)
 d__law_told : DefAt K "_law_told" (top 26)
 d__law_along : DefAt K "_law_along" (top 27)
 d_law : DefAt K "law" (top 28)
 z_all : PySem.W.nsIn K mainGlobals "all" = some none
 z_bool : PySem.W.nsIn K mainGlobals "bool" = some none
 z_dict : PySem.W.nsIn K mainGlobals "dict" = some none
 z_isinstance : PySem.W.nsIn K mainGlobals "isinstance" = some none
 z_len : PySem.W.nsIn K mainGlobals "len" = some none
 z_max : PySem.W.nsIn K mainGlobals "max" = some none
 z_range : PySem.W.nsIn K mainGlobals "range" = some none
 z_reversed : PySem.W.nsIn K mainGlobals "reversed" = some none
 z_set : PySem.W.nsIn K mainGlobals "set" = some none
 z_sorted : PySem.W.nsIn K mainGlobals "sorted" = some none
 z_sum : PySem.W.nsIn K mainGlobals "sum" = some none
 z_tuple : PySem.W.nsIn K mainGlobals "tuple" = some none
 z_zip : PySem.W.nsIn K mainGlobals "zip" = some none
theorem YeI {K : PySem.W.Frag} {mg : Str -> Option Value} (T : Top K mg) (S : Seen K) : Own K mg where
 z_all := T.none S.z_all
 z_bool := T.none S.z_bool
 z_dict := T.none S.z_dict
 z_isinstance := T.none S.z_isinstance
 z_len := T.none S.z_len
 z_max := T.none S.z_max
 z_range := T.none S.z_range
 z_reversed := T.none S.z_reversed
 z_set := T.none S.z_set
 z_sorted := T.none S.z_sorted
 z_sum := T.none S.z_sum
 z_tuple := T.none S.z_tuple
 z_zip := T.none S.z_zip
theorem Yiv {P' : Program} {w : World} {K : PySem.W.Frag} {mg : Str -> Option Value} (T : Top K mg) (S : Seen K) (f : Addr) (fd : FuncData) (F : Fun K "law" "law" (top 28) f fd) (base : Heap) : FM P' w K mg base 5 f fd ["_law_script"] Ybz := by
 have O := YeI T S
 have F_is_unknown : Fn P' w K mg base "is_unknown" 1 ["letter"] Yp := Yag T O S.d_is_unknown
 have F_letters_of : Fn P' w K mg base "letters_of" 1 ["system"] YN := Yaf T O S.d_letters_of
 have F_rising : Fn P' w K mg base "rising" 1 ["letters"] ZE := Yei T O S.d_rising
 have F_turned : Fn P' w K mg base "turned" 1 ["system"] ZC := Yd3 T O S.d_turned
 have F_from_end : Fn P' w K mg base "from_end" 1 ["side"] YV := Yb1 T O S.d_from_end
 have F_filled : Fn P' w K mg base "filled" 1 ["side", "names", "words"] Y0 := Yeh T O S.d_filled
 have F__law_cell_at : Fn P' w K mg base "_law_cell_at" 1 ["_law_script", "_law_k"] Yd := VU T O S.d__law_cell_at
 have F__law_names : Fn P' w K mg base "_law_names" 1 ["_law_cell"] YL := J2 T O S.d__law_names
 have F__law_word : Fn P' w K mg base "_law_word" 1 ["_law_cell", "_law_signs"] YH := YaX T O S.d__law_word
 have F__law_left : Fn P' w K mg base "_law_left" 1 ["_law_cells", "_law_names_here", "_law_words", "_law_signs", "_law_uses", "_law_most", "_law_wide"] YX := Yba T O S.d__law_left
 have F__law_cut : Fn P' w K mg base "_law_cut" 1 ["_law_cell", "_law_full", "_law_names_here", "_law_words", "_law_uses"] Y9 := YbO T O S.d__law_cut
 have F__law_moved : Fn P' w K mg base "_law_moved" 1 ["_law_names_here", "_law_words", "_law_old", "_law_new"] YK := J8 T O S.d__law_moved
 have F__law_told : Fn P' w K mg base "_law_told" 1 ["_law_found", "_law_due"] Yq := Ybl T O S.d__law_told
 have F_names_of : Fn P' w K mg base "names_of" 2 ["system"] YA := YbU T O S.d_names_of F_is_unknown F_letters_of F_rising
 have F_mirrored : Fn P' w K mg base "mirrored" 2 ["system"] Y7 := Ycc T O S.d_mirrored F_from_end
 have F_is_name : Fn P' w K mg base "is_name" 2 ["text"] Za := Yc4 T O S.d_is_name F_is_unknown
 have F__law_answered : Fn P' w K mg base "_law_answered" 2 ["_law_script"] Yu := VD T O S.d__law_answered F__law_cell_at F__law_cut F__law_left F__law_names F__law_word
 have F_renamed : Fn P' w K mg base "renamed" 3 ["system", "old", "new"] Zk := YcZ T O S.d_renamed F_is_name F_names_of
 have F_holds : Fn P' w K mg base "holds" 3 ["system", "words"] YF := Yfg T O S.d_holds F_filled F_names_of
 have F__law_along : Fn P' w K mg base "_law_along" 4 ["_law_system", "_law_names_here", "_law_words", "_law_old", "_law_new", "_law_due"] Yx := Yaj T O S.d__law_along F__law_moved F__law_told F_holds F_mirrored F_renamed F_turned
 exact Yi2 T O F__law_along F__law_answered F__law_cell_at F_holds f fd F
theorem walk {q : Program} {loose : List Str} {XP : (Str -> Option Value) -> Heap -> Prop} {YP : World -> Heap -> Prop} {d : DefRec} {K : Params -> PySem.W.Frag} (hdf : d.params.defaults = []) (hy : d.name = "law") (hY : ∀ (w : World) (h : Heap), YP w h -> (K w.params).In h) (S : ∀ w : World, Seen (K w.params)) (L : Law 63 Ybz) :
 PySem.W.WalkO q loose XP YP PySem.Challenge.rw_gapwords_k18_whole_answers_go_along.row.toRowW d [] (fun f vs => PySem.call f vs) :=
 YfW (l := PySem.Challenge.rw_gapwords_k18_whole_answers_go_along) (k := 5) (x := "_law_script") (y := "law") (st := top 28) rfl (by decide) hdf hy ⟨rfl, by decide, by decide⟩ hY (fun _ _ _ _ _ _ s u => .of_eq rfl) (fun w => (S w).d_law) (fun w mg T f fd F base => Yiv T (S w) f fd F base) L
end G
namespace Mi
open PySem PySem.Spec L2
open PyProof.Rows hiding St
def joinR (x : Str) (ps : List P) (st : Stor) : R P := match strsP ps with
 | some ys => if joinLen x ys <= cap then .ok (.str (Txt.join x ys)) st else .bad
 | none => .bad
def retR (r : RS) : R P := match r with
 | .nx _ st' => .ok .non st'
 | .rt p st' => .ok p st'
 | _ => .bad
def callR (r : R P) : R P := match r with
 | .ok p st2 => .ok p st2
 | _ => .bad
section
variable {ρ : Rho} {st : Stor}
@[simp] theorem YjR : retR (.nx ρ st) = .ok .non st := rfl
@[simp] theorem Ygs {p : P} : retR (.rt p st) = .ok p st := rfl
@[simp] theorem Yfb {p : P} : callR (.ok p st) = .ok p st := rfl
@[simp] theorem x_eC {p : P} : eC p ρ st = .ok p st := rfl
@[simp] theorem Ycz {i : Nat} : eVar i ρ st = match ρ[i]? with | some (some p) => .ok p st | _ => .bad := rfl
@[simp] theorem Ygf {g : G2} {a b : ME} : eBin g a b ρ st = (a ρ st).bind fun p st1 => (b ρ st1).bind fun q st2 => ofO (g p q st2) := rfl
@[simp] theorem Yf5 {m : ME} : eTst m ρ st = (m ρ st).bind fun p st1 => match p with | .bl c => .ok c st1 | _ => .bad := rfl
@[simp] theorem Yfy {g g' : G2} {a b c : ME} : eChain g g' a b c ρ st = (a ρ st).bind fun p st1 => (b ρ st1).bind fun q st2 => (ofO (g p q st2)).bind fun z st3 => match z with
 | .bl k => if k = true then (c ρ st3).bind fun r st4 => ofO (g' q r st4) else .ok (.bl false) st3
 | _ => .bad := rfl
@[simp] theorem YgA {a b : MT} : eAndT a b ρ st = (a ρ st).bind fun c st1 => if c = true then b ρ st1 else .ok false st1 := rfl
@[simp] theorem Yh6 {a b : MT} : eOrT a b ρ st = (a ρ st).bind fun c st1 => if c = true then .ok true st1 else b ρ st1 := rfl
@[simp] theorem Yg8 {a : MT} : eNotT a ρ st = (a ρ st).bind fun c st1 => .ok (!c) st1 := rfl
@[simp] theorem Yi8 {a b : ME} : eAnd a b ρ st = (a ρ st).bind fun p st1 => match p with | .bl c => if c = true then b ρ st1 else .ok (.bl false) st1 | _ => .bad := rfl
@[simp] theorem YjU {a b : ME} : eOr a b ρ st = (a ρ st).bind fun p st1 => match p with | .bl c => if c = true then .ok (.bl true) st1 else b ρ st1 | _ => .bad := rfl
@[simp] theorem Yh3 {m : ME} : eTru m ρ st = (m ρ st).bind fun p st1 => match truP p st1 with | some c => .ok c st1 | none => .bad := rfl
@[simp] theorem YdE {b : Bool} : truP (.bl b) st = some b := rfl
@[simp] theorem Yip {i : Int} : truP (.int i) st = some (i != 0) := rfl
@[simp] theorem YhN : truP .non st = some false := rfl
@[simp] theorem Yjc : aNil ρ st = .ok [] st := rfl
@[simp] theorem Yhb {a : ME} {r : MA} : aCons a r ρ st = (a ρ st).bind fun p st1 => (r ρ st1).bind fun ps st2 => .ok (p :: ps) st2 := rfl
@[simp] theorem YiH {r : MA} : eTup r ρ st = (r ρ st).bind fun ps st1 => if ps.length <= cap then .ok (.tup ps) st1 else .bad := rfl
@[simp] theorem YjI {r : MA} : lMk r ρ st = (r ρ st).bind fun ps st1 => if ps.length <= cap then .ok ps st1 else .bad := rfl
@[simp] theorem Yi7 {r : MA} : eSto r ρ st = (r ρ st).bind fun ps st1 => .ok (.ref st1.length) (st1 ++ [.lst ps]) := rfl
@[simp] theorem Yg3 {r : MA} : eTupL r ρ st = (r ρ st).bind fun ps st1 => .ok (.tup ps) st1 := rfl
@[simp] theorem Yf9 : eDict0 ρ st = .ok (.ref st.length) (st ++ [.dct []]) := rfl
@[simp] theorem x_eB {g : GC} {r : MA} : eB g r ρ st = (r ρ st).bind fun ps st1 => ofO (g ps st1) := rfl
@[simp] theorem Yg2 {n : Nat} {mf : MF} {r : MA} : eCall n mf r ρ st = (r ρ st).bind fun ps st1 => if ps.length = n then callR (mf ps st1) else .bad := by unfold eCall callR; rfl
@[simp] theorem YiF {T : String} {a : ME} : eIsi T a ρ st = (a ρ st).bind fun p st1 => match tyP p st1 with | some t => .ok (.bl (isiB t T)) st1 | none => .bad := rfl
@[simp] theorem x_eM {ty : P -> Stor -> Bool} {g : GM} {a : ME} {r : MA} : eM ty g a r ρ st = (a ρ st).bind fun p st1 => if ty p st1 = true then (r ρ st1).bind fun ps st2 => ofO (g p ps st2) else .bad := rfl
@[simp] theorem YjL {a : ME} {l h : MO} : eSl a l h ρ st = (a ρ st).bind fun p st1 => (l ρ st1).bind fun l st2 => (h ρ st2).bind fun u st3 => ofO (slP p l u st3) := rfl
@[simp] theorem Ygv : oNone ρ st = .ok none st := rfl
@[simp] theorem Yhi {a : ME} : oSome a ρ st = (a ρ st).bind fun p st1 => match p with | .int i => .ok (some i) st1 | _ => .bad := rfl
@[simp] theorem YhU : sNil ρ st = .nx ρ st := rfl
@[simp] theorem YfR {a b : MS} : sSeq a b ρ st = (a ρ st).seq b := rfl
@[simp] theorem Yiz {a : ME} : sRet a ρ st = RS.ofE ρ (a ρ st) fun p st1 => .rt p st1 := rfl
@[simp] theorem Ygw {a : ME} : sDrop a ρ st = RS.ofE ρ (a ρ st) fun _ st1 => .nx ρ st1 := rfl
@[simp] theorem Yh9 {i : Nat} {a : ME} : sSet i a ρ st = RS.ofE ρ (a ρ st) fun p st1 => .nx (ρ.set i (some p)) st1 := rfl
@[simp] theorem Yhn {i : Nat} {a : MA} : sSetL i a ρ st = RS.ofE ρ (a ρ st) fun ps st1 => .nx (ρ.set i (some (.ref st1.length))) (st1 ++ [.lst ps]) := rfl
@[simp] theorem YhD {c : MT} {a b : MS} : sIf c a b ρ st = RS.ofE ρ (c ρ st) fun k st1 => if k = true then a ρ st1 else b ρ st1 := rfl
@[simp] theorem Ygr : sBreak ρ st = .bk ρ st := rfl
@[simp] theorem YiC {i : MI} {g : MG} {m : MS} : sFor i g m ρ st = RS.ofE ρ (i ρ st) fun src st1 => forN src g m src.n 0 ρ st1 := rfl
@[simp] theorem YhP {a : ME} {g : MG} : sTup a g ρ st = RS.ofE ρ (a ρ st) fun p st1 => match g p ρ st1 with | some ρ' => .nx ρ' st1 | none => .bad := rfl
@[simp] theorem YhV {o i e : ME} : sPut o i e ρ st = RS.ofE ρ (e ρ st) fun v st1 => RS.ofE ρ (o ρ st1) fun o st2 => RS.ofE ρ (i ρ st2) fun i st3 => match setP o i v st3 with | some st4 => .nx ρ st4 | none => .bad := rfl
@[simp] theorem YeH {i : Nat} {p : P} : mgName i p ρ st = some (ρ.set i (some p)) := rfl
@[simp] theorem Yhk : mgNil [] ρ st = some ρ := rfl
@[simp] theorem Yfk {g : MG} {r : MGs} {p : P} {ps : List P} : mgCons g r (p :: ps) ρ st = (g p ρ st).bind fun ρ1 => r ps ρ1 st := rfl
@[simp] theorem Yho {n : Nat} {r : MGs} {p : P} : mgTup n r p ρ st = match seqAt p st with | some xs => if xs.length = n then r xs ρ st else none | none => none := rfl
@[simp] theorem Ycq {xs : List P} : seqAt (.tup xs) st = some xs := rfl
@[simp] theorem YiL {a : ME} : iVal a ρ st = (a ρ st).bind fun p st1 => match srcOf p st1 with | some s => .ok s st1 | none => .bad := rfl
@[simp] theorem YbI {xs : List P} : srcOf (.tup xs) st = some (srcL xs) := rfl
@[simp] theorem YhI {z : Str} : srcOf (.str z) st = some (srcS z) := rfl
def rangeR (ps : List P) (st : Stor) : R Src := match ps with
 | [.int j] => if small62 j = true then .ok (srcR 0 j.toNat) st else .bad
 | [.int i, .int j] => if small62 i = true /\ small62 j = true then .ok (srcR i (j - i).toNat) st else .bad
 | _ => .bad
theorem YdK {r : MA} : iRange r ρ st = (r ρ st).bind fun ps st1 => rangeR ps st1 := rfl
@[simp] theorem Ye3 {r : MA} : iRange r ρ st = (r ρ st).bind fun ps st1 => rangeR ps st1 := by rw [YdK]
theorem Yfe {i : Int} (h0 : -1000000000 <= i) (h1 : i <= 1000000000) : small62 i = true := by
 unfold small62
 rw [decide_eq_true (by omega), decide_eq_true (by omega)]
 rfl
theorem YeN {j : Int} (h0 : -1000000000 <= j) (h1 : j <= 1000000000) : rangeR [.int j] st = .ok (srcR 0 j.toNat) st := by
 unfold rangeR
 dsimp only
 rw [if_pos (Yfe h0 h1)]
@[simp] theorem YgD {i : MI} {n : Nat} {fr : List Nat} {g : MG} {nt : MT} {me : ME} : lComp i n fr g nt me ρ st = (i ρ st).bind fun src st1 => compN src g nt me (rho0 n fr ρ) src.n 0 st1 [] := rfl
@[simp] theorem YjQ : nTrue ρ st = .ok true st := rfl
@[simp] theorem Ye8 {o : ME} {r : MA} : eJoinL o r ρ st = (o ρ st).bind fun p st1 => match p with
 | .str x => (r ρ st1).bind fun ps st2 => joinR x ps st2
 | _ => .bad := rfl
@[simp] theorem YhJ {n : Nat} {m : MS} {ps : List P} : fnM n m ps st = retR (m (ps.map some ++ List.replicate (n - ps.length) none) st) := by unfold fnM retR; rfl
@[simp] theorem YiI {n : Nat} {fr : List Nat} : rho0 n fr ρ = List.replicate n none ++ fr.map fun k => (ρ[k]?).join := rfl
@[simp] theorem YdL {i j : Int} : addP (.int i) (.int j) st = some (.int (i + j), st) := rfl
@[simp] theorem Ydx {i j : Int} : subP (.int i) (.int j) st = some (.int (i - j), st) := rfl
@[simp] theorem YeT {i j : Int} : ltP (.int i) (.int j) st = some (.bl (decide (i < j)), st) := rfl
@[simp] theorem Ygc {i j : Int} : leP (.int i) (.int j) st = some (.bl (decide (i <= j)), st) := rfl
@[simp] theorem Ye7 {i j : Int} : gtP (.int i) (.int j) st = some (.bl (decide (j < i)), st) := rfl
@[simp] theorem YbA {x y : Str} : ltP (.str x) (.str y) st = some (.bl (strLt x y), st) := rfl
@[simp] theorem YeQ {x y : Str} : leP (.str x) (.str y) st = some (.bl (!strLt y x), st) := rfl
theorem Yjn {i j : Int} (h : 0 < j) : modP (.int i) (.int j) st = some (.int (i % j), st) := by simp [modP, h, okP]
theorem Yiu {i j : Int} (h : 0 < j) (h2 : j < 1073741824) : fdivP (.int i) (.int j) st = some (.int (i / j), st) := by simp [fdivP, h, h2, okP]
theorem Yji {i j : Int} (h : -(2 ^ 64) < j) (h2 : j < 2 ^ 64) : mulP (.int i) (.int j) st = some (.int (i * j), st) := by
 have : small64 j = true := by unfold small64; rw [decide_eq_true h, decide_eq_true h2]; rfl
 simp [mulP, this, okP]
theorem YdU {x y : Str} (h : x.length + y.length <= 1000000) : addP (.str x) (.str y) st = some (.str (x ++ y), st) := by
 have : x.length + y.length <= cap := h
 simp [addP, this, okP]
theorem Yel {x : Str} (h : x.length <= 1000000) : lenP [.str x] st = some (.int x.length, st) := by
 have : x.length <= cap := h
 simp [lenP, this, okP]
@[simp] theorem Yes {xs : List P} : lenP [.tup xs] st = some (.int xs.length, st) := rfl
theorem Wo {k : Nat} {xs : List P} (h : st[k]? = some (.lst xs)) : lenP [.ref k] st = some (.int xs.length, st) := by simp [lenP, h, okP]
theorem Yci {k : Nat} {xs : List P} (h : st[k]? = some (.ro xs)) : lenP [.ref k] st = some (.int xs.length, st) := by simp [lenP, h, okP]
end
theorem Ydn {src : Src} {g : MG} {m : MS} (N : Nat) (I : Nat -> Rho -> Stor -> Prop) (O : RS -> Prop)
 (step : ∀ i ρ st, i < N -> I i ρ st -> ∃ p ρ1, src.nx i st = some (some p) /\ g p ρ st = some ρ1 /\ match m ρ1 st with
  | .nx ρ' st' => I (i + 1) ρ' st'
  | .ct ρ' st' => I (i + 1) ρ' st'
  | .bk ρ' st' => O (.nx ρ' st')
  | r => O r)
 (stop : ∀ ρ st, I N ρ st -> src.nx N st = some none /\ O (.nx ρ st)) :
 ∀ (n i : Nat) ρ st, n + i = N -> I i ρ st -> O (forN src g m n i ρ st) := by
 intro n
 induction n with
 | zero =>
  intro i ρ st e h
  have e' : i = N := by omega
  subst e'
  obtain ⟨h1, h2⟩ := stop ρ st h
  simp only [forN, h1]
  exact h2
 | succ n ih =>
  intro i ρ st e h
  obtain ⟨p, ρ1, h1, h2, h3⟩ := step i ρ st (by omega) h
  simp only [forN, h1, h2]
  revert h3
  cases q : m ρ1 st with
  | nx ρ' st' => intro h3; exact ih (i + 1) ρ' st' (by omega) h3
  | ct ρ' st' => intro h3; exact ih (i + 1) ρ' st' (by omega) h3
  | bk ρ' st' => intro h3; exact h3
  | rt p st' => intro h3; exact h3
  | exc k ρ' st' => intro h3; exact h3
  | bad => intro h3; exact h3
theorem Yfn {src : Src} {g : MG} {m : MS} {N : Nat} (I : Nat -> Rho -> Stor -> Prop) {ρ : Rho} {st : Stor} (h0 : I 0 ρ st)
 (step : ∀ i ρ st, i < N -> I i ρ st -> ∃ p ρ1, src.nx i st = some (some p) /\ g p ρ st = some ρ1 /\ ∃ ρ' st', m ρ1 st = .nx ρ' st' /\ I (i + 1) ρ' st')
 (stop : ∀ ρ st, I N ρ st -> src.nx N st = some none) : ∃ ρ' st', forN src g m N 0 ρ st = .nx ρ' st' /\ I N ρ' st' := by
 have := Ydn (src := src) (g := g) (m := m) N I (fun r => ∃ ρ' st', r = .nx ρ' st' /\ I N ρ' st') (fun i ρ st hi h => by
  obtain ⟨p, ρ1, h1, h2, ρ', st', h3, h4⟩ := step i ρ st hi h
  refine ⟨p, ρ1, h1, h2, ?_⟩
  rw [h3]
  exact h4) (fun ρ st h => ⟨stop ρ st h, ρ, st, rfl, h⟩) N 0 ρ st (by omega) h0
 exact this
theorem Wr {src : Src} {g : MG} {nt : MT} {me : ME} {ρ0 : Rho} {N : Nat} (I : Nat -> Stor -> List P -> Prop) {st : Stor} (h0 : I 0 st [])
 (step : ∀ i st acc, i < N -> I i st acc -> ∃ p ρ1, src.nx i st = some (some p) /\ g p ρ0 st = some ρ1 /\
  ((∃ st1, nt ρ1 st = .ok false st1 /\ I (i + 1) st1 acc) \/ ∃ st1 q st2, nt ρ1 st = .ok true st1 /\ me ρ1 st1 = .ok q st2 /\ acc.length < cap /\ I (i + 1) st2 (acc ++ [q])))
 (stop : ∀ st acc, I N st acc -> src.nx N st = some none) : ∃ acc st', compN src g nt me ρ0 N 0 st [] = .ok acc st' /\ I N st' acc := by
 have key : ∀ (n i : Nat) st acc, n + i = N -> I i st acc -> ∃ acc' st', compN src g nt me ρ0 n i st acc = .ok acc' st' /\ I N st' acc' := by
  intro n
  induction n with
  | zero =>
   intro i st acc e h
   have e' : i = N := by omega
   subst e'
   exact ⟨acc, st, by simp only [compN, stop st acc h], h⟩
  | succ n ih =>
   intro i st acc e h
   obtain ⟨p, ρ1, h1, h2, h3⟩ := step i st acc (by omega) h
   rcases h3 with ⟨st1, h3, h4⟩ | ⟨st1, q, st2, h3, h4, h5, h6⟩
   ·obtain ⟨acc', st', e1, e2⟩ := ih (i + 1) st1 acc (by omega) h4
    exact ⟨acc', st', by simp only [compN, h1, h2, h3, e1], e2⟩
   ·obtain ⟨acc', st', e1, e2⟩ := ih (i + 1) st2 (acc ++ [q]) (by omega) h6
    exact ⟨acc', st', by simp only [compN, h1, h2, h3, h4, if_pos h5, e1], e2⟩
 exact key N 0 st [] (by omega) h0
@[simp] theorem Ydc {xs : List P} {i : Nat} {st : Stor} : (srcL xs).nx i st = some xs[i]? := rfl
@[simp] theorem Yft {xs : List P} : (srcL xs).n = xs.length := rfl
@[simp] theorem Yfq {z : Str} : (srcS z).n = z.cps.size := rfl
theorem Yde {z : Str} {i : Nat} {st : Stor} (h : i <= z.cps.size) : (srcS z).nx i st = some ((z.cps[i]?).map signP) := by
 unfold srcS
 dsimp only
 by_cases hi : i < z.cps.size
 ·rw [if_pos hi]
 ·have : i = z.cps.size := by omega
  subst this
  simp
@[simp] theorem Yja {lo : Int} {n : Nat} : (srcR lo n).n = n := rfl
@[simp] theorem Ww {lo : Int} {n i : Nat} {st : Stor} : (srcR lo n).nx i st = some (if i < n then some (.int (lo + i)) else none) := rfl
@[simp] theorem Yh1 {k n : Nat} : (srcK k n).n = n := rfl
theorem YgO {k n i : Nat} {st : Stor} {ys : List P} (h : listAt st k = some ys) : (srcK k n).nx i st = some ys[i]? := by
 unfold srcK
 unfold listAt at h
 dsimp only
 split at h <;> first | (cases h; rename_i e; simp only [e]) | cases h
theorem Yax {src : Src} {g : MG} {nt : MT} {me : ME} {ρ0 : Rho} {st : Stor} {xs : List P} (t : P -> Bool) (f : P -> P) (hn : src.n = xs.length) (hx : ∀ i, i <= xs.length -> src.nx i st = some xs[i]?) (hc : xs.length <= 1000000)
 (h : ∀ p ∈ xs, ∃ ρ1, g p ρ0 st = some ρ1 /\ nt ρ1 st = .ok (t p) st /\ (t p = true -> me ρ1 st = .ok (f p) st)) : compN src g nt me ρ0 src.n 0 st [] = .ok ((xs.filter t).map f) st := by
 obtain ⟨acc, st', e, h1, h2, _⟩ := Wr (src := src) (g := g) (nt := nt) (me := me) (ρ0 := ρ0) (N := xs.length) (fun i s acc => s = st /\ acc = ((xs.take i).filter t).map f /\ acc.length <= i) (st := st) ⟨rfl, by simp, by simp⟩ (fun i s acc hi ⟨e1, e2, e3⟩ => by
  subst e1
  obtain ⟨ρ1, g1, g2, g3⟩ := h xs[i] (List.getElem_mem hi)
  refine ⟨xs[i], ρ1, by rw [hx i (by omega), List.getElem?_eq_getElem hi], g1, ?_⟩
  have et : xs.take (i + 1) = xs.take i ++ [xs[i]] := by rw [List.take_add_one, List.getElem?_eq_getElem hi]; rfl
  cases q : t xs[i] with
  | false => exact .inl ⟨s, by rw [g2, q], rfl, by rw [et, List.filter_append, e2, List.filter_cons_of_neg (by rw [q]; exact Bool.false_ne_true), List.filter_nil, List.append_nil], by omega⟩
  | true => exact .inr ⟨s, f xs[i], s, by rw [g2, q], g3 q, by show _ < 1000000; omega, rfl, by rw [et, List.filter_append, e2, List.filter_cons_of_pos q, List.filter_nil, List.map_append, List.map_cons, List.map_nil], by rw [List.length_append, List.length_singleton]; omega⟩) (fun s acc ⟨e1, _⟩ => by subst e1; rw [hx _ (Nat.le_refl _), List.getElem?_eq_none (Nat.le_refl _)])
 rw [hn, e, h1, h2, List.take_length]
def sT (l : List Nat) : Str := ⟨l.toArray⟩
def tx (l : List Nat) : P := .str (sT l)
@[simp] theorem YO {l : List Nat} : (sT l).length = l.length := by simp [sT, Str.length]
@[simp] theorem WU {l : List Nat} : (sT l).cps.toList = l := rfl
@[simp] theorem Ydr {l : List Nat} : (sT l).cps.size = l.length := by simp [sT]
@[simp] theorem Ye6 {l : List Nat} {i : Nat} : (sT l).cps[i]? = l[i]? := by simp [sT]
theorem JX {a b : List Nat} : sT a ++ sT b = sT (a ++ b) := by
 show (⟨a.toArray ++ b.toArray⟩ : Str) = _
 simp [sT]
theorem sT_inj {a b : List Nat} : sT a = sT b ↔ a = b := by
 constructor
 ·intro h
  have := congrArg (fun s : Str => s.cps.toList) h
  exact this
 ·rintro rfl; rfl
@[simp] theorem Yf6 {a b : List Nat} {st : Stor} (h : a.length + b.length <= 1000000) : addP (tx a) (tx b) st = some (tx (a ++ b), st) := by
 unfold tx
 rw [YdU (by simpa using h), JX]
theorem YfP {a : List Nat} {st : Stor} (h : a.length <= 1000000) : lenP [tx a] st = some (.int a.length, st) := by
 unfold tx
 rw [Yel (by simpa using h)]
 simp
theorem YiO {n : Nat} {i : Int} (h0 : 0 <= i) (h1 : i < n) : ixN n i = some i.toNat := by unfold ixN; rw [if_pos h0, if_pos h1]
theorem Ya6 {α : Type} {xs : List α} {i : Int} (h0 : 0 <= i) (h1 : i < xs.length) : atI xs i = xs[i.toNat]? := by unfold atI; rw [YiO h0 h1]; rfl
theorem Wv {l : List Nat} {i : Int} {st : Stor} (h0 : 0 <= i) (h1 : i < l.length) (hc : l.length <= 1000000) : ∃ c, l[i.toNat]? = some c /\ ixP (tx l) (.int i) st = some (tx [c], st) := by
 have hi : i.toNat < l.length := by omega
 refine ⟨l[i.toNat], by simp [hi], ?_⟩
 have e : (sT l).length <= cap := by rw [YO]; exact hc
 show (if (sT l).length <= cap then (atI (sT l).cps.toList i).map fun c => (P.str ⟨#[c]⟩, st) else none) = _
 rw [if_pos e, WU, Ya6 h0 h1, List.getElem?_eq_getElem hi]
 rfl
theorem YbF {xs : List P} {i : Int} {st : Stor} {p : P} (h0 : 0 <= i) (h : xs[i.toNat]? = some p) : ixP (.tup xs) (.int i) st = some (p, st) := by
 have hi : i.toNat < xs.length := (List.getElem?_eq_some_iff.mp h).1
 show (atI xs i).map (fun p => (p, st)) = _
 rw [Ya6 h0 (by omega), h]
 rfl
theorem Zp {k : Nat} {xs : List P} {i : Int} {st : Stor} {p : P} (hk : st[k]? = some (.lst xs)) (h0 : 0 <= i) (h : xs[i.toNat]? = some p) : ixP (.ref k) (.int i) st = some (p, st) := by
 have hi : i.toNat < xs.length := (List.getElem?_eq_some_iff.mp h).1
 unfold ixP
 simp only [hk]
 show (atI xs i).map (fun p => (p, st)) = _
 rw [Ya6 h0 (by omega), h]
 rfl
theorem Ydo {k : Nat} {xs : List P} {i : Int} {st : Stor} {p : P} (hk : st[k]? = some (.ro xs)) (h0 : 0 <= i) (h : xs[i.toNat]? = some p) : ixP (.ref k) (.int i) st = some (p, st) := by
 have hi : i.toNat < xs.length := (List.getElem?_eq_some_iff.mp h).1
 unfold ixP
 simp only [hk]
 show (atI xs i).map (fun p => (p, st)) = _
 rw [Ya6 h0 (by omega), h]
 rfl
@[simp] theorem Ygl {i j : Int} {st : Stor} : eqP (.int i) (.int j) st = some (.bl (i == j), st) := rfl
@[simp] theorem YbE {x y : Str} {st : Stor} : eqP (.str x) (.str y) st = some (.bl (x == y), st) := rfl
@[simp] theorem Yjq {st : Stor} : eqP .non .non st = some (.bl true, st) := rfl
@[simp] theorem Yjt {i j : Int} {st : Stor} : neP (.int i) (.int j) st = some (.bl (!(i == j)), st) := rfl
@[simp] theorem Ycn {x y : Str} {st : Stor} : neP (.str x) (.str y) st = some (.bl (!(x == y)), st) := rfl
theorem YeP {a b : List Nat} : (sT a == sT b) = decide (a = b) := by
 rw [Bool.eq_iff_iff]
 simp [sT_inj]
def isLow (c : Nat) : Bool := decide (97 <= c) && decide (c <= 122)
def isUp (c : Nat) : Bool := decide (65 <= c) && decide (c <= 90)
def isLet (c : Nat) : Bool := isLow c || isUp c
theorem YdF {c : Nat} : isLow c = true ↔ 97 <= c /\ c <= 122 := by unfold isLow; simp
theorem Jq {c : Nat} : isUp c = true ↔ 65 <= c /\ c <= 90 := by unfold isUp; simp
theorem isLet_iff {c : Nat} : isLet c = true ↔ (97 <= c /\ c <= 122) \/ (65 <= c /\ c <= 90) := by unfold isLet; rw [Bool.or_eq_true, YdF, Jq]
@[simp] theorem Yhp {l : List Nat} {st : Stor} : isStr (tx l) st = true := rfl
theorem Vs {a b : Nat} : strLt (sT [a]) (sT [b]) = decide (a < b) := by
 unfold strLt
 show decide ([a] < [b]) = decide (a < b)
 rw [Bool.eq_iff_iff, decide_eq_true_iff, decide_eq_true_iff, List.cons_lt_cons_iff]
 constructor
 ·rintro (h | ⟨_, h⟩)
  ·exact h
  ·exact absurd h (List.not_lt_nil _)
 ·exact .inl
theorem Wj (ls : List (List Nat)) : Txt.join (sT []) (ls.map sT) = sT ls.flatten := by
 unfold Txt.join
 rw [StrLaws.glued_eq_join]
 induction ls with
 | nil => rfl
 | cons a r ih =>
  cases r with
  | nil => simp [Str.join]
  | cons b r =>
   show sT a ++ sT [] ++ Str.join (sT []) ((b :: r).map sT) = _
   rw [ih, JX, JX]
   simp
theorem Vi : ∀ (ls : List (List Nat)), strsP (ls.map tx) = some (ls.map sT)
 | [] => rfl
 | a :: r => by
  show (strsP (r.map tx)).map (sT a :: ·) = _
  rw [Vi r]
  rfl
theorem Wc (ls : List (List Nat)) : joinLen (sT []) (ls.map sT) = ls.flatten.length := by
 unfold joinLen
 simp only [YO, List.length_nil, Nat.mul_zero, Nat.add_zero, List.map_map, List.length_flatten]
 rfl
def Grow (st st' : Stor) : Prop := ∃ e, st' = st ++ e
theorem Grow.refl {st : Stor} : Grow st st := ⟨[], by simp⟩
theorem Grow.trans {a b c : Stor} (h : Grow a b) (h2 : Grow b c) : Grow a c := by
 obtain ⟨e, rfl⟩ := h
 obtain ⟨f, rfl⟩ := h2
 exact ⟨e ++ f, by simp⟩
theorem Grow.one {st : Stor} {o : O} : Grow st (st ++ [o]) := ⟨_, rfl⟩
theorem Grow.get {a b : Stor} (h : Grow a b) {k : Nat} {o : O} (e : a[k]? = some o) : b[k]? = some o := by
 obtain ⟨f, rfl⟩ := h
 rw [List.getElem?_append_left (List.getElem?_eq_some_iff.mp e).1]
 exact e
theorem Grow.listAt {a b : Stor} (h : Grow a b) {k : Nat} {xs : List P} (e : listAt a k = some xs) : listAt b k = some xs := by
 unfold Mi.listAt at *
 cases q : a[k]? with
 | none => rw [q] at e; cases e
 | some o => rw [q] at e; rw [h.get q]; exact e
theorem Yo {st : Stor} {o : O} : (st ++ [o])[st.length]? = some o := by simp
def tkey (l : List Nat) : Key := .inr (sT l)
theorem YaW {l : List Nat} : keyP (tx l) = some (tkey l) := rfl
theorem JC {α β : Type} {f : α -> β} {R : α -> Prop} : ∀ {l : List β}, (∀ q ∈ l, ∃ c, q = f c /\ R c) -> ∃ ls : List α, l = ls.map f /\ ∀ c ∈ ls, R c
 | [], _ => ⟨[], rfl, by intro c hc; cases hc⟩
 | q :: r, h => by
  obtain ⟨c, e, hc⟩ := h q (List.mem_cons_self ..)
  obtain ⟨ls, e2, h2⟩ := JC (l := r) fun x hx => h x (List.mem_cons_of_mem _ hx)
  refine ⟨c :: ls, by rw [e, e2]; rfl, fun d hd => ?_⟩
  rcases List.mem_cons.mp hd with rfl | hd
  ·exact hc
  ·exact h2 d hd
theorem Vc (ls : List Nat) : (ls.map fun c => [c]).flatten = ls := by induction ls <;> simp_all
theorem JB (ls : List Nat) : strsP (ls.map fun c => tx [c]) = some ((ls.map fun c => [c]).map sT) := by
 have := Vi (ls.map fun c => [c])
 rw [List.map_map] at this
 exact this
theorem Zo : ("" : Str) = sT [] := by decide +kernel
theorem Z2 {ls : List (List Nat)} {st : Stor} (h : ls.flatten.length <= 1000000) : joinR (sT []) (ls.map tx) st = .ok (tx ls.flatten) st := by
 unfold joinR
 rw [Vi]
 dsimp only
 rw [Wc, if_pos (show _ <= cap from h), Wj]
 rfl
theorem WQ {ls : List Nat} {st : Stor} (h : ls.length <= 1000000) : joinR (sT []) (ls.map fun c => tx [c]) st = .ok (tx ls) st := by
 unfold joinR
 rw [JB]
 dsimp only
 rw [Wc, Vc, if_pos (show _ <= cap from h), Wj, Vc]
 rfl
theorem Yik {n : Nat} : (n <= cap) = (n <= 1000000) := rfl
theorem tkey_inj {a b : List Nat} : tkey a = tkey b ↔ a = b := by
 unfold tkey
 constructor
 ·intro h; exact sT_inj.mp (Sum.inr.inj h)
 ·rintro rfl; rfl
theorem Ybc {kvs : List (Key × P)} {k k' : Key} {v : P} : ((kvs.map fun kv => if kv.1 = k then (kv.1, v) else kv).find? fun kv => decide (kv.1 = k')).map (·.2) = if k = k' then (if (kvs.any fun kv => decide (kv.1 = k)) = true then some v else none) else (kvs.find? fun kv => decide (kv.1 = k')).map (·.2) := by
 induction kvs with
 | nil => simp
 | cons a r ih =>
  rw [List.map_cons, List.find?_cons, List.find?_cons, List.any_cons]
  by_cases h1 : a.1 = k
  ·by_cases h2 : k = k'
   ·subst h2; simp [h1]
   ·have h3 : ¬ a.1 = k' := by rw [h1]; exact h2
    simp only [h1, if_true, h2, decide_false, if_false] at ih ⊢
    rw [ih]
  ·by_cases h2 : a.1 = k'
   ·have h3 : ¬ k = k' := fun e => h1 (h2.trans e.symm)
    rw [if_neg h1, decide_eq_true h2, if_neg h3]
   ·simp only [h1, if_false, h2, decide_false, Bool.false_or]
    exact ih
theorem Jn {kvs : List (Key × P)} {k k' : Key} {v : P} : valP (putP kvs k v) k' = if k = k' then some v else valP kvs k' := by
 unfold putP valP
 by_cases h : (kvs.any fun kv => decide (kv.1 = k)) = true
 ·rw [if_pos h, Ybc, if_pos h]
 ·rw [if_neg h, List.find?_append]
  by_cases h2 : k = k'
  ·subst h2
   have : kvs.find? (fun kv => decide (kv.1 = k)) = none := by
    rw [List.find?_eq_none]
    intro x hx hd
    exact h (List.any_eq_true.mpr ⟨x, hx, hd⟩)
   rw [this, if_pos rfl]
   simp
  ·rw [if_neg h2]
   simp [h2]
theorem valP_none {kvs : List (Key × P)} {k : Key} : valP kvs k = none ↔ (kvs.any fun kv => decide (kv.1 = k)) = false := by
 unfold valP
 rw [Option.map_eq_none_iff, List.find?_eq_none, List.any_eq_false]
theorem YaP {kvs : List (Key × P)} {k : Key} {v : P} : (putP kvs k v).length = if valP kvs k = none then kvs.length + 1 else kvs.length := by
 unfold putP
 by_cases h : (kvs.any fun kv => decide (kv.1 = k)) = true
 ·rw [if_pos h, if_neg (fun e => by rw [valP_none.mp e] at h; cases h), List.length_map]
 ·rw [if_neg h, if_pos (valP_none.mpr (Bool.eq_false_iff.mpr h)), List.length_append]; rfl
theorem YjC {st : Stor} {ρ : Rho} {d k x : ME} {n : Nat} {kvs : List (Key × P)} {l : List Nat} {z : P} (h1 : d ρ st = .ok (.ref n) st) (h2 : k ρ st = .ok (tx l) st) (h3 : x ρ st = .ok z st) (h : st[n]? = some (.dct kvs)) : eGet d k x ρ st = .ok ((valP kvs (tkey l)).getD z) st := by
 unfold eGet
 simp only [h1, h2, h3, R.bind_ok, h, YaW]
theorem Wt {st : Stor} {n : Nat} {kvs : List (Key × P)} {l : List Nat} {v : P} (h : st[n]? = some (.dct kvs)) (hl : kvs.length < 1000000) : setP (.ref n) (tx l) v st = some (st.set n (.dct (putP kvs (tkey l) v))) := by
 unfold setP
 have : kvs.length < cap := hl
 simp only [h, YaW, if_pos this]
theorem YbK {st : Stor} {n : Nat} {xs : List P} {v : P} (h : st[n]? = some (.lst xs)) (hl : xs.length < 1000000) : appendP (.ref n) [v] st = some (.non, st.set n (.lst (xs ++ [v]))) := by
 unfold appendP lstAt
 have : xs.length < cap := hl
 simp only [h, if_pos this]
theorem Ybk {st : Stor} {n : Nat} {xs : List P} (h : st[n]? = some (.lst xs)) : isLst (.ref n) st = true := by
 unfold isLst
 simp only [h]
theorem ZJ {st : Stor} {n : Nat} {xs : List P} (h : listAt st n = some xs) : srcOf (.ref n) st = some (srcK n xs.length) := by
 unfold listAt at h
 unfold srcOf
 dsimp only
 split at h <;> first | (cases h; rename_i e; simp only [e]) | cases h
theorem Yg {st : Stor} {k : Nat} {xs : List P} (h : st[k]? = some (.lst xs)) : listAt st k = some xs := by unfold listAt; rw [h]
theorem YdQ {st : Stor} {k : Nat} {xs : List P} (h : listAt st k = some xs) : seqAt (.ref k) st = some xs := by
 unfold listAt at h
 unfold seqAt
 dsimp only
 split at h <;> first | (cases h; rename_i e; simp only [e]) | cases h
theorem Ydd {α : Type} {f : α -> P} {xs : List α} {a b : Nat} (hab : a <= b) : cutP (xs.map f) (some (a : Int)) (some (b : Int)) = ((xs.drop a).take (b - a)).map f := by
 unfold cutP
 rw [HT.sIx_nat, HT.sIx_nat, List.length_map, <- List.map_drop, <- List.map_take]
 congr 1
 by_cases h : a <= xs.length
 ·rw [Nat.min_eq_left h]
  by_cases h2 : b <= xs.length
  ·rw [Nat.min_eq_left h2]
  ·rw [Nat.min_eq_right (by omega), List.take_of_length_le (by rw [List.length_drop]; omega), List.take_of_length_le (by rw [List.length_drop]; omega)]
 ·rw [Nat.min_eq_right (by omega : xs.length <= a), Nat.min_eq_right (by omega : xs.length <= b), List.drop_of_length_le (Nat.le_refl _), List.drop_of_length_le (by omega : xs.length <= a)]
  simp
theorem Yjr {k : Nat} {ns : List Int} {a b : Nat} {st : Stor} (h : st[k]? = some (.ro (ns.map P.int))) (hab : a <= b) (hl : ns.length <= 1000000) : slP (.ref k) (some (a : Int)) (some (b : Int)) st = some (.ref st.length, st ++ [.lst (((ns.drop a).take (b - a)).map P.int)]) := by
 unfold slP
 simp only [h]
 rw [Ydd hab]
 unfold newL
 rw [if_pos]
 show _ <= 1000000
 rw [List.length_map, List.length_take, List.length_drop]
 omega
section
variable {ρ : Rho} {st : Stor}
theorem YiN {i j : Int} (h : -(2 ^ 64) < j) (h2 : j < 2 ^ 64) : mul2P (.int i) (.int j) st = some (.int (i * j), st) := Yji h h2
theorem YaC (a : Array Nat) : ∀ (n : Nat) (acc : Array Nat), ((List.replicate n a).foldl (· ++ ·) acc).toList = acc.toList ++ (List.replicate n a.toList).flatten
 | 0, acc => by simp
 | n + 1, acc => by rw [List.replicate_succ, List.foldl_cons, YaC a n, List.replicate_succ, List.flatten_cons]; simp
theorem Yh2 {l : List Nat} {k : Int} : Txt.mul (sT l) k = sT (List.replicate k.toNat l).flatten := by
 unfold Txt.mul
 by_cases h : k < 1
 ·rw [if_pos h, show k.toNat = 0 by omega]; rfl
 ·rw [if_neg h]
  by_cases h2 : (k == 1 || (sT l).length == 0) = true
  ·rw [if_pos h2]
   rw [Bool.or_eq_true, beq_iff_eq, beq_iff_eq] at h2
   rcases h2 with h2 | h2
   ·rw [h2]; simp
   ·rw [YO] at h2
    have : l = [] := List.length_eq_zero_iff.mp h2
    subst this
    congr 1
    simp
  ·rw [if_neg h2]
   refine Ya5 ?_
   show ((List.replicate k.toNat (sT l).cps).foldl (· ++ ·) #[]).toList = _
   rw [YaC]
   simp
theorem Yby {l : List Nat} {k : Int} (h1 : -1000000 <= k) (h2 : k <= 1000000) (h3 : l.length <= 1000000) (h4 : l.length * k.toNat <= 1000000) : mul2P (tx l) (.int k) st = some (tx (List.replicate k.toNat l).flatten, st) := by
 have z : -1000000 <= k /\ k <= 1000000 /\ (sT l).length <= 1000000 /\ (sT l).length * k.toNat <= cap := ⟨h1, h2, by rw [YO]; exact h3, by rw [YO]; exact h4⟩
 show (if -1000000 <= k /\ k <= 1000000 /\ (sT l).length <= 1000000 /\ (sT l).length * k.toNat <= cap then okP (.str (Txt.mul (sT l) k)) st else none) = _
 rw [if_pos z, Yh2]
 rfl
theorem Ycl {α : Type} {f : α -> Bool} : ∀ (l : List α), blsP (l.map fun x => P.bl (f x)) = some (l.map f)
 | [] => rfl
 | a :: r => by
  show (blsP (r.map fun x => P.bl (f x))).map (f a :: ·) = _
  rw [Ycl r]
  rfl
def allR (ps : List P) (st : Stor) : R P := match blsP ps with
 | some bs => .ok (.bl (bs.all id)) st
 | none => .bad
theorem YgQ {m : MA} : eAllL m ρ st = (m ρ st).bind fun ps st1 => allR ps st1 := rfl
theorem YhY {α : Type} {f : α -> Bool} {l : List α} : allR (l.map fun x => P.bl (f x)) st = .ok (.bl (l.all f)) st := by
 unfold allR
 rw [Ycl]
 dsimp only
 rw [List.all_map]
 rfl
theorem Yjl {i j : Int} : maxP [.int i, .int j] st = some (.int (if j > i then j else i), st) := rfl
theorem Vz {a b : List P} (h : a.length + b.length <= 1000000) : addP (.tup a) (.tup b) st = some (.tup (a ++ b), st) := by
 have : a.length + b.length <= cap := h
 simp [addP, this, okP]
theorem YfS {xs : List P} {lo hi : Option Int} : slP (.tup xs) lo hi st = some (.tup (cutP xs lo hi), st) := rfl
end
open Builtin.Str (occurrences partsBetween strSub strKind subAt)
section
variable {ρ : Rho} {st : Stor}
theorem VH {k : Nat} {xs : List P} (h : listAt st k = some xs) : tupleP [.ref k] st = some (.tup xs, st) := by
 unfold tupleP
 dsimp only
 rw [YdQ h]
 rfl
end
section
variable {ρ : Rho} {st : Stor}
end
section
variable {st : Stor}
theorem YjG {b : Bool} : tyP (.bl b) st = some "bool" := rfl
theorem Yia : isiB "bool" "bool" = true := rfl
theorem Yhr {a b : List Nat} : eqP (tx a) (tx b) st = some (.bl (decide (a = b)), st) := by
 unfold tx; rw [YbE, YeP]
theorem Yhg {a b : List Nat} : neP (tx a) (tx b) st = some (.bl (!decide (a = b)), st) := by
 unfold tx; rw [Ycn, YeP]
end
theorem WW (l : List Nat) (c limit : Nat) : ∀ (n lo : Nat) (acc : Array Nat) (free : Nat), free <= lo ->
 (forIn (List.range' lo n) (acc, free) (StrLaws.occBody (sT l) (sT [c]) l.length limit)).run.fst.toList = acc.toList ++ ((List.range' lo n).filter fun i => decide (l[i]? = some c)).take (limit - acc.size)
 | 0, lo, acc, free, _ => by simp
 | n + 1, lo, acc, free, hf => by
  rw [List.range'_succ, List.forIn_cons]
  unfold StrLaws.occBody
  have key := StrLaws.subAt_one (sT l) c lo
  have e1 : (sT l).cps.toList = l := rfl
  have e2 : (⟨#[c]⟩ : Str) = sT [c] := rfl
  rw [e1, e2, YO] at key
  by_cases hc : l[lo]? = some c
  ·have hk := key.mpr hc
   by_cases hl : acc.size < limit
   ·rw [if_pos ⟨⟨⟨hl, hf⟩, hk.1⟩, hk.2⟩]
    have ih := WW l c limit n (lo + 1) (acc.push lo) (lo + (sT [c]).length) (by simp)
    refine ih.trans ?_
    rw [List.filter_cons_of_pos (by simpa using hc)]
    rw [show limit - acc.size = (limit - (acc.push lo).size) + 1 by simp; omega, List.take_succ_cons]
    simp
   ·rw [if_neg (fun h => hl h.1.1.1)]
    have ih := WW l c limit n (lo + 1) acc free (by omega)
    refine ih.trans ?_
    rw [show limit - acc.size = 0 by omega]
    simp
  ·rw [if_neg (fun h => hc (key.mp ⟨h.1.2, h.2⟩))]
   have ih := WW l c limit n (lo + 1) acc free (by omega)
   refine ih.trans ?_
   rw [List.filter_cons_of_neg (by simpa using hc)]
theorem Yhl (l : List Nat) (c limit : Nat) : Builtin.Str.occurrences (sT l) (sT [c]) 0 (sT l).length limit = ((List.range (l.length + 1)).filter fun i => decide (l[i]? = some c)).take limit := by
 rw [StrLaws.occ_eq, YO]
 refine (WW l c limit (l.length + 1 - 0) 0 #[] 0 (Nat.le_refl _)).trans ?_
 rw [List.range_eq_range']
 simp
theorem Va {c : Nat} : ∀ (l : List Nat) (n : Nat), l.length <= n -> c ∈ l -> ((List.range n).filter fun i => decide (l[i]? = some c)).take 1 = [l.idxOf c]
 | [], n, _, h => by simp at h
 | a :: l, 0, h, _ => by simp at h
 | a :: l, n + 1, h, hm => by
  rw [List.range_succ_eq_map, List.filter_cons, List.filter_map]
  have e : ((fun i => decide ((a :: l)[i]? = some c)) ∘ Nat.succ) = fun i => decide (l[i]? = some c) := by
   funext i; simp
  rw [e]
  by_cases hc : a = c
  ·subst hc; simp
  ·have hm' : c ∈ l := by
    rcases List.mem_cons.mp hm with h1 | h1
    ·exact absurd h1.symm hc
    ·exact h1
   have ih := Va l n (by simpa using h) hm'
   simp only [List.getElem?_cons_zero, Option.some.injEq, hc, decide_false, Bool.false_eq_true, if_false]
   rw [<- List.map_take, ih, List.idxOf_cons]
   have h3 : (a == c) = false := by simpa using hc
   simp [h3]
theorem YdO {l : List Nat} {c : Nat} (h : c ∈ l) : Builtin.Str.occurrences (sT l) (sT [c]) 0 (sT l).length 1 = [l.idxOf c] := by
 rw [Yhl, Va l _ (by omega) h]
section
variable {st : Stor}
theorem Ybm {l : List Nat} {c : Nat} (h : c ∈ l) : findSP (tx l) [tx [c]] st = some (.int (l.idxOf c : Nat), st) := by
 have e : Txt.find (sT l) (sT [c]) = ((l.idxOf c : Nat) : Int) := by
  unfold Txt.find
  rw [YdO h]
 show okP (.int (Txt.find (sT l) (sT [c]))) st = _
 rw [e]
 rfl
end
section
variable {α : Type} {src : Src} {g : MG} {nt : MT} {me : ME} {m : MS} {ρ0 ρ : Rho} {st : Stor} {N : Nat}
theorem Wl (xs : List α) (enc : α -> P) (t : α -> Bool) (f : α -> P) (hn : N = xs.length) (hx : ∀ i, i <= xs.length -> src.nx i st = some (xs[i]?.map enc)) (hc : xs.length <= 1000000)
 (h : ∀ a ∈ xs, ∃ ρ1, g (enc a) ρ0 st = some ρ1 /\ nt ρ1 st = .ok (t a) st /\ (t a = true -> me ρ1 st = .ok (f a) st)) : compN src g nt me ρ0 N 0 st [] = .ok ((xs.filter t).map f) st := by
 obtain ⟨acc, st', e, h1, h2, _⟩ := Wr (src := src) (g := g) (nt := nt) (me := me) (ρ0 := ρ0) (N := xs.length) (fun i s acc => s = st /\ acc = ((xs.take i).filter t).map f /\ acc.length <= i) (st := st) ⟨rfl, by simp, by simp⟩ (fun i s acc hi ⟨e1, e2, e3⟩ => by
  subst e1
  obtain ⟨ρ1, g1, g2, g3⟩ := h xs[i] (List.getElem_mem hi)
  refine ⟨enc xs[i], ρ1, by rw [hx i (by omega), List.getElem?_eq_getElem hi]; rfl, g1, ?_⟩
  have et : xs.take (i + 1) = xs.take i ++ [xs[i]] := by rw [List.take_add_one, List.getElem?_eq_getElem hi]; rfl
  cases q : t xs[i] with
  | false => exact .inl ⟨s, by rw [g2, q], rfl, by rw [et, List.filter_append, e2, List.filter_cons_of_neg (by rw [q]; exact Bool.false_ne_true), List.filter_nil, List.append_nil], by omega⟩
  | true => exact .inr ⟨s, f xs[i], s, by rw [g2, q], g3 q, by show _ < 1000000; omega, rfl, by rw [et, List.filter_append, e2, List.filter_cons_of_pos q, List.filter_nil, List.map_append, List.map_cons, List.map_nil], by rw [List.length_append, List.length_singleton]; omega⟩)
  (fun s acc ⟨e1, _⟩ => by subst e1; rw [hx _ (Nat.le_refl _), List.getElem?_eq_none (Nat.le_refl _)]; rfl)
 rw [hn, e, h1, h2, List.take_length]
theorem Zd (xs : List α) (enc : α -> P) (f : α -> P) (hn : N = xs.length) (hx : ∀ i, i <= xs.length -> src.nx i st = some (xs[i]?.map enc)) (hc : xs.length <= 1000000)
 (h : ∀ a ∈ xs, ∃ ρ1, g (enc a) ρ0 st = some ρ1 /\ me ρ1 st = .ok (f a) st) : compN src g nTrue me ρ0 N 0 st [] = .ok (xs.map f) st := by
 rw [Wl (nt := nTrue) xs enc (fun _ => true) f hn hx hc fun a ha => let ⟨ρ1, h1, h2⟩ := h a ha; ⟨ρ1, h1, rfl, fun _ => h2⟩]
 rw [List.filter_eq_self.mpr fun _ _ => rfl]
theorem Yef (xs : List α) (enc : α -> P) (f : α -> P) (I : Stor -> Prop) (hn : N = xs.length) (hx : ∀ i s, i <= xs.length -> I s -> Grow st s -> src.nx i s = some (xs[i]?.map enc)) (hc : xs.length <= 1000000) (h0 : I st)
 (h : ∀ a ∈ xs, ∀ s, I s -> Grow st s -> ∃ ρ1 s', g (enc a) ρ0 s = some ρ1 /\ me ρ1 s = .ok (f a) s' /\ I s' /\ Grow s s') : ∃ s', compN src g nTrue me ρ0 N 0 st [] = .ok (xs.map f) s' /\ I s' /\ Grow st s' := by
 obtain ⟨acc, st', e, h1, h2, h3, _⟩ := Wr (src := src) (g := g) (nt := nTrue) (me := me) (ρ0 := ρ0) (N := xs.length) (fun i s acc => I s /\ Grow st s /\ acc = (xs.take i).map f /\ acc.length <= i) (st := st) ⟨h0, Grow.refl, by simp, by simp⟩ (fun i s acc hi ⟨e0, e1, e2, e3⟩ => by
  obtain ⟨ρ1, s', g1, g2, g3, g4⟩ := h xs[i] (List.getElem_mem hi) s e0 e1
  refine ⟨enc xs[i], ρ1, by rw [hx i s (by omega) e0 e1, List.getElem?_eq_getElem hi]; rfl, g1, ?_⟩
  have et : xs.take (i + 1) = xs.take i ++ [xs[i]] := by rw [List.take_add_one, List.getElem?_eq_getElem hi]; rfl
  exact .inr ⟨s, f xs[i], s', rfl, g2, by show _ < 1000000; omega, g3, e1.trans g4, by rw [et, e2, List.map_append, List.map_cons, List.map_nil], by rw [List.length_append, List.length_singleton]; omega⟩)
  (fun s acc ⟨e0, e1, _⟩ => by rw [hx _ s (Nat.le_refl _) e0 e1, List.getElem?_eq_none (Nat.le_refl _)]; rfl)
 rw [List.take_length] at h3
 exact ⟨st', by rw [hn, e, h3], h1, h2⟩
theorem Zw (xs : List α) (enc : α -> P) (I : Nat -> Rho -> Stor -> Prop) (hn : N = xs.length) (hx : ∀ i ρ s, i <= xs.length -> I i ρ s -> src.nx i s = some (xs[i]?.map enc)) (h0 : I 0 ρ st)
 (step : ∀ i (hi : i < xs.length) ρ s, I i ρ s -> ∃ ρ1, g (enc xs[i]) ρ s = some ρ1 /\ ∃ ρ' s', m ρ1 s = .nx ρ' s' /\ I (i + 1) ρ' s') : ∃ ρ' s', forN src g m N 0 ρ st = .nx ρ' s' /\ I xs.length ρ' s' := by
 rw [hn]
 refine Yfn I h0 (fun i ρ s hi h => ?_) (fun ρ s h => by rw [hx _ ρ s (Nat.le_refl _) h, List.getElem?_eq_none (Nat.le_refl _)]; rfl)
 obtain ⟨ρ1, g1, r⟩ := step i hi ρ s h
 exact ⟨enc xs[i], ρ1, by rw [hx i ρ s (by omega) h, List.getElem?_eq_getElem hi]; rfl, g1, r⟩
end
section
variable {α : Type} {st : Stor} {i : Nat}
theorem nxS {l : List Nat} (hi : i <= l.length) : (srcS (sT l)).nx i st = some (l[i]?.map fun c => tx [c]) := by
 rw [Yde (by simpa using hi), Ye6]
 rfl
theorem nxL {xs : List α} {enc : α -> P} : (srcL (xs.map enc)).nx i st = some (xs[i]?.map enc) := by
 rw [Ydc, List.getElem?_map]
theorem nxR {lo : Int} {n : Nat} : (srcR lo n).nx i st = some ((List.range n)[i]?.map fun (k : Nat) => P.int (lo + k)) := by
 rw [Ww]
 by_cases h : i < n
 ·rw [if_pos h, List.getElem?_range h]; rfl
 ·rw [if_neg h, List.getElem?_eq_none (by simpa using h)]; rfl
theorem nxK {k n : Nat} {xs : List α} {enc : α -> P} (h : listAt st k = some (xs.map enc)) : (srcK k n).nx i st = some (xs[i]?.map enc) := by
 rw [YgO h, List.getElem?_map]
theorem YcO {l : List Nat} : srcOf (tx l) st = some (srcS (sT l)) := rfl
theorem Yg5 {k : Nat} {xs : List P} (hk : listAt st k = some xs) : lenP [.ref k] st = some (.int (xs.length : Nat), st) := by
 unfold listAt at hk
 split at hk
 ·cases hk; rename_i e; exact Wo e
 ·cases hk; rename_i e; exact Yci e
 ·cases hk
end
section
variable {α : Type} {src : Src} {g : MG} {m : MS} {ρ : Rho} {st : Stor} {N : Nat}
end
section
variable {α : Type} {st : Stor}
theorem Ji {k : Nat} {xs : List α} {f : α -> P} {i : Int} (hk : st[k]? = some (.lst (xs.map f))) (h0 : 0 <= i) (h1 : i < xs.length) : ∃ a ∈ xs, ixP (.ref k) (.int i) st = some (f a, st) := by
 have hl : i.toNat < xs.length := by omega
 exact ⟨xs[i.toNat], List.getElem_mem hl, Zp hk h0 (by rw [List.getElem?_map, List.getElem?_eq_getElem hl]; rfl)⟩
theorem YhZ {xs : List P} {b : Nat} : cutP xs none (some (b : Int)) = xs.take b := by
 unfold cutP
 rw [HT.sIx_nat, HT.sIx_none, List.drop_zero, Nat.sub_zero]
 by_cases h : b <= xs.length
 ·rw [Nat.min_eq_left h]
 ·rw [Nat.min_eq_right (by omega), List.take_of_length_le (Nat.le_refl _), List.take_of_length_le (by omega)]
theorem YeG {xs : List P} {a : Nat} : cutP xs (some (a : Int)) none = xs.drop a := by
 unfold cutP
 rw [HT.sIx_nat, HT.sIx_none]
 by_cases h : a <= xs.length
 ·rw [Nat.min_eq_left h, List.take_of_length_le (by rw [List.length_drop]; omega)]
 ·rw [Nat.min_eq_right (by omega), List.drop_of_length_le (Nat.le_refl _), List.drop_of_length_le (by omega), List.take_nil]
theorem Yf3 {k : Nat} {xs : List P} {lo hi : Option Int} (h : st[k]? = some (.lst xs)) (hl : xs.length <= 1000000) : slP (.ref k) lo hi st = some (.ref st.length, st ++ [.lst (cutP xs lo hi)]) := by
 unfold slP
 simp only [h]
 unfold newL
 rw [if_pos]
 show _ <= 1000000
 unfold cutP
 rw [List.length_take, List.length_drop]
 omega
theorem Yar {k : Nat} {xs : List P} {i : Int} {p : P} (hk : listAt st k = some xs) (h0 : 0 <= i) (h : xs[i.toNat]? = some p) : ixP (.ref k) (.int i) st = some (p, st) := by
 unfold listAt at hk
 split at hk
 ·cases hk; rename_i e; exact Zp e h0 h
 ·cases hk; rename_i e; exact Ydo e h0 h
 ·cases hk
end
theorem Yih (a : Nat) (u : Option Int) (n : Nat) : Builtin.Str.strSliceIndices (some (a : Int)) u 1 n = Builtin.Str.strSliceIndices (some ((min a n : Nat) : Int)) u 1 n := by
 have e : max (0 : Int) (min (if (a : Int) < 0 then (a : Int) + n else a) n) = max 0 (min (if ((min a n : Nat) : Int) < 0 then ((min a n : Nat) : Int) + n else ((min a n : Nat) : Int)) n) := by
  rw [if_neg (by omega), if_neg (by omega)]; omega
 unfold Builtin.Str.strSliceIndices
 simp only [show (1 : Int) > 0 by decide, if_true]
 rw [e]
theorem Yi6 (l : Option Int) (b : Nat) (n : Nat) : Builtin.Str.strSliceIndices l (some (b : Int)) 1 n = Builtin.Str.strSliceIndices l (some ((min b n : Nat) : Int)) 1 n := by
 have e : max (0 : Int) (min (if (b : Int) < 0 then (b : Int) + n else b) n) = max 0 (min (if ((min b n : Nat) : Int) < 0 then ((min b n : Nat) : Int) + n else ((min b n : Nat) : Int)) n) := by
  rw [if_neg (by omega), if_neg (by omega)]; omega
 unfold Builtin.Str.strSliceIndices
 simp only [show (1 : Int) > 0 by decide, if_true]
 rw [e]
theorem Zs (x : Str) (l u : Option Int) : Txt.slice x l u = StrLaws.sliceText x l u := by
 first | rfl | (unfold Txt.slice StrLaws.sliceText; rfl)
theorem Yb5 (x : Str) (a : Nat) (u : Option Int) : Txt.slice x (some (a : Int)) u = Txt.slice x (some ((min a x.length : Nat) : Int)) u := by
 rw [Zs, Zs]
 unfold StrLaws.sliceText
 rw [Yih]
theorem Ybu (x : Str) (l : Option Int) (b : Nat) : Txt.slice x l (some (b : Int)) = Txt.slice x l (some ((min b x.length : Nat) : Int)) := by
 rw [Zs, Zs]
 unfold StrLaws.sliceText
 rw [Yi6]
theorem YcH (l : List Nat) (a : Nat) : Txt.slice (sT l) (some (a : Int)) none = sT (l.drop a) := by
 rw [Yb5, Zs, StrLaws.sliceText_from (by rw [WU, YO]; omega), WU, YO]
 have e : (l.drop ((min a l.length : Nat) : Int).toNat).take ((l.length : Int) - ((min a l.length : Nat) : Int)).toNat = l.drop a := by
  rw [Int.toNat_natCast]
  by_cases h : a <= l.length
  ·rw [Nat.min_eq_left h, List.take_of_length_le (by rw [List.length_drop]; omega)]
  ·rw [Nat.min_eq_right (by omega), List.drop_of_length_le (Nat.le_refl _), List.drop_of_length_le (by omega), List.take_nil]
 rw [e]
 rfl
theorem Yf2 (l : List Nat) (b : Nat) : Txt.slice (sT l) none (some (b : Int)) = sT (l.take b) := by
 rw [Ybu, Zs, StrLaws.sliceText_to (by rw [WU, YO]; omega), WU, YO]
 have e : (l.drop 0).take (((min b l.length : Nat) : Int) - 0).toNat = l.take b := by
  rw [List.drop_zero, Int.sub_zero, Int.toNat_natCast]
  by_cases h : b <= l.length
  ·rw [Nat.min_eq_left h]
  ·rw [Nat.min_eq_right (by omega), List.take_of_length_le (Nat.le_refl _), List.take_of_length_le (by omega)]
 rw [e]
 rfl
theorem YdM (l : List Nat) (a b : Nat) (hab : a <= b) : Txt.slice (sT l) (some (a : Int)) (some (b : Int)) = sT ((l.drop a).take (b - a)) := by
 rw [Yb5, Ybu, Zs, StrLaws.sliceText_plain (by rw [WU, YO]; omega), WU, YO]
 have e : (l.drop ((min a l.length : Nat) : Int).toNat).take (((min b l.length : Nat) : Int) - ((min a l.length : Nat) : Int)).toNat = (l.drop a).take (b - a) := by
  rw [Int.toNat_natCast]
  by_cases h : a <= l.length
  ·rw [Nat.min_eq_left h]
   by_cases h2 : b <= l.length
   ·rw [Nat.min_eq_left h2]; congr 1; omega
   ·rw [Nat.min_eq_right (by omega), List.take_of_length_le (by rw [List.length_drop]; omega), List.take_of_length_le (by rw [List.length_drop]; omega)]
  ·rw [Nat.min_eq_right (show l.length <= b by omega), Nat.min_eq_right (show l.length <= a by omega), List.drop_of_length_le (Nat.le_refl _), List.drop_of_length_le (show l.length <= a by omega), List.take_nil, List.take_nil]
 rw [e]
 rfl
section
variable {st : Stor}
theorem Yej {l : List Nat} {a : Nat} (h : l.length <= 1000000) : slP (tx l) (some (a : Int)) none st = some (tx (l.drop a), st) := by
 show (if (sT l).length <= cap then okP (.str (Txt.slice (sT l) (some (a : Int)) none)) st else none) = _
 rw [if_pos (by rw [YO]; exact h), YcH]
 rfl
theorem Yhu {l : List Nat} {b : Nat} (h : l.length <= 1000000) : slP (tx l) none (some (b : Int)) st = some (tx (l.take b), st) := by
 show (if (sT l).length <= cap then okP (.str (Txt.slice (sT l) none (some (b : Int)))) st else none) = _
 rw [if_pos (by rw [YO]; exact h), Yf2]
 rfl
theorem YeO {l : List Nat} {a b : Nat} (hab : a <= b) (h : l.length <= 1000000) : slP (tx l) (some (a : Int)) (some (b : Int)) st = some (tx ((l.drop a).take (b - a)), st) := by
 show (if (sT l).length <= cap then okP (.str (Txt.slice (sT l) (some (a : Int)) (some (b : Int)))) st else none) = _
 rw [if_pos (by rw [YO]; exact h), YdM _ _ _ hab]
 rfl
end
theorem Yfo {c : Nat} {l : List Nat} {st : Stor} : inP (tx [c]) (tx l) st = some (.bl (decide (c ∈ l)), st) := by
 have := StrLaws.found_one (sT l) c
 show okP (.bl (!(Builtin.Str.occurrences (sT l) (sT [c]) 0 (sT l).length 1).isEmpty)) st = _
 have e : (!(Builtin.Str.occurrences (sT l) (sT [c]) 0 (sT l).length 1).isEmpty) = decide (c ∈ l) := this
 rw [e]
 rfl
end Mi
namespace Mi
open PySem PySem.Spec L2
open PyProof.Rows hiding St
section
variable {n i : Nat} {m mb mh : MS} {mf : MF} {mr ma : MA} {me : ME} {ps : List P} {ρ : Rho} {st : Stor} {c : Str} {p : P} {fs : List (Str × P)} {x : Xc} {b : Bool}
end
end Mi
namespace Mi
open PySem PySem.Spec L2
open PyProof.Rows hiding St
end Mi
namespace G
open PySem PySem.Spec L2 Mi
open PyProof.Rows hiding St
section
variable {ρ : Rho} {st : Stor} {mb mh : MS} {hm r : HM} {c d : Str} {i n : Nat} {ms : List Str} {fs : List (Str × P)} {p : P}
end
end G
namespace G
open PySem PySem.Spec L2 Mi
open PyProof.Rows hiding St
open Builtin.Str (occurrences partsBetween strSub strKind subAt)
end G
namespace G
open PySem PySem.Spec L2 Mi
open PyProof.Rows hiding St
set_option hygiene false in
local macro_rules | `(tactic| walk_at "ev") => `(tactic| simp -implicitDefEqProofs (disch := first | omega | decide | (simp only [List.length_append, List.length_cons, List.length_nil, List.length_map]; omega)) only [Yfo, Yej, Yhu, YfS, Int.cast_ofNat_Int, Int.reduceBEq, decide_true, decide_false, beq_self_eq_true, YcO, YjG, Yia, Yhr, Yhg, Ygs, Yfb, YeN, Yjn, Yiu, YiN, Yby, YgQ, Yjl, Vz, Yf6, YfP, x_eC, Ycz, Ygf, Yf5, Yfy, YgA, Yh6, Yg8, Yi8, Yh3, YdE, Yjc, Yhb, YiH, YjI, Yi7, Yg3, Yf9, x_eB, Yg2, YiF, x_eM, YjL, Ygv, Yhi, YhU, YfR, Yiz, Ygw, Yh9, Yhn, YhD, Ygr, YiC, YhP, YhV, YeH, Yhk, Yfk, Yho, Ycq, YiL, YbI, Ye3, YgD, Ye8, YhJ, YiI, YdL, Ydx, YeT, Ygc, Ye7, YbA, YeQ, Yes, Ydc, Yft, Yfq, Ydr, Yja, Ww, Yh1, Ygl, YbE, Ycn, Yhp, Mi.R.bind_ok, Mi.RS.ofE_ok, Mi.RS.seq_nx, Mi.RS.seq_rt, Yfl, List.map_cons, List.map_nil, List.length_cons, List.length_nil, List.cons_append, List.nil_append, List.append_nil, List.replicate_succ, List.replicate_zero, List.getElem?_cons_zero, List.getElem?_cons_succ, List.set_cons_zero, List.set_cons_succ, Nat.reduceSub, Nat.reduceAdd, Nat.reduceLeDiff, Nat.reduceEqDiff, reduceIte, Bool.false_eq_true, Option.join_some, Option.join_none, Option.bind_some, Nat.zero_add, Nat.add_zero, Nat.sub_self, Option.map_some, Option.map_none, List.isEmpty_nil, List.isEmpty_cons, Bool.not_true, Bool.not_false, Nat.zero_le, Yik, Bool.true_and, Bool.and_true])
theorem Wx {k : Nat} {ns : List Int} {st : Stor} (i : Nat) (h : st[k]? = some (.ro (ns.map P.int))) : Yd [.ref k, .int i] st = .ok (.int (ns.getD i 0)) st := by
 unfold Yd Zm
 simp only [YhJ, List.map_cons, List.map_nil, YfR, YhD, Yf5, Ygf, Ycz]
 simp [Yci h]
 by_cases hi : i < ns.length
 ·simp [hi]
  rw [Ydo h (by omega) (p := .int ns[i]) (by simp [hi])]
  simp [hi]
 ·simp [hi]
theorem abc : ("abcdefghijklmnopqrstuvwxyz" : Str) = sT ((List.range 26).map (97 + ·)) := by decide +kernel
abbrev Sys := List (List Nat × List Nat)
def encEq (e : List Nat × List Nat) : P := .tup [tx e.1, tx e.2]
def encSys (tb : Sys) : P := .tup (tb.map encEq)
def allL (tb : Sys) : List Nat := tb.flatMap fun e => e.1 ++ e.2
theorem W8 {tb : Sys} {e : List Nat × List Nat} (h : e ∈ tb) : e.1.length + e.2.length <= (allL tb).length := by
 unfold allL
 induction tb with
 | nil => cases h
 | cons a r ih =>
  rw [List.flatMap_cons, List.length_append, List.length_append]
  rcases List.mem_cons.mp h with rfl | h
  ·omega
  ·have := ih h; omega
theorem s_e : P.str "" = tx [] := congrArg P.str Zo
theorem Wq : ∀ {l m : List Nat}, l.Nodup -> (∀ x ∈ l, x ∈ m) -> l.length <= m.length
 | [], m, _, _ => Nat.zero_le _
 | a :: l, m, hn, h => by
  have ha : a ∈ m := h a (List.mem_cons_self ..)
  have hn' := List.nodup_cons.mp hn
  have ih := Wq (l := l) (m := m.erase a) hn'.2 fun x hx => by
   have e : x ≠ a := fun e => hn'.1 (by rw [<- e]; exact hx)
   exact (List.mem_erase_of_ne e).mpr (h x (List.mem_cons_of_mem _ hx))
  rw [List.length_erase_of_mem ha] at ih
  have : 0 < m.length := List.length_pos_of_mem ha
  rw [List.length_cons]
  omega
theorem s_A : ("A" : Str) = sT [65] := by decide +kernel
theorem s_Z : ("Z" : Str) = sT [90] := by decide +kernel
theorem Jj {c : Nat} {st : Stor} : Yp [tx [c]] st = .ok (.bl (isUp c)) st := by
 unfold Yp ZQ tx
 walk_at "ev"
 rw [s_A, s_Z]
 simp only [Vs]
 unfold isUp
 by_cases h : 65 <= c
 ·have e : decide (c < 65) = false := decide_eq_false (by omega)
  rw [e, decide_eq_true h]
  walk_at "ev"
  by_cases h2 : c <= 90
  ·rw [decide_eq_false (by omega : ¬ 90 < c), decide_eq_true h2]; rfl
  ·rw [decide_eq_true (by omega : 90 < c), decide_eq_false h2]; rfl
 ·have e : decide (c < 65) = true := decide_eq_true (by omega)
  rw [e, decide_eq_false h]
  rfl
def glue (p : P) : P := match p with
 | .tup [.str a, .str b] => .str (a ++ b)
 | _ => .non
theorem YcF {tb : Sys} {st : Stor} (h : (allL tb).length <= 1000) (h6 : tb.length <= 1000) : YN [encSys tb] st = .ok (tx (allL tb)) st := by
 unfold YN ZS encSys
 simp only [Zo]
 walk_at "ev"
 have hc := Yax (src := srcL (tb.map encEq)) (g := mgTup 2 (mgCons (mgName 0) (mgCons (mgName 1) mgNil))) (nt := nTrue) (me := eBin addP (eVar 0) (eVar 1)) (ρ0 := [none, none]) (st := st) (xs := tb.map encEq) (fun _ => true) glue rfl (fun i hi => rfl)
  (by rw [List.length_map]; omega) (fun p hp => by
   obtain ⟨e, he, rfl⟩ := List.mem_map.mp hp
   have := W8 he
   refine ⟨[some (tx e.1), some (tx e.2)], rfl, rfl, fun _ => ?_⟩
   walk_at "ev"
   show R.ok (tx (e.1 ++ e.2)) st = .ok (.str (sT e.1 ++ sT e.2)) st
   rw [JX]
   rfl)
 rw [Yft] at hc
 rw [hc]
 walk_at "ev"
 have e : ((tb.map encEq).filter fun _ => true).map glue = (tb.map fun e => e.1 ++ e.2).map tx := by
  rw [List.filter_eq_self.mpr (by intros; rfl), List.map_map, List.map_map]
  refine List.map_congr_left fun e _ => ?_
  show P.str (sT e.1 ++ sT e.2) = tx (e.1 ++ e.2)
  rw [JX]
  rfl
 have e2 : (tb.map fun e => e.1 ++ e.2).flatten = allL tb := by unfold allL; rw [List.flatMap_def]
 rw [e, Z2 (by rw [e2]; omega), e2]
 rfl
def Rises (r : List Nat) : Prop := r.Pairwise (· < ·)
theorem Yck {r s : List Nat} (h1 : Rises r) (h2 : Rises s) (h : ∀ c, c ∈ r ↔ c ∈ s) : r = s := by
 have n1 : r.Nodup := h1.imp fun h => Nat.ne_of_lt h
 have n2 : s.Nodup := h2.imp fun h => Nat.ne_of_lt h
 exact List.Perm.eq_of_pairwise (le := (· < ·)) (fun a b _ _ x y => absurd x (Nat.lt_asymm y)) h1 h2 ((List.perm_ext_iff_of_nodup n1 n2).mpr h)
theorem YgC {a b : Nat} : leS (sT [a]) (sT [b]) = decide (a <= b) := by
 unfold leS
 rw [Vs]
 by_cases h : a <= b
 ·rw [decide_eq_true h, decide_eq_false (by omega)]; rfl
 ·rw [decide_eq_false h, decide_eq_true (by omega)]; rfl
theorem Yev (ls : List Nat) (hn : ls.Nodup) : ∃ r, sortS (ls.map fun c => sT [c]) = r.map (fun c => sT [c]) /\ Rises r /\ r.Perm ls := by
 have hp := List.mergeSort_perm ls (fun a b => decide (a <= b))
 have hs := List.pairwise_mergeSort (le := fun a b : Nat => decide (a <= b)) (fun a b c h1 h2 => by simp at *; omega) (fun a b => by simp; omega) ls
 refine ⟨ls.mergeSort (fun a b => decide (a <= b)), (W9 (hp.map _) ?_).symm, ?_, hp⟩
 ·rw [List.pairwise_map]
  exact hs.imp fun h => by rw [YgC]; exact h
 ·have hn' : (ls.mergeSort (fun a b => decide (a <= b))).Nodup := hp.nodup_iff.mpr hn
  exact (hs.and hn').imp fun ⟨h1, h2⟩ => Nat.lt_of_le_of_ne (of_decide_eq_true h1) h2
theorem rising {ls : List Nat} {k : Nat} {st : Stor} (h : listAt st k = some (ls.map fun c => tx [c])) (hl : ls.length <= 1000) (ha : ∀ c ∈ ls, isLet c = true) : ∃ r, ZE [.ref k] st = .ok (tx r) st /\ Rises r /\ ∀ c, c ∈ r ↔ c ∈ ls := by
 unfold ZE V9
 simp only [Zo]
 walk_at "ev"
 have ho : ∀ x ∈ once (ls.map fun c => sT [c]), ∃ c, x = sT [c] /\ isLet c = true := fun x hx => by
  obtain ⟨c, hc, rfl⟩ := List.mem_map.mp (mem_once.mp hx)
  exact ⟨c, rfl, ha c hc⟩
 obtain ⟨l0, e0, h0⟩ := JC ho
 have hn : l0.Nodup := by
  have := YcG (ls.map fun c => sT [c])
  rw [e0] at this
  rw [List.nodup_iff_pairwise_ne, List.pairwise_map] at this
  exact this.imp fun h e => h (by rw [e])
 have hm : ∀ c, c ∈ l0 ↔ c ∈ ls := fun c => by
  have key : ∀ l : List Nat, c ∈ l ↔ sT [c] ∈ l.map fun c => sT [c] := fun l => by
   rw [List.mem_map]
   constructor
   ·intro h; exact ⟨c, h, rfl⟩
   ·rintro ⟨d, hd, e⟩
    have : [d] = [c] := sT_inj.mp e
    cases this
    exact hd
  rw [key l0, <- e0, mem_once, <- key ls]
 have h64 : l0.length < 64 := by
  have := Wq (m := (List.range 26).map (65 + ·) ++ (List.range 26).map (97 + ·)) hn fun c hc => by
   have := isLet_iff.mp (h0 c hc)
   rw [List.mem_append, List.mem_map, List.mem_map]
   rcases this with h | h
   ·exact .inr ⟨c - 97, by simp; omega, by omega⟩
   ·exact .inl ⟨c - 65, by simp; omega, by omega⟩
  have e : ((List.range 26).map (65 + ·) ++ (List.range 26).map (97 + ·)).length = 52 := by decide
  omega
 obtain ⟨r, r1, r2, r3⟩ := Yev l0 hn
 have hsort : lSortSetX (eVar 0) [some (.ref k)] st = .ok (r.map fun c => tx [c]) st := by
  unfold lSortSetX
  walk_at "ev"
  simp only [h]
  rw [JB]
  dsimp only
  have e1 : (ls.map fun c => [c]).map sT = ls.map fun c => sT [c] := by rw [List.map_map]; rfl
  rw [e1, if_pos ⟨by rw [List.length_map]; omega, by rw [e0, List.length_map]; exact h64⟩, e0, r1, List.map_map]
  rfl
 rw [hsort]
 walk_at "ev"
 rw [WQ (by rw [r3.length_eq]; omega)]
 exact ⟨r, rfl, r2, fun c => by rw [r3.mem_iff, hm]⟩
def headP (f : Nat -> Bool) (p : P) : Bool := match p with
 | .str x => f (x.cps.toList.headD 0)
 | _ => false
theorem YbP (f : Nat -> Bool) (ls : List Nat) : ((ls.map fun c => tx [c]).filter (headP f)).map id = (ls.filter f).map fun c => tx [c] := by
 rw [List.map_id, List.filter_map]
 congr 1
theorem YdZ (l : List Nat) (st : Stor) : ∀ i, i <= (l.map fun c => tx [c]).length -> (srcS (sT l)).nx i st = some (l.map fun c => tx [c])[i]? := fun i hi => by
 rw [Yde (by simpa using hi), Ye6, List.getElem?_map]
 rfl
theorem YbD {tb : Sys} {st : Stor} (h : (allL tb).length <= 1000) (h6 : tb.length <= 1000) (ha : ∀ c ∈ allL tb, isLet c = true) : ∃ r st', YA [encSys tb] st = .ok (tx r) st' /\ Grow st st' /\ Rises r /\ ∀ c, c ∈ r ↔ c ∈ allL tb /\ isUp c = true := by
 unfold YA WT
 walk_at "ev"
 rw [YcF h h6]
 walk_at "ev"
 unfold tx
 have hc := Yax (src := srcS (sT (allL tb))) (g := mgName 0) (nt := eTru (eCall 1 Yp (aCons (eVar 0) aNil))) (me := eVar 0) (ρ0 := [none]) (st := st) (xs := (allL tb).map fun c => tx [c]) (headP isUp) id (by simp) (YdZ _ _)
  (by rw [List.length_map]; omega) (fun p hp => by
   obtain ⟨c, hc, rfl⟩ := List.mem_map.mp hp
   refine ⟨[some (tx [c])], rfl, ?_, fun _ => rfl⟩
   walk_at "ev"
   rw [Jj]
   rfl)
 rw [Yfq] at hc
 rw [Ydr] at hc
 rw [hc, YbP]
 walk_at "ev"
 obtain ⟨r, r1, r2, r3⟩ := rising (ls := (allL tb).filter isUp) (k := st.length) (st := st ++ [.lst (((allL tb).filter isUp).map fun c => tx [c])]) (Yg Yo) (Nat.le_trans (List.length_filter_le _ _) h) (fun c hc => ha c (List.mem_filter.mp hc).1)
 rw [r1]
 walk_at "ev"
 exact ⟨r, _, rfl, Grow.one, r2, fun c => by rw [r3, List.mem_filter]⟩
theorem mem_allL {tb : Sys} {c : Nat} : c ∈ allL tb ↔ ∃ e ∈ tb, c ∈ e.1 \/ c ∈ e.2 := by
 unfold allL
 simp [List.mem_flatMap]
def up26 : List Nat := (List.range 26).map (65 + ·)
theorem YcY : P.str "ABCDEFGHIJKLMNOPQRSTUVWXYZ" = tx up26 := congrArg P.str (by decide +kernel)
theorem mem_up26 {c : Nat} : c ∈ up26 ↔ isUp c = true := by
 rw [Jq]; unfold up26; simp only [List.mem_map, List.mem_range]
 exact ⟨fun ⟨a, h1, h2⟩ => by omega, fun h => ⟨c - 65, by omega, by omega⟩⟩
def nsOf (tb : Sys) : List Nat := up26.filter fun c => decide (c ∈ allL tb)
def fillL (ns : List Nat) (w : Nat -> List Nat) (l : List Nat) : List Nat := l.flatMap fun c => if c ∈ ns then w c else [c]
def wordOf (ns : List Nat) (W : List (List Nat)) (c : Nat) : List Nat := W.getD (ns.idxOf c) []
theorem VG {r : List Nat} (h : Rises r) : r.Nodup := List.Pairwise.imp (fun h => Nat.ne_of_lt h) h
theorem WR (tb : Sys) : (nsOf tb).Nodup := VG (List.Pairwise.filter _ (by decide))
def placeOf (N : List Nat) (x : Nat) : Nat := (N.filter fun c => decide (c < x)).length
def insN (N : List Nat) (x : Nat) : List Nat := N.take (placeOf N x) ++ [x] ++ N.drop (placeOf N x)
theorem Ybw (N : List Nat) (x : Nat) : placeOf N x <= N.length := List.length_filter_le ..
theorem parted {x : Nat} : ∀ {N : List Nat}, Rises N -> x ∉ N -> (∀ a ∈ N.take (placeOf N x), a < x) /\ ∀ b ∈ N.drop (placeOf N x), x < b
 | [], _, _ => ⟨fun a h => by simp at h, fun a h => by simp at h⟩
 | a :: N, h, hx => by
  have h' := List.pairwise_cons.mp h
  rw [List.mem_cons, not_or] at hx
  have ih := parted h'.2 hx.2
  by_cases q : a < x
  ·have e : placeOf (a :: N) x = placeOf N x + 1 := by unfold placeOf; rw [List.filter_cons_of_pos (by simpa using q), List.length_cons]
   rw [e, List.take_succ_cons, List.drop_succ_cons]
   refine ⟨fun b hb => ?_, ih.2⟩
   rcases List.mem_cons.mp hb with rfl | hb
   ·exact q
   ·exact ih.1 b hb
  ·have e : placeOf (a :: N) x = 0 := by
    unfold placeOf
    rw [List.length_eq_zero_iff, List.filter_eq_nil_iff]
    intro b hb
    rcases List.mem_cons.mp hb with rfl | hb
    ·simpa using q
    ·have := h'.1 b hb
     simp only [decide_eq_true_eq]
     omega
   rw [e, List.take_zero, List.drop_zero]
   refine ⟨fun b hb => by simp at hb, fun b hb => ?_⟩
   rcases List.mem_cons.mp hb with rfl | hb
   ·omega
   ·have := h'.1 b hb
    omega
theorem YdV {N : List Nat} {x : Nat} (h : Rises N) (hx : x ∉ N) : Rises (insN N x) := by
 obtain ⟨h1, h2⟩ := parted h hx
 unfold insN Rises
 rw [List.append_assoc, List.pairwise_append]
 have hp : ((N.take (placeOf N x)) ++ (N.drop (placeOf N x))).Pairwise (· < ·) := by rw [List.take_append_drop]; exact h
 rw [List.pairwise_append] at hp
 refine ⟨hp.1, ?_, fun a ha b hb => ?_⟩
 ·rw [List.singleton_append, List.pairwise_cons]
  exact ⟨h2, hp.2.1⟩
 ·rcases List.mem_append.mp hb with hb | hb
  ·rw [List.mem_singleton.mp hb]; exact h1 a ha
  ·exact hp.2.2 a ha b hb
theorem ins_mem {N : List Nat} {x c : Nat} : c ∈ insN N x ↔ c = x \/ c ∈ N := by
 unfold insN
 have : c ∈ N ↔ c ∈ N.take (placeOf N x) \/ c ∈ N.drop (placeOf N x) := by rw [<- List.mem_append, List.take_append_drop]
 rw [this, List.append_assoc, List.mem_append, List.mem_append, List.mem_singleton]
 constructor
 ·rintro (h | h | h)
  ·exact .inr (.inl h)
  ·exact .inl h
  ·exact .inr (.inr h)
 ·rintro (h | h | h)
  ·exact .inr (.inl h)
  ·exact .inl h
  ·exact .inr (.inr h)
theorem Ygx (N : List Nat) (x : Nat) : (insN N x).length = N.length + 1 := by
 unfold insN
 have := Ybw N x
 rw [List.length_append, List.length_append, List.length_take, List.length_drop, List.length_singleton]
 omega
theorem Zl (N : List Nat) (w : Nat -> List Nat) (a b : List Nat) : fillL N w (a ++ b) = fillL N w a ++ fillL N w b := List.flatMap_append
theorem Wd (N : List Nat) (w : Nat -> List Nat) (c : Nat) : fillL N w [c] = if c ∈ N then w c else [c] := by unfold fillL; simp
theorem Yfr {N : List Nat} {w : Nat -> List Nat} {c : Nat} {l : List Nat} {p : Nat} (hc : c ∈ N) (hw : w c = []) : fillL N w (l.take p ++ [c] ++ l.drop p) = fillL N w l := by
 rw [Zl, Zl, Wd, if_pos hc, hw, List.append_nil, <- Zl, List.take_append_drop]
theorem YaL {l x : List Nat} {i : Nat} (h : (l.drop i).take x.length = x) : l.take i ++ x = l.take (i + x.length) := by
 rw [List.take_add, h]
theorem JH {N : List Nat} {W : List (List Nat)} (p : Nat -> Bool) (nd : N.Nodup) (h : N.length = W.length) : (((List.range N.length).filter fun k => p (N.getD k 0)).map fun k => N.getD k 0) = N.filter p /\ (((List.range N.length).filter fun k => p (N.getD k 0)).map fun k => W.getD k []) = (N.filter p).map (wordOf N W) := by
 have hN : (List.range N.length).map (fun k => N.getD k 0) = N := by
  apply List.ext_getElem
  ·simp
  ·intro i h1 h2
   simp [List.getD_eq_getElem?_getD, List.getElem?_eq_getElem h2]
 have e1 : (((List.range N.length).filter fun k => p (N.getD k 0)).map fun k => N.getD k 0) = N.filter p := by
  conv => rhs; rw [<- hN, List.filter_map]
  rfl
 refine ⟨e1, ?_⟩
 rw [<- e1, List.map_map]
 refine List.map_congr_left fun k hk => ?_
 have hk' : k < N.length := by simpa using (List.mem_filter.mp hk).1
 show _ = W.getD (N.idxOf (N.getD k 0)) []
 rw [List.getD_eq_getElem?_getD (l := N), List.getElem?_eq_getElem hk', Option.getD_some, List.Nodup.idxOf_getElem nd k hk']
theorem Yjw {i : Int} {st : Stor} (h0 : 0 <= i) (h1 : i < 26) : ixP (tx up26) (.int i) st = some (tx [65 + i.toNat], st) := by
 obtain ⟨c, h2, h3⟩ := Wv (l := up26) (st := st) h0 (by rw [show up26.length = 26 by decide]; exact h1) (by rw [show up26.length = 26 by decide]; decide)
 rw [h3]
 have : up26[i.toNat]? = some (65 + i.toNat) := by
  unfold up26
  rw [List.getElem?_map, List.getElem?_range (by omega)]
  rfl
 rw [this] at h2
 cases h2
 rfl
theorem YeC {cell : Int} {st : Stor} : ∃ (N : List Nat) (st' : Stor), YL [.int cell] st = .ok (tx N) st' /\ Grow st st' /\ Rises N /\ (∀ c ∈ N, isUp c = true) /\ 1 <= N.length /\ N.length <= 4 := by
 unfold YL ZO
 simp only [s_e]
 walk_at "ev"
 obtain ⟨n, hn, n1, n4⟩ : ∃ n : Nat, 1 + cell % 4 = (n : Int) /\ 1 <= n /\ n <= 4 := ⟨(1 + cell % 4).toNat, by omega, by omega, by omega⟩
 rw [hn, Int.toNat_natCast]
 obtain ⟨sp', hsp, hs3⟩ : ∃ p : Int, ([P.int 1, P.int 5, P.int 9] : List P)[(cell / 104 % 3).toNat]? = some (.int p) /\ (p = 1 \/ p = 5 \/ p = 9) := by
  obtain ⟨z, hz⟩ : ∃ z : Nat, cell / 104 % 3 = (z : Int) := ⟨(cell / 104 % 3).toNat, by omega⟩
  rw [hz, Int.toNat_natCast]
  have : z = 0 \/ z = 1 \/ z = 2 := by omega
  rcases this with rfl | rfl | rfl
  ·exact ⟨1, rfl, .inl rfl⟩
  ·exact ⟨5, rfl, .inr (.inl rfl)⟩
  ·exact ⟨9, rfl, .inr (.inr rfl)⟩
 obtain ⟨ρ', s', e1, N, v2, v3, v4, e2, e3, e4, e5, e6, e7⟩ := Zw (src := srcR 0 n) (g := mgName 2) (m := Zx) (N := n) (ρ := [some (.int cell), some (tx []), none, none, none]) (st := st) (List.range n) (fun (k : Nat) => P.int (0 + k))
  (fun i ρ s => ∃ (N : List Nat) (v2 v3 v4 : Option P), ρ = [some (.int cell), some (tx N), v2, v3, v4] /\ Grow st s /\ Rises N /\ (∀ c ∈ N, isUp c = true) /\ N.length = i /\ ∀ c ∈ N, ∃ j : Nat, j < i /\ c = 65 + ((cell / 4 + sp' * (j : Int)) % 26).toNat)
  (by simp) (fun i ρ s hi _ => nxR) ⟨[], none, none, none, rfl, Grow.refl, List.Pairwise.nil, fun c h => (by cases h), rfl, fun c h => (by cases h)⟩
  (fun i hi ρ s ⟨N, v2, v3, v4, q1, q2, q3, q4, q5, q6⟩ => by
   subst q1
   have hi' : i < n := by simpa using hi
   have ei : (List.range n)[i] = i := by simp
   rw [ei]
   refine ⟨_, rfl, ?_⟩
   unfold Zx
   simp only [YcY]
   walk_at "ev"
   rw [Zp (st := s ++ [O.lst [P.int 1, P.int 5, P.int 9]]) Yo (by omega) hsp]
   walk_at "ev"
   rw [Yjw (by omega) (by omega)]
   walk_at "ev"
   generalize hx : 65 + ((cell / 4 + sp' * (0 + (i : Int))) % 26).toNat = x
   have hup : isUp x = true := by rw [Jq, <- hx]; omega
   have hnew : x ∉ N := fun z => by
    obtain ⟨j, j1, j2⟩ := q6 x z
    rw [<- hx] at j2
    rcases hs3 with rfl | rfl | rfl <;> omega
   rw [Wl (g := mgName 0) N (fun c => tx [c]) (fun c => decide (c < x)) (fun c => tx [c]) rfl (fun i hi => nxS hi) (by omega) (fun c _ => ⟨[some (tx [c]), some (tx [x])], rfl, by
    walk_at "ev"
    have : ltP (tx [c]) (tx [x]) (s ++ [O.lst [P.int 1, P.int 5, P.int 9]]) = some (.bl (decide (c < x)), s ++ [O.lst [P.int 1, P.int 5, P.int 9]]) := by
     unfold tx; rw [YbA, Vs]
    rw [this]
    walk_at "ev", fun _ => rfl⟩)]
   walk_at "ev"
   rw [Wo Yo, List.length_map]
   have hpl : (N.filter fun c => decide (c < x)).length = placeOf N x := rfl
   have hple := Ybw N x
   rw [hpl]
   walk_at "ev"
   have hlt : (N.take (placeOf N x)).length <= 26 /\ (N.drop (placeOf N x)).length <= 26 := by rw [List.length_take, List.length_drop]; omega
   walk_at "ev"
   refine ⟨_, _, rfl, insN N x, _, _, _, rfl, (q2.trans Grow.one).trans Grow.one, YdV q3 hnew, fun c hc => ?_, by rw [Ygx, q5], fun c hc => ?_⟩
   ·rcases ins_mem.mp hc with rfl | h
    ·exact hup
    ·exact q4 c h
   ·rcases ins_mem.mp hc with rfl | h
    ·exact ⟨i, by omega, by rw [<- hx]; simp⟩
    ·obtain ⟨j, j1, j2⟩ := q6 c h
     exact ⟨j, by omega, j2⟩)
 rw [e1, e2]
 walk_at "ev"
 rw [List.length_range] at e6
 exact ⟨N, s', rfl, e3, e4, e5, by omega, by omega⟩
theorem Yfd {cell : Int} {S : List Nat} {st : Stor} (hS : S ≠ []) (hSl : S.length <= 1000) : ∃ (w : List Nat) (st' : Stor), YH [.int cell, tx S] st = .ok (tx w) st' /\ Grow st st' /\ w.length <= 9 /\ ∀ c ∈ w, c ∈ S := by
 have hS0 : 0 < S.length := List.length_pos_iff.mpr hS
 unfold YH Z1
 simp only [s_e]
 walk_at "ev"
 obtain ⟨sz, hsz, hs9⟩ : ∃ p : Nat, ([P.int 0, P.int 1, P.int 2, P.int 3, P.int 5, P.int 9] : List P)[(cell % 6).toNat]? = some (.int (p : Int)) /\ p <= 9 := by
  obtain ⟨z, hz⟩ : ∃ z : Nat, cell % 6 = (z : Int) := ⟨(cell % 6).toNat, by omega⟩
  rw [hz, Int.toNat_natCast]
  have : z = 0 \/ z = 1 \/ z = 2 \/ z = 3 \/ z = 4 \/ z = 5 := by omega
  rcases this with rfl | rfl | rfl | rfl | rfl | rfl
  ·exact ⟨0, rfl, by omega⟩
  ·exact ⟨1, rfl, by omega⟩
  ·exact ⟨2, rfl, by omega⟩
  ·exact ⟨3, rfl, by omega⟩
  ·exact ⟨5, rfl, by omega⟩
  ·exact ⟨9, rfl, by omega⟩
 rw [Zp Yo (by omega) hsz]
 walk_at "ev"
 rw [Int.toNat_natCast]
 have hnum : 0 <= cell * 48271 % 2147483647 /\ cell * 48271 % 2147483647 < 2147483648 := by omega
 generalize cell * 48271 % 2147483647 = num at hnum ⊢
 generalize hT : st ++ [O.lst [P.int 0, P.int 1, P.int 2, P.int 3, P.int 5, P.int 9]] = T
 have gT : Grow st T := by rw [<- hT]; exact Grow.one
 obtain ⟨ρ', s', e1, w, num', v4, e2, e3, e4, e5, _⟩ := Zw (src := srcR 0 sz) (g := mgName 4) (m := ZY) (N := sz) (ρ := [some (.int cell), some (tx S), some (tx []), some (.int num), none]) (st := T) (List.range sz) (fun (k : Nat) => P.int (0 + k))
  (fun i ρ s => ∃ (w : List Nat) (num : Int) (v4 : Option P), ρ = [some (.int cell), some (tx S), some (tx w), some (.int num), v4] /\ s = T /\ w.length <= i /\ (∀ c ∈ w, c ∈ S) /\ 0 <= num /\ num < 2147483648)
  (by simp) (fun i ρ s hi _ => nxR) ⟨[], num, none, rfl, rfl, Nat.le_refl _, fun c h => (by cases h), hnum.1, hnum.2⟩
  (fun i hi ρ s ⟨w, num, v4, q1, q2, q3, q4, q5, q6⟩ => by
   subst q1; subst q2
   have hi' : i < sz := by simpa using hi
   have ei : (List.range sz)[i] = i := by simp
   rw [ei]
   refine ⟨_, rfl, ?_⟩
   unfold ZY
   walk_at "ev"
   have hn2 : 0 <= (num * num + 69621 * num + (0 + (i : Int))) % 2147483629 /\ (num * num + 69621 * num + (0 + (i : Int))) % 2147483629 < 2147483648 := by omega
   generalize (num * num + 69621 * num + (0 + (i : Int))) % 2147483629 = num2 at hn2 ⊢
   obtain ⟨c, c1, c2⟩ := Wv (l := S) (st := s) (i := num2 / 7 % (S.length : Int)) (Int.emod_nonneg _ (by omega)) (Int.emod_lt_of_pos _ (by omega)) (by omega)
   rw [c2]
   walk_at "ev"
   refine ⟨_, _, rfl, w ++ [c], num2, _, rfl, rfl, by rw [List.length_append, List.length_singleton]; omega, fun d hd => ?_, hn2.1, hn2.2⟩
   rcases List.mem_append.mp hd with h | h
   ·exact q4 d h
   ·rw [List.mem_singleton.mp h]; exact List.mem_of_getElem? c1)
 rw [e1, e2]
 walk_at "ev"
 rw [List.length_range] at e4
 exact ⟨w, T, by rw [e3], gT, by omega, e5⟩
def Keep (f : Nat) (s s' : Stor) : Prop := s.length <= s'.length /\ ∀ i, i ≠ f -> i < s.length -> s'[i]? = s[i]?
theorem Keep.refl {f : Nat} {s : Stor} : Keep f s s := ⟨Nat.le_refl _, fun _ _ _ => rfl⟩
theorem Keep.trans {f : Nat} {a b c : Stor} (h : Keep f a b) (h2 : Keep f b c) : Keep f a c := ⟨Nat.le_trans h.1 h2.1, fun i hi hl => by rw [h2.2 i hi (by have := h.1; omega), h.2 i hi hl]⟩
theorem Keep.set {f : Nat} {a : Stor} {o : O} : Keep f a (a.set f o) := ⟨by simp, fun i hi _ => List.getElem?_set_ne fun z => hi z.symm⟩
theorem Keep.get {f i : Nat} {a b : Stor} {o : O} (h : Keep f a b) (hi : i ≠ f) (e : a[i]? = some o) : b[i]? = some o := by
 rw [h.2 i hi (List.getElem?_eq_some_iff.mp e).1]; exact e
theorem Zu {st : Stor} {k : Nat} {kvs : List (Key × P)} {l : List Nat} {v : P} (h : st[k]? = some (.dct kvs)) (hv : valP kvs (tkey l) = some v) : ixP (.ref k) (tx l) st = some (v, st) := by
 show (match st[k]? with | some (.lst xs) => ixI xs (tx l) st | some (.ro xs) => ixI xs (tx l) st | some (O.dct kvs) => (match keyP (tx l) with | some k => (valP kvs k).map fun p => (p, st) | none => none) | _ => none) = _
 rw [h]
 dsimp only
 rw [YaW]
 dsimp only
 rw [hv]
 rfl
theorem YjM {l : List Nat} {st : Stor} (h : l.length <= 1000) : mul2P (tx l) (.int 2) st = some (tx (l ++ l), st) := by
 rw [Yby (by omega) (by omega) (by omega) (by show l.length * 2 <= 1000000; omega)]
 show some (tx (l ++ (l ++ [])), st) = _
 rw [List.append_nil]
structure UD (kvs : List (Key × P)) (N L : List Nat) : Prop where
 len : kvs.length <= 26
 val : ∀ n ∈ N, valP kvs (tkey [n]) = some (.int (2 - (L.count n : Nat)))
 two : ∀ n ∈ N, L.count n <= 2
theorem UD.same {kvs : List (Key × P)} {N L M : List Nat} (U : UD kvs N L) (h : ∀ n ∈ N, M.count n = L.count n) : UD kvs N M := ⟨U.len, fun n hn => by rw [h n hn]; exact U.val n hn, fun n hn => by rw [h n hn]; exact U.two n hn⟩
theorem UD.skip {kvs : List (Key × P)} {N L : List Nat} {c : Nat} (U : UD kvs N L) (h : c ∉ N) : UD kvs N (L ++ [c]) := U.same fun n hn => by
 rw [List.count_append, List.count_singleton, if_neg (by simpa using fun z => h (by rw [<- z] at hn; exact hn)), Nat.add_zero]
theorem UD.put {kvs : List (Key × P)} {N L : List Nat} {c : Nat} (U : UD kvs N L) (h : c ∈ N) (h1 : L.count c <= 1) : UD (putP kvs (tkey [c]) (.int (2 - (L.count c : Nat) - 1))) N (L ++ [c]) := by
 refine ⟨?_, fun n hn => ?_, fun n hn => ?_⟩
 ·rw [YaP, if_neg (by rw [U.val c h]; exact fun z => by cases z)]; exact U.len
 ·rw [Jn, List.count_append, List.count_singleton]
  by_cases q : c = n
  ·subst q
   rw [if_pos rfl, if_pos (beq_self_eq_true _)]
   congr 2
   omega
  ·rw [if_neg (fun z => q (by simpa using tkey_inj.mp z)), if_neg (by simpa using q), Nat.add_zero]; exact U.val n hn
 ·rw [List.count_append, List.count_singleton]
  by_cases q : c = n
  ·subst q; rw [if_pos (beq_self_eq_true _)]; omega
  ·rw [if_neg (by simpa using q), Nat.add_zero]; exact U.two n hn
structure NW (N : List Nat) (W : List (List Nat)) (S : List Nat) : Prop where
 up : ∀ c ∈ N, isUp c = true
 nd : N.Nodup
 ne : N ≠ []
 n4 : N.length <= 6
 len : N.length = W.length
 w9 : ∀ w ∈ W, w.length <= 9
 low : ∀ c ∈ S, isLow c = true
 wl : ∀ w ∈ W, ∀ c ∈ w, isLow c = true
 sne : S ≠ []
 s30 : S.length <= 30
theorem YaO {c : Nat} (h : isUp c = true) (h2 : isLow c = true) : False := by
 unfold isUp at h
 unfold isLow at h2
 simp only [Bool.and_eq_true, decide_eq_true_eq] at h h2
 omega
theorem NW.word {N : List Nat} {W : List (List Nat)} {S : List Nat} (D : NW N W S) {c : Nat} (hc : c ∈ N) : wordOf N W c ∈ W := by
 unfold wordOf
 have := List.idxOf_lt_length_iff.mpr hc
 rw [List.getD_eq_getElem?_getD, List.getElem?_eq_getElem (by rw [<- D.len]; exact this)]
 exact List.getElem_mem _
theorem NW.at {N : List Nat} {W : List (List Nat)} {S : List Nat} (D : NW N W S) {k c : Nat} {st : Stor} (hk : listAt st k = some (W.map tx)) (hc : c ∈ N) : ixP (.ref k) (.int (N.idxOf c : Nat)) st = some (tx (wordOf N W c), st) := by
 have h := List.idxOf_lt_length_iff.mpr hc
 refine Yar hk (by omega) ?_
 unfold wordOf
 rw [Int.toNat_natCast, List.getElem?_map, List.getD_eq_getElem?_getD, List.getElem?_eq_getElem (by rw [<- D.len]; exact h)]
 rfl
structure Sd (N : List Nat) (W : List (List Nat)) (L side full : List Nat) (kvs : List (Key × P)) : Prop where
 fill : fillL N (wordOf N W) side = full
 lets : ∀ c ∈ side, c ∈ N \/ isLow c = true
 use : UD kvs N (L ++ side)
theorem Yea {N S : List Nat} {W : List (List Nat)} {L side full : List Nat} {kvs : List (Key × P)} {v0 v10 v11 v12 : Option P} {kw ku most wide : Nat} {cell : Int} {st : Stor} (D : NW N W S) (hw : listAt st kw = some (W.map tx)) (hu : st[ku]? = some (.dct kvs)) (X : Sd N W L side full kvs) (h1 : side.length <= most) (h2 : full.length <= wide) (hm : most <= 100) (hwd : wide <= 100) :
 ∃ (side' full' : List Nat) (kvs' : List (Key × P)) (b9 b10 b11 b12 : Option P) (st' : Stor), Zj [v0, some (tx N), some (.ref kw), some (tx S), some (.ref ku), some (.int most), some (.int wide), some (tx side), some (tx full), some (.int cell), v10, v11, v12] st = .nx [v0, some (tx N), some (.ref kw), some (tx S), some (.ref ku), some (.int most), some (.int wide), some (tx side'), some (tx full'), b9, b10, b11, b12] st' /\ st'[ku]? = some (.dct kvs') /\ Keep ku st st' /\ Sd N W L side' full' kvs' /\ side'.length <= most /\ full'.length <= wide := by
 have hN4 := D.n4
 have hS0 : 0 < S.length := List.length_pos_iff.mpr D.sne
 have hS30 := D.s30
 unfold Zj
 simp only [s_e, Zo]
 walk_at "ev"
 have hfl : (N.filter fun c => decide (0 < (2 : Int) - ((L ++ side).count c : Nat))).length <= 6 := Nat.le_trans (List.length_filter_le ..) hN4
 rw [Wl (g := mgName 0) N (fun c => tx [c]) (fun c => decide (0 < (2 : Int) - ((L ++ side).count c : Nat))) (fun c => tx [c]) rfl (fun i hi => nxS hi) (by omega) (fun c hc => ⟨[some (tx [c]), some (.ref ku)], rfl, by
  walk_at "ev"
  rw [Zu hu (X.use.val c hc)]
  walk_at "ev", fun _ => rfl⟩)]
 walk_at "ev"
 rw [WQ (by omega)]
 walk_at "ev"
 rw [YjM (by omega)]
 walk_at "ev"
 have hq : ∀ c ∈ (N.filter fun c => decide (0 < (2 : Int) - ((L ++ side).count c : Nat))) ++ (N.filter fun c => decide (0 < (2 : Int) - ((L ++ side).count c : Nat))) ++ S, (c ∈ N /\ (L ++ side).count c <= 1) \/ c ∈ S := fun c hc => by
  simp only [List.mem_append, or_self] at hc
  rcases hc with h | h
  ·rw [List.mem_filter] at h
   refine .inl ⟨h.1, ?_⟩
   have := h.2
   simp only [decide_eq_true_eq] at this
   omega
  ·exact .inr h
 have hql : 0 < ((N.filter fun c => decide (0 < (2 : Int) - ((L ++ side).count c : Nat))) ++ (N.filter fun c => decide (0 < (2 : Int) - ((L ++ side).count c : Nat))) ++ S).length /\ ((N.filter fun c => decide (0 < (2 : Int) - ((L ++ side).count c : Nat))) ++ (N.filter fun c => decide (0 < (2 : Int) - ((L ++ side).count c : Nat))) ++ S).length <= 100 := by
  rw [List.length_append, List.length_append]
  omega
 generalize (N.filter fun c => decide (0 < (2 : Int) - ((L ++ side).count c : Nat))) ++ (N.filter fun c => decide (0 < (2 : Int) - ((L ++ side).count c : Nat))) ++ S = q at hq hql ⊢
 obtain ⟨c, c1, c2⟩ := Wv (l := q) (st := st) (i := cell * 48271 % 1000003 % (q.length : Int)) (Int.emod_nonneg _ (by omega)) (Int.emod_lt_of_pos _ (by omega)) (by omega)
 rw [c2]
 walk_at "ev"
 rcases hq c (List.mem_of_getElem? c1) with ⟨hc, hcn⟩ | hc
 ·rw [decide_eq_true hc]
  walk_at "ev"
  rw [Ybm hc]
  walk_at "ev"
  rw [D.at hw hc]
  walk_at "ev"
  have hwl := D.w9 _ (D.word hc)
  have hf1 : fillL N (wordOf N W) (side ++ [c]) = full ++ wordOf N W c := by rw [Zl, X.fill, Wd, if_pos hc]
  generalize wordOf N W c = w at hwl hf1 ⊢
  by_cases g1 : (side.length : Int) < most
  ·rw [decide_eq_true g1]
   walk_at "ev"
   by_cases g2 : (full.length : Int) + (w.length : Int) <= wide
   ·rw [decide_eq_true g2]
    walk_at "ev"
    rw [decide_eq_true hc]
    walk_at "ev"
    rw [Zu hu (X.use.val c hc)]
    walk_at "ev"
    rw [Wt hu (by have := X.use.len; omega)]
    walk_at "ev"
    have U := X.use.put hc hcn
    exact ⟨side ++ [c], full ++ w, _, _, _, _, _, _, rfl, List.getElem?_set_self (List.getElem?_eq_some_iff.mp hu).1, Keep.set, ⟨hf1, fun d hd => by
     rcases List.mem_append.mp hd with h | h
     ·exact X.lets d h
     ·rw [List.mem_singleton.mp h]; exact .inl hc, by rw [<- List.append_assoc]; exact U⟩, by rw [List.length_append, List.length_singleton]; omega, by rw [List.length_append]; omega⟩
   ·rw [decide_eq_false g2]
    walk_at "ev"
    exact ⟨side, full, kvs, _, _, _, _, _, rfl, hu, Keep.refl, X, h1, h2⟩
  ·rw [decide_eq_false g1]
   walk_at "ev"
   exact ⟨side, full, kvs, _, _, _, _, _, rfl, hu, Keep.refl, X, h1, h2⟩
 ·have hcn : c ∉ N := fun z => YaO (D.up c z) (D.low c hc)
  have hf1 : fillL N (wordOf N W) (side ++ [c]) = full ++ [c] := by rw [Zl, X.fill, Wd, if_neg hcn]
  rw [decide_eq_false hcn]
  walk_at "ev"
  by_cases g1 : (side.length : Int) < most
  ·rw [decide_eq_true g1]
   walk_at "ev"
   by_cases g2 : (full.length : Int) + 1 <= wide
   ·rw [decide_eq_true g2]
    walk_at "ev"
    rw [decide_eq_false hcn]
    walk_at "ev"
    have U := X.use.skip hcn
    exact ⟨side ++ [c], full ++ [c], kvs, _, _, _, _, _, rfl, hu, Keep.refl, ⟨hf1, fun d hd => by
     rcases List.mem_append.mp hd with h | h
     ·exact X.lets d h
     ·rw [List.mem_singleton.mp h]; exact .inr (D.low c hc), by rw [<- List.append_assoc]; exact U⟩, by rw [List.length_append, List.length_singleton]; omega, by rw [List.length_append, List.length_singleton]; omega⟩
   ·rw [decide_eq_false g2]
    walk_at "ev"
    exact ⟨side, full, kvs, _, _, _, _, _, rfl, hu, Keep.refl, X, h1, h2⟩
  ·rw [decide_eq_false g1]
   walk_at "ev"
   exact ⟨side, full, kvs, _, _, _, _, _, rfl, hu, Keep.refl, X, h1, h2⟩
theorem Yff {N S : List Nat} {W : List (List Nat)} {L : List Nat} {cs : List Int} {kvs : List (Key × P)} {kl kw ku most wide : Nat} {st : Stor} (D : NW N W S) (hl : st[kl]? = some (.lst (cs.map P.int))) (hw : st[kw]? = some (.lst (W.map tx))) (hu : st[ku]? = some (.dct kvs)) (U : UD kvs N L) (hm : most <= 100) (hwd : wide <= 100) :
 ∃ (side full : List Nat) (kvs' : List (Key × P)) (st' : Stor), YX [.ref kl, tx N, .ref kw, tx S, .ref ku, .int most, .int wide] st = .ok (.tup [tx side, tx full]) st' /\ st'[ku]? = some (.dct kvs') /\ Keep ku st st' /\ Sd N W L side full kvs' /\ side.length <= most /\ full.length <= wide := by
 have hne1 : kl ≠ ku := fun z => by rw [z, hu] at hl; cases hl
 have hne2 : kw ≠ ku := fun z => by rw [z, hu] at hw; cases hw
 unfold YX Z7
 simp only [s_e]
 walk_at "ev"
 rw [ZJ (Yg hl)]
 walk_at "ev"
 rw [List.length_map]
 obtain ⟨ρ', s', e1, side, full, kvs', v9, v10, v11, v12, e2, e3, e4, e5, e6, e7⟩ := Zw (src := srcK kl cs.length) (g := mgName 9) (m := Zj) (N := cs.length) (ρ := [some (.ref kl), some (tx N), some (.ref kw), some (tx S), some (.ref ku), some (.int most), some (.int wide), some (tx []), some (tx []), none, none, none, none]) (st := st) cs P.int
  (fun i ρ s => ∃ (side full : List Nat) (kvs' : List (Key × P)) (v9 v10 v11 v12 : Option P), ρ = [some (.ref kl), some (tx N), some (.ref kw), some (tx S), some (.ref ku), some (.int most), some (.int wide), some (tx side), some (tx full), v9, v10, v11, v12] /\ s[ku]? = some (.dct kvs') /\ Keep ku st s /\ Sd N W L side full kvs' /\ side.length <= most /\ full.length <= wide)
  rfl (fun i ρ s hi ⟨_, _, _, _, _, _, _, _, _, q3, _⟩ => nxK (Yg (q3.get hne1 hl))) ⟨[], [], kvs, none, none, none, none, rfl, hu, Keep.refl, ⟨rfl, fun c h => (by cases h), by rw [List.append_nil]; exact U⟩, Nat.zero_le _, Nat.zero_le _⟩
  (fun i hi ρ s ⟨side, full, kvs', v9, v10, v11, v12, q1, q2, q3, q4, q5, q6⟩ => by
   subst q1
   refine ⟨_, rfl, ?_⟩
   obtain ⟨side2, full2, kvs2, a9, a10, a11, a12, s2, z1, z2, z3, z4, z5, z6⟩ := Yea (v0 := some (.ref kl)) (v10 := v10) (v11 := v11) (v12 := v12) (cell := cs[i]) D (Yg (q3.get hne2 hw)) q2 q4 q5 q6 hm hwd
   exact ⟨_, _, z1, side2, full2, kvs2, a9, a10, a11, a12, rfl, z2, q3.trans z3, z4, z5, z6⟩)
 rw [e1, e2]
 walk_at "ev"
 exact ⟨side, full, kvs', s', rfl, e3, e4, e5, e6, e7⟩
theorem Yek {nc : MT} {m : MS} {K : Nat} (I : Nat -> Rho -> Stor -> Prop) (J : Rho -> Stor -> Prop) {ρ : Rho} {st : Stor} (hK : K < 1000000) (h0 : I K ρ st)
 (step : ∀ k ρ st, I k ρ st -> (∃ st1, nc ρ st = .ok false st1 /\ J ρ st1) \/ ∃ st1, nc ρ st = .ok true st1 /\ ∃ ρ' st' k', m ρ st1 = .nx ρ' st' /\ k' < k /\ I k' ρ' st') : ∃ ρ' st', sWhile nc m ρ st = .nx ρ' st' /\ J ρ' st' := by
 have key : ∀ (n k : Nat) ρ st, k < n -> I k ρ st -> ∃ ρ' st', whileN nc m n ρ st = .nx ρ' st' /\ J ρ' st' := by
  intro n
  induction n with
  | zero => intro k ρ st h; omega
  | succ n ih =>
   intro k ρ st hk h
   rcases step k ρ st h with ⟨st1, h1, h2⟩ | ⟨st1, h1, ρ', st', k', h2, h3, h4⟩
   ·exact ⟨ρ, st1, by simp only [whileN, h1, RS.ofE_ok, Bool.false_eq_true, if_false], h2⟩
   ·obtain ⟨ρ2, st2, q1, q2⟩ := ih k' ρ' st' (by omega) h4
    exact ⟨ρ2, st2, by simp only [whileN, h1, RS.ofE_ok, if_true, h2, q1], q2⟩
 exact key turns K ρ st hK h0
theorem Vp {l : List Nat} {i c : Nat} {st : Stor} (h : l[i]? = some c) (hl : l.length <= 1000000) : ixP (tx l) (.int i) st = some (tx [c], st) := by
 have hi : i < l.length := (List.getElem?_eq_some_iff.mp h).1
 obtain ⟨d, h2, h3⟩ := Wv (l := l) (i := i) (st := st) (by omega) (by omega) hl
 rw [Int.toNat_natCast, h] at h2
 cases h2
 exact h3
def Nxt (N : List Nat) (W : List (List Nat)) (full M : List Nat) (a c0 c step : Nat) : Prop := (c = c0 /\ step = 1) \/ (c ∈ N /\ M.count c <= 1 /\ (wordOf N W c).length = step /\ 0 < step /\ (full.drop a).take step = wordOf N W c)
theorem YeE {N S : List Nat} {W : List (List Nat)} {L side full full' : List Nat} {kvs : List (Key × P)} {v0 v10 v11 v12 v13 : Option P} {kw ku a c0 : Nat} {num : Int} {st : Stor} (D : NW N W S) (hw : listAt st kw = some (W.map tx)) (hu : st[ku]? = some (.dct kvs)) (X : Sd N W L side full' kvs) (hfl : full.length <= 100) (ha : a < full.length) :
 ∃ (c step : Nat) (b10 b11 b12 : Option P), forN (srcR 0 N.length) (mgName 10) Ze N.length 0 [v0, some (tx full), some (tx N), some (.ref kw), some (.ref ku), some (tx side), some (.int num), some (.int a), some (tx [c0]), some (.int 1), v10, v11, v12, v13] st = .nx [v0, some (tx full), some (tx N), some (.ref kw), some (.ref ku), some (tx side), some (.int num), some (.int a), some (tx [c]), some (.int step), b10, b11, b12, v13] st /\ Nxt N W full (L ++ side) a c0 c step := by
 have hN4 := D.n4
 have hN0 : 0 < N.length := List.length_pos_iff.mpr D.ne
 refine (Ydn (src := srcR 0 N.length) (g := mgName 10) (m := Ze) N.length (fun i ρ s => ∃ v10 v11 v12, ρ = [v0, some (tx full), some (tx N), some (.ref kw), some (.ref ku), some (tx side), some (.int num), some (.int a), some (tx [c0]), some (.int 1), v10, v11, v12, v13] /\ s = st)
  (fun r => ∃ (c step : Nat) (v10 v11 v12 : Option P), r = .nx [v0, some (tx full), some (tx N), some (.ref kw), some (.ref ku), some (tx side), some (.int num), some (.int a), some (tx [c]), some (.int step), v10, v11, v12, v13] st /\ Nxt N W full (L ++ side) a c0 c step)
  (fun i ρ s hi ⟨v10, v11, v12, q1, q2⟩ => ?_) (fun ρ s ⟨v10, v11, v12, q1, q2⟩ => ⟨by simp only [Ww, if_neg (Nat.lt_irrefl _)], c0, 1, v10, v11, v12, by rw [q1, q2]; rfl, .inl ⟨rfl, rfl⟩⟩) N.length 0 _ st (by omega) ⟨v10, v11, v12, rfl, rfl⟩)
 subst q1; subst q2
 refine ⟨.int (0 + i), _, by simp only [Ww, if_pos hi], rfl, ?_⟩
 unfold Ze
 simp only [s_e]
 walk_at "ev"
 obtain ⟨c, c1, c2⟩ := Wv (l := N) (st := s) (i := (num / 9 + (0 + (i : Int))) % (N.length : Int)) (Int.emod_nonneg _ (by omega)) (Int.emod_lt_of_pos _ (by omega)) (by omega)
 have hc := List.mem_of_getElem? c1
 rw [c2]
 walk_at "ev"
 rw [Ybm hc]
 walk_at "ev"
 rw [D.at hw hc]
 walk_at "ev"
 have hwl := D.w9 _ (D.word hc)
 have hx2 := X.use.two c hc
 generalize hww : wordOf N W c = w at hwl
 by_cases g1 : (2 : Int) < num % 9
 ·rw [decide_eq_true g1]
  walk_at "ev"
  rw [Zu hu (X.use.val c hc)]
  walk_at "ev"
  by_cases g2 : (0 : Int) < 2 - ((L ++ side).count c : Nat)
  ·rw [decide_eq_true g2]
   walk_at "ev"
   by_cases g3 : w = []
   ·rw [decide_eq_true g3]
    walk_at "ev"
    exact ⟨_, _, _, rfl, trivial⟩
   ·rw [decide_eq_false g3]
    walk_at "ev"
    have hm := YeO (l := full) (a := a) (b := a + w.length) (st := s) (by omega) (by omega)
    rw [Int.natCast_add, Nat.add_sub_cancel_left] at hm
    rw [hm]
    walk_at "ev"
    by_cases g4 : (full.drop a).take w.length = w
    ·rw [decide_eq_true g4]
     walk_at "ev"
     refine ⟨c, w.length, _, _, _, rfl, .inr ⟨hc, by omega, by rw [hww], List.length_pos_iff.mpr g3, by rw [hww]; exact g4⟩⟩
    ·rw [decide_eq_false g4]
     walk_at "ev"
     exact ⟨_, _, _, rfl, trivial⟩
  ·rw [decide_eq_false g2]
   walk_at "ev"
   exact ⟨_, _, _, rfl, trivial⟩
 ·rw [decide_eq_false g1]
  walk_at "ev"
  exact ⟨_, _, _, rfl, trivial⟩
theorem YfG {N S : List Nat} {W : List (List Nat)} {L side full : List Nat} {kvs : List (Key × P)} {v0 v8 v9 v10 v11 v12 v13 : Option P} {kw ku a : Nat} {num : Int} {st : Stor} (D : NW N W S) (hw : listAt st kw = some (W.map tx)) (hu : st[ku]? = some (.dct kvs)) (X : Sd N W L side (full.take a) kvs) (hfl : full.length <= 100) (hlow : ∀ c ∈ full, isLow c = true) (ha : a < full.length) (hs : side.length <= a) (hn : 0 <= num /\ num < 2147483648) :
 ∃ (side' : List Nat) (a' : Nat) (num' : Int) (kvs' : List (Key × P)) (b8 b9 b10 b11 b12 : Option P) (st' : Stor), Zg [v0, some (tx full), some (tx N), some (.ref kw), some (.ref ku), some (tx side), some (.int num), some (.int a), v8, v9, v10, v11, v12, v13] st = .nx [v0, some (tx full), some (tx N), some (.ref kw), some (.ref ku), some (tx side'), some (.int num'), some (.int a'), b8, b9, b10, b11, b12, v13] st' /\ st'[ku]? = some (.dct kvs') /\ Keep ku st st' /\ Sd N W L side' (full.take a') kvs' /\ side'.length <= a' /\ a < a' /\ a' <= full.length /\ 0 <= num' /\ num' < 2147483648 := by
 have hN4 := D.n4
 unfold Zg
 generalize hF : (sFor (iRange (aCons (eB lenP (aCons (eVar 2) aNil)) aNil)) (mgName 10) Ze) = FOR
 walk_at "ev"
 have hn2 : 0 <= (num * num + 48271 * num + (a : Int)) % 2147483629 /\ (num * num + 48271 * num + (a : Int)) % 2147483629 < 2147483648 := by omega
 generalize (num * num + 48271 * num + (a : Int)) % 2147483629 = num2 at hn2 ⊢
 have hc0 : full[a]? = some full[a] := List.getElem?_eq_getElem ha
 have hl0 := hlow _ (List.getElem_mem ha)
 generalize full[a] = c0 at hc0 hl0
 rw [Vp hc0 (by omega)]
 walk_at "ev"
 rw [<- hF]
 walk_at "ev"
 rw [Int.toNat_natCast]
 obtain ⟨c, step, a10, a11, a12, z1, z2⟩ := YeE (v0 := v0) (v10 := v10) (v11 := v11) (v12 := v12) (v13 := v13) (num := num2) (c0 := c0) D hw hu X hfl ha
 rw [z1]
 walk_at "ev"
 have hdrop : full.drop a = c0 :: full.drop (a + 1) := by
  rw [List.drop_eq_getElem_cons ha]
  congr 1
  rw [List.getElem?_eq_getElem ha] at hc0
  exact Option.some.inj hc0
 rcases z2 with ⟨rfl, rfl⟩ | ⟨hc, hcn, hst, hst0, htk⟩
 ·have hcn : c ∉ N := fun z => YaO (D.up c z) hl0
  rw [decide_eq_false hcn]
  walk_at "ev"
  have U := X.use.skip hcn
  refine ⟨side ++ [c], a + 1, num2, kvs, _, _, _, _, _, _, rfl, hu, Keep.refl, ⟨?_, fun d hd => ?_, by rw [<- List.append_assoc]; exact U⟩, by rw [List.length_append, List.length_singleton]; omega, by omega, by omega, hn2.1, hn2.2⟩
  ·rw [Zl, X.fill, Wd, if_neg hcn]
   exact YaL (x := [c]) (by rw [hdrop]; rfl)
  ·rcases List.mem_append.mp hd with h | h
   ·exact X.lets d h
   ·rw [List.mem_singleton.mp h]; exact .inr hl0
 ·rw [decide_eq_true hc]
  walk_at "ev"
  rw [Zu hu (X.use.val c hc)]
  walk_at "ev"
  rw [Wt hu (by have := X.use.len; omega)]
  walk_at "ev"
  have U := X.use.put hc hcn
  have hlen : step <= full.length - a := by
   have h1 := congrArg List.length htk
   rw [List.length_take, List.length_drop, hst] at h1
   omega
  refine ⟨side ++ [c], a + step, num2, _, _, _, _, _, _, _, rfl, List.getElem?_set_self (List.getElem?_eq_some_iff.mp hu).1, Keep.set, ⟨?_, fun d hd => ?_, by rw [<- List.append_assoc]; exact U⟩, by rw [List.length_append, List.length_singleton]; omega, by omega, by omega, hn2.1, hn2.2⟩
  ·rw [Zl, X.fill, Wd, if_pos hc]
   rw [<- hst]
   exact YaL (by rw [hst]; exact htk)
  ·rcases List.mem_append.mp hd with h | h
   ·exact X.lets d h
   ·rw [List.mem_singleton.mp h]; exact .inl hc
theorem YgY {N S : List Nat} {W : List (List Nat)} (D : NW N W S) {i : Nat} (hi : i < N.length) : wordOf N W N[i] = W.getD i [] := by
 unfold wordOf
 rw [List.Nodup.idxOf_getElem D.nd i hi]
theorem Yeb (l : List Nat) (p c n : Nat) : (l.take p ++ [c] ++ l.drop p).count n = (l ++ [c]).count n := by
 have : l.count n = (l.take p).count n + (l.drop p).count n := by rw [<- List.count_append, List.take_append_drop]
 rw [List.count_append, List.count_append, List.count_append, this]
 omega
theorem Yg9 {N S : List Nat} {W : List (List Nat)} {L side full : List Nat} {kvs : List (Key × P)} {v0 v1 v7 v8 v9 v11 v12 v13 : Option P} {kw ku i : Nat} {num : Int} {st : Stor} (D : NW N W S) (hw : listAt st kw = some (W.map tx)) (hu : st[ku]? = some (.dct kvs)) (X : Sd N W L side full kvs) (hi : i < N.length) (hs : side.length <= 200) :
 ∃ (side' : List Nat) (kvs' : List (Key × P)) (b13 : Option P) (st' : Stor), Zf [v0, v1, some (tx N), some (.ref kw), some (.ref ku), some (tx side), some (.int num), v7, v8, v9, some (.int (0 + (i : Int))), v11, v12, v13] st = .nx [v0, v1, some (tx N), some (.ref kw), some (.ref ku), some (tx side'), some (.int num), v7, v8, v9, some (.int (0 + (i : Int))), v11, v12, b13] st' /\ st'[ku]? = some (.dct kvs') /\ Keep ku st st' /\ Sd N W L side' full kvs' /\ side'.length <= side.length + 1 := by
 have hN4 := D.n4
 have hiW : i < W.length := by rw [<- D.len]; exact hi
 unfold Zf
 simp only [s_e, Int.zero_add]
 walk_at "ev"
 have e1 : ixP (.ref kw) (.int (i : Int)) st = some (tx (W.getD i []), st) := Yar hw (by omega) (by rw [Int.toNat_natCast, List.getElem?_map, List.getD_eq_getElem?_getD, List.getElem?_eq_getElem hiW]; rfl)
 have e2 : ixP (tx N) (.int (i : Int)) st = some (tx [N[i]], st) := Vp (List.getElem?_eq_getElem hi) (by omega)
 have hwe := YgY D hi
 have hc : N[i] ∈ N := List.getElem_mem hi
 generalize N[i] = c at e2 hwe hc
 rw [e1]
 walk_at "ev"
 by_cases g1 : W.getD i [] = []
 ·rw [decide_eq_true g1]
  walk_at "ev"
  rw [e2]
  walk_at "ev"
  rw [Zu hu (X.use.val c hc)]
  walk_at "ev"
  by_cases g2 : (0 : Int) < 2 - ((L ++ side).count c : Nat)
  ·rw [decide_eq_true g2]
   walk_at "ev"
   by_cases g3 : (0 : Int) < num / 11 % 3
   ·rw [decide_eq_true g3]
    walk_at "ev"
    obtain ⟨p, hp, hp2⟩ : ∃ p : Nat, num / 33 % ((side.length : Int) + 1) = (p : Int) /\ p <= side.length := ⟨(num / 33 % ((side.length : Int) + 1)).toNat, by
     have := Int.emod_nonneg (num / 33) (show ((side.length : Int) + 1) ≠ 0 by omega)
     omega, by
     have h1 := Int.emod_nonneg (num / 33) (show ((side.length : Int) + 1) ≠ 0 by omega)
     have h2 := Int.emod_lt_of_pos (num / 33) (show (0 : Int) < (side.length : Int) + 1 by omega)
     omega⟩
    rw [hp]
    have hlt : (side.take p).length <= 200 /\ (side.drop p).length <= 200 := by rw [List.length_take, List.length_drop]; omega
    walk_at "ev"
    simp only [e2]
    walk_at "ev"
    simp only [e2, Zu hu (X.use.val c hc)]
    walk_at "ev"
    simp only [e2, Zu hu (X.use.val c hc)]
    walk_at "ev"
    rw [e2]
    walk_at "ev"
    rw [Wt hu (by have := X.use.len; omega)]
    walk_at "ev"
    have U := X.use.put hc (by omega)
    refine ⟨side.take p ++ [c] ++ side.drop p, _, _, _, rfl, List.getElem?_set_self (List.getElem?_eq_some_iff.mp hu).1, Keep.set, ⟨?_, fun d hd => ?_, U.same fun n hn => ?_⟩, by rw [List.length_append, List.length_append, List.length_take, List.length_drop, List.length_singleton]; omega⟩
    ·rw [Yfr hc (by rw [hwe]; exact g1)]; exact X.fill
    ·simp only [List.mem_append, List.mem_singleton] at hd
     rcases hd with (h | h) | h
     ·exact X.lets d (List.mem_of_mem_take h)
     ·rw [h]; exact .inl hc
     ·exact X.lets d (List.mem_of_mem_drop h)
    ·rw [List.count_append, Yeb, List.append_assoc, List.count_append, List.count_append, List.count_append]
   ·rw [decide_eq_false g3]
    walk_at "ev"
    exact ⟨side, kvs, _, _, rfl, hu, Keep.refl, X, by omega⟩
  ·rw [decide_eq_false g2]
   walk_at "ev"
   exact ⟨side, kvs, _, _, rfl, hu, Keep.refl, X, by omega⟩
 ·rw [decide_eq_false g1]
  walk_at "ev"
  exact ⟨side, kvs, _, _, rfl, hu, Keep.refl, X, by omega⟩
theorem YgZ {N S : List Nat} {W : List (List Nat)} {L full : List Nat} {kvs : List (Key × P)} {kw ku : Nat} {cell : Int} {st : Stor} (D : NW N W S) (hw : st[kw]? = some (.lst (W.map tx))) (hu : st[ku]? = some (.dct kvs)) (U : UD kvs N L) (hfl : full.length <= 100) (hlow : ∀ c ∈ full, isLow c = true) :
 ∃ (side : List Nat) (kvs' : List (Key × P)) (st' : Stor), Y9 [.int cell, tx full, tx N, .ref kw, .ref ku] st = .ok (tx side) st' /\ st'[ku]? = some (.dct kvs') /\ Keep ku st st' /\ Sd N W L side full kvs' /\ side.length <= 110 := by
 have hN4 := D.n4
 have hne2 : kw ≠ ku := fun z => by rw [z, hu] at hw; cases hw
 unfold Y9 WO
 simp only [s_e]
 generalize hW : (sWhile (eTst (eBin ltP (eVar 7) (eB lenP (aCons (eVar 1) aNil)))) Zg) = WH
 generalize hR : (sSeq (sFor (iRange (aCons (eB lenP (aCons (eVar 2) aNil)) aNil)) (mgName 10) Zf) (sRet (eVar 5))) = REST
 walk_at "ev"
 have hnum : 0 <= cell * 69621 % 2147483647 /\ cell * 69621 % 2147483647 < 2147483648 := by omega
 generalize cell * 69621 % 2147483647 = num at hnum ⊢
 rw [<- hW]
 obtain ⟨ρ', s1, w1, side, num', kvs', v7, v8, v9, v10, v11, v12, w2, w3, w4, w5, w6⟩ := Yek (nc := eTst (eBin ltP (eVar 7) (eB lenP (aCons (eVar 1) aNil)))) (m := Zg) (K := full.length)
  (fun k ρ s => ∃ (side : List Nat) (a : Nat) (num : Int) (kvs' : List (Key × P)) (v8 v9 v10 v11 v12 : Option P), k = full.length - a /\ a <= full.length /\ ρ = [some (.int cell), some (tx full), some (tx N), some (.ref kw), some (.ref ku), some (tx side), some (.int num), some (.int a), v8, v9, v10, v11, v12, none] /\ s[ku]? = some (.dct kvs') /\ Keep ku st s /\ Sd N W L side (full.take a) kvs' /\ side.length <= a /\ 0 <= num /\ num < 2147483648)
  (fun ρ s => ∃ (side : List Nat) (num : Int) (kvs' : List (Key × P)) (v7 v8 v9 v10 v11 v12 : Option P), ρ = [some (.int cell), some (tx full), some (tx N), some (.ref kw), some (.ref ku), some (tx side), some (.int num), v7, v8, v9, v10, v11, v12, none] /\ s[ku]? = some (.dct kvs') /\ Keep ku st s /\ Sd N W L side full kvs' /\ side.length <= full.length)
  (ρ := [some (.int cell), some (tx full), some (tx N), some (.ref kw), some (.ref ku), some (tx []), some (.int num), some (.int 0), none, none, none, none, none, none]) (st := st) (by omega)
  ⟨[], 0, num, kvs, none, none, none, none, none, rfl, Nat.zero_le _, rfl, hu, Keep.refl, ⟨rfl, fun c h => (by cases h), by rw [List.append_nil]; exact U⟩, Nat.zero_le _, hnum.1, hnum.2⟩
  (fun k ρ s ⟨side, a, num, kvs', v8, v9, v10, v11, v12, q0, qa, q1, q2, q3, q4, q5, q6, q7⟩ => by
   subst q1
   by_cases hlt : a < full.length
   ·right
    obtain ⟨side2, a2, num2, kvs2, b8, b9, b10, b11, b12, s2, z1, z2, z3, z4, z5, z6, z7, z8, z9⟩ := YfG (v0 := some (.int cell)) (v8 := v8) (v9 := v9) (v10 := v10) (v11 := v11) (v12 := v12) (v13 := none) D (Yg (q3.get hne2 hw)) q2 q4 hfl hlow hlt q5 ⟨q6, q7⟩
    refine ⟨s, ?_, _, _, full.length - a2, z1, by omega, side2, a2, num2, kvs2, b8, b9, b10, b11, b12, rfl, z7, rfl, z2, q3.trans z3, z4, z5, z8, z9⟩
    walk_at "ev"
    rw [decide_eq_true (by omega)]
   ·left
    have hea : a = full.length := by omega
    subst hea
    rw [List.take_length] at q4
    refine ⟨s, ?_, side, num, kvs', _, v8, v9, v10, v11, v12, rfl, q2, q3, q4, q5⟩
    walk_at "ev"
    rw [decide_eq_false (by omega)])
 rw [w1, w2]
 walk_at "ev"
 rw [<- hR]
 walk_at "ev"
 rw [Int.toNat_natCast]
 obtain ⟨ρ2, s2, e1, side2, kvs2, a10, a13, e2, e3, e4, e5, e6⟩ := Zw (src := srcR 0 N.length) (g := mgName 10) (m := Zf) (N := N.length) (ρ := [some (.int cell), some (tx full), some (tx N), some (.ref kw), some (.ref ku), some (tx side), some (.int num'), v7, v8, v9, v10, v11, v12, none]) (st := s1) (List.range N.length) (fun (k : Nat) => P.int (0 + k))
  (fun i ρ s => ∃ (side2 : List Nat) (kvs2 : List (Key × P)) (a10 a13 : Option P), ρ = [some (.int cell), some (tx full), some (tx N), some (.ref kw), some (.ref ku), some (tx side2), some (.int num'), v7, v8, v9, a10, v11, v12, a13] /\ s[ku]? = some (.dct kvs2) /\ Keep ku st s /\ Sd N W L side2 full kvs2 /\ side2.length <= full.length + i)
  (by simp) (fun i ρ s hi _ => nxR) ⟨side, kvs', v10, none, rfl, w3, w4, w5, by omega⟩
  (fun i hi ρ s ⟨side, kvs', a10, a13, q1, q2, q3, q4, q5⟩ => by
   subst q1
   have hi' : i < N.length := by simpa using hi
   have ei : (List.range N.length)[i] = i := by simp
   rw [ei]
   refine ⟨_, rfl, ?_⟩
   obtain ⟨side3, kvs3, b13, s3, z1, z2, z3, z4, z5⟩ := Yg9 (v0 := some (.int cell)) (v1 := some (tx full)) (v7 := v7) (v8 := v8) (v9 := v9) (v11 := v11) (v12 := v12) (v13 := a13) (num := num') D (Yg (q3.get hne2 hw)) q2 q4 hi' (by omega)
   exact ⟨_, _, z1, side3, kvs3, _, b13, rfl, z2, q3.trans z3, z4, by omega⟩)
 rw [e1, e2]
 walk_at "ev"
 rw [List.length_range] at e6
 exact ⟨side2, kvs2, s2, rfl, e3, e4, e5, by omega⟩
theorem YfQ (cs : List Int) : intsP (cs.map P.int) = some cs := by
 induction cs with
 | nil => rfl
 | cons a r ih => show (intsP (r.map P.int)).map (a :: ·) = _; rw [ih]; rfl
theorem YiV {k : Nat} {cs : List Int} {st : Stor} (h : st[k]? = some (.lst (cs.map P.int))) : sumP [.ref k] st = some (.int cs.sum, st) := by
 show sumL k st = _
 unfold sumL
 rw [Yg h]
 dsimp only
 rw [YfQ]
 rfl
structure Sy (N : List Nat) (W : List (List Nat)) (tb : Sys) (kvs : List (Key × P)) : Prop where
 fill : ∀ e ∈ tb, fillL N (wordOf N W) e.1 = fillL N (wordOf N W) e.2
 lets : ∀ c ∈ allL tb, c ∈ N \/ isLow c = true
 use : UD kvs N (allL tb)
 each : ∀ e ∈ tb, e.1.length + e.2.length <= 300
theorem YaE (tb : Sys) (e : List Nat × List Nat) : allL (tb ++ [e]) = allL tb ++ (e.1 ++ e.2) := by unfold allL; rw [List.flatMap_append]; simp
theorem Sy.more {N S : List Nat} {W : List (List Nat)} {tb : Sys} {k0 k1 k2 : List (Key × P)} {a b full : List Nat} {e : List Nat × List Nat} (D : NW N W S) (Y : Sy N W tb k0) (X : Sd N W (allL tb) a full k1) (Z : Sd N W (allL tb ++ a) b full k2) (ha : a.length <= 100) (hb : b.length <= 110) (he : e ∈ [(a, b), (b, a)]) : Sy N W (tb ++ [e]) k2 := by
 have hlab : ∀ c, c ∈ a \/ c ∈ b -> c ∈ N \/ isLow c = true := fun c hc => hc.elim (X.lets c) (Z.lets c)
 simp only [List.mem_cons, List.not_mem_nil, or_false] at he
 refine ⟨fun d hd => ?_, fun c hc => ?_, Z.use.same fun n _ => ?_, fun d hd => ?_⟩
 ·rcases List.mem_append.mp hd with h | h
  ·exact Y.fill d h
  ·rw [List.mem_singleton.mp h]
   rcases he with rfl | rfl
   ·exact X.fill.trans Z.fill.symm
   ·exact Z.fill.trans X.fill.symm
 ·rw [YaE] at hc
  rcases List.mem_append.mp hc with h | h
  ·exact Y.lets c h
  ·rcases he with rfl | rfl
   ·exact hlab c (List.mem_append.mp h)
   ·exact hlab c (List.mem_append.mp h).symm
 ·rw [YaE]
  rcases he with rfl | rfl
  ·rw [List.append_assoc]
  ·simp only [List.count_append]; omega
 ·rcases List.mem_append.mp hd with h | h
  ·exact Y.each d h
  ·rw [List.mem_singleton.mp h]
   rcases he with rfl | rfl
   ·show a.length + b.length <= 300; omega
   ·show b.length + a.length <= 300; omega
theorem YfD {N S : List Nat} {W : List (List Nat)} (D : NW N W S) {l : List Nat} (h : ∀ c ∈ l, c ∈ N \/ isLow c = true) : ∀ c ∈ fillL N (wordOf N W) l, isLow c = true := fun c hc => by
 unfold fillL at hc
 obtain ⟨d, hd, hc⟩ := List.mem_flatMap.mp hc
 by_cases q : d ∈ N
 ·rw [if_pos q] at hc
  exact D.wl _ (D.word q) c hc
 ·rw [if_neg q, List.mem_singleton] at hc
  rw [hc]
  exact (h d hd).resolve_left q
theorem Yac {N S : List Nat} {W : List (List Nat)} {tb : Sys} {ns cs : List Int} {kvs : List (Key × P)} {v1 v6 v11 v12 v13 v14 v15 v16 v17 : Option P} {k0 kw ku kc k9 m i : Nat} {st : Stor} (D : NW N W S) (h0 : st[k0]? = some (.ro (ns.map P.int))) (hw : st[kw]? = some (.lst (W.map tx))) (hu : st[ku]? = some (.dct kvs)) (hc : st[kc]? = some (.lst (cs.map P.int))) (h9 : st[k9]? = some (.lst (tb.map encEq))) (Y : Sy N W tb kvs) (hm : 1 <= m) (hm3 : m <= 3) (hi : i < m) (hcs : cs.length <= 100) (htb : tb.length <= 3) (n5 : kw ≠ k9) (n6 : kc ≠ k9) :
 ∃ (e : List Nat × List Nat) (kvs' : List (Key × P)) (b11 b12 b13 b14 b15 : Option P) (st' : Stor), YM [some (.ref k0), v1, some (tx S), some (tx N), some (.ref kw), some (.ref ku), v6, some (.int m), some (.ref kc), some (.ref k9), some (.int (0 + (i : Int))), v11, v12, v13, v14, v15, v16, v17] st = .nx [some (.ref k0), v1, some (tx S), some (tx N), some (.ref kw), some (.ref ku), v6, some (.int m), some (.ref kc), some (.ref k9), some (.int (0 + (i : Int))), b11, b12, b13, b14, b15, v16, v17] st' /\ st'[k0]? = some (.ro (ns.map P.int)) /\ st'[kw]? = some (.lst (W.map tx)) /\ st'[ku]? = some (.dct kvs') /\ st'[kc]? = some (.lst (cs.map P.int)) /\ st'[k9]? = some (.lst ((tb ++ [e]).map encEq)) /\ Sy N W (tb ++ [e]) kvs' := by
 have n1 : k0 ≠ ku := fun z => by rw [z, hu] at h0; cases h0
 have n2 : kw ≠ ku := fun z => by rw [z, hu] at hw; cases hw
 have n3 : kc ≠ ku := fun z => by rw [z, hu] at hc; cases hc
 have n4 : k9 ≠ ku := fun z => by rw [z, hu] at h9; cases h9
 have n7 : k0 ≠ k9 := fun z => by rw [z, h9] at h0; cases h0
 unfold YM
 walk_at "ev"
 simp only [Wo hc, List.length_map]
 walk_at "ev"
 obtain ⟨a, b, ha, hb, hab⟩ : ∃ a b : Nat, (0 + (i : Int)) * (cs.length : Int) / (m : Int) = (a : Int) /\ (0 + (i : Int) + 1) * (cs.length : Int) / (m : Int) = (b : Int) /\ a <= b :=
  ⟨i * cs.length / m, (i + 1) * cs.length / m, by rw [Int.natCast_ediv, Int.natCast_mul, Int.zero_add], by rw [Int.natCast_ediv, Int.natCast_mul, Int.zero_add, Int.natCast_add]; rfl, Nat.div_le_div_right (Nat.mul_le_mul_right _ (by omega))⟩
 rw [ha]
 simp only [Wo hc, List.length_map]
 walk_at "ev"
 rw [hb, Yf3 hc (by rw [List.length_map]; omega), Ydd hab]
 walk_at "ev"
 generalize (cs.drop a).take (b - a) = sm
 generalize hT1 : st ++ [O.lst (sm.map P.int)] = T1
 have g1 : Grow st T1 := by rw [<- hT1]; exact Grow.one
 have kS : T1[st.length]? = some (.lst (sm.map P.int)) := by rw [<- hT1]; exact Yo
 have n8 : st.length ≠ ku := fun z => by have := (List.getElem?_eq_some_iff.mp hu).1; omega
 generalize st.length = kS' at kS n8 ⊢
 obtain ⟨most, hmost, hm12⟩ : ∃ p : Nat, ([P.int 12, P.int 6, P.int 4] : List P)[((m : Int) - 1).toNat]? = some (.int (p : Int)) /\ p <= 12 := by
  have : m = 1 \/ m = 2 \/ m = 3 := by omega
  rcases this with rfl | rfl | rfl
  ·exact ⟨12, rfl, by omega⟩
  ·exact ⟨6, rfl, by omega⟩
  ·exact ⟨4, rfl, by omega⟩
 obtain ⟨wide, hwide, hw20⟩ : ∃ p : Nat, ([P.int 20, P.int 9, P.int 6] : List P)[((m : Int) - 1).toNat]? = some (.int (p : Int)) /\ p <= 20 := by
  have : m = 1 \/ m = 2 \/ m = 3 := by omega
  rcases this with rfl | rfl | rfl
  ·exact ⟨20, rfl, by omega⟩
  ·exact ⟨9, rfl, by omega⟩
  ·exact ⟨6, rfl, by omega⟩
 rw [Zp (st := T1 ++ [O.lst [P.int 12, P.int 6, P.int 4]]) Yo (by omega) hmost]
 walk_at "ev"
 generalize hT2 : T1 ++ [O.lst [P.int 12, P.int 6, P.int 4]] = T2
 have g2 : Grow T1 T2 := by rw [<- hT2]; exact Grow.one
 rw [Zp (st := T2 ++ [O.lst [P.int 20, P.int 9, P.int 6]]) Yo (by omega) hwide]
 walk_at "ev"
 generalize hT3 : T2 ++ [O.lst [P.int 20, P.int 9, P.int 6]] = T3
 have g3 : Grow st T3 := (g1.trans g2).trans (by rw [<- hT3]; exact Grow.one)
 have kS3 : T3[kS']? = some (.lst (sm.map P.int)) := by rw [<- hT3]; exact Grow.one.get (g2.get kS)
 obtain ⟨side, full, kv1, s4, t4, u4, p4, X, l4, f4⟩ := Yff (most := most) (wide := wide) D kS3 (g3.get hw) (g3.get hu) Y.use (by omega) (by omega)
 rw [t4]
 walk_at "ev"
 have h0' := p4.get n1 (g3.get h0)
 have c1 : Yd [.ref k0, .int 1] s4 = .ok (.int (ns.getD 1 0)) s4 := Wx 1 h0'
 rw [c1]
 walk_at "ev"
 rw [YiV (p4.get n8 kS3)]
 walk_at "ev"
 generalize ns.getD 1 0 / 3 + 17 * (0 + (i : Int)) + sm.sum % 1000003 = cell
 obtain ⟨right, kv2, s5, t5, u5, p5, Z, l5⟩ := YgZ (cell := cell) (full := full) D (p4.get n2 (g3.get hw)) u4 X.use (by omega) (by rw [<- X.fill]; exact YfD D X.lets)
 rw [t5]
 walk_at "ev"
 have h95 := p5.get n4 (p4.get n4 (g3.get h9))
 rw [Ybk h95]
 walk_at "ev"
 generalize hT6 : s5 ++ [O.lst [P.tup [tx side, tx right], P.tup [tx right, tx side]]] = T6
 have g6 : Grow s5 T6 := by rw [<- hT6]; exact Grow.one
 have c2 : Yd [.ref k0, .int 1] T6 = .ok (.int (ns.getD 1 0)) T6 := Wx 1 (g6.get (p5.get n1 h0'))
 rw [c2]
 walk_at "ev"
 obtain ⟨e, he, ee⟩ := Ji (st := T6) (k := s5.length) (xs := [(side, right), (right, side)]) (f := encEq) (i := ns.getD 1 0 / (3 + (0 + (i : Int))) % 2) (by rw [<- hT6]; exact Yo) (by omega) (by simp; omega)
 rw [ee]
 walk_at "ev"
 have h96 := g6.get h95
 rw [YbK h96 (by rw [List.length_map]; omega)]
 walk_at "ev"
 have st6 : ∀ {k : Nat} {o : O}, k ≠ k9 -> k ≠ ku -> T3[k]? = some o -> (T6.set k9 (.lst (tb.map encEq ++ [encEq e])))[k]? = some o := fun {k o} h1 h2 h3 => Keep.set.get h1 (g6.get (p5.get h2 (p4.get h2 h3)))
 exact ⟨e, kv2, _, _, _, _, _, _, rfl, st6 n7 n1 (g3.get h0), st6 n5 n2 (g3.get hw), Keep.set.get n4.symm (g6.get u5), st6 n6 n3 (g3.get hc), by rw [List.getElem?_set_self (List.getElem?_eq_some_iff.mp h96).1, List.map_append]; rfl, Y.more D X Z (by omega) (by omega) he⟩
theorem Ya7 {n : Nat} : ∀ {tb : Sys}, (∀ e ∈ tb, e.1.length + e.2.length <= n) -> (allL tb).length <= n * tb.length
 | [], _ => Nat.zero_le _
 | e :: r, h => by
  have h1 := h e (List.mem_cons_self ..)
  have h2 := Ya7 (tb := r) fun d hd => h d (List.mem_cons_of_mem _ hd)
  have h3 : allL (e :: r) = (e.1 ++ e.2) ++ allL r := by unfold allL; rw [List.flatMap_cons]
  rw [h3, List.length_append, List.length_append, List.length_cons, Nat.mul_succ]
  omega
theorem s_1a : P.str "a" = tx [97] := congrArg P.str (by decide +kernel)
theorem s_ab : P.str "ab" = tx [97, 98] := congrArg P.str (by decide +kernel)
theorem s_qz : P.str "qz" = tx [113, 122] := congrArg P.str (by decide +kernel)
theorem Yjv : P.str "abc" = tx [97, 98, 99] := congrArg P.str (by decide +kernel)
theorem Yi3 : P.str "aekz" = tx [97, 101, 107, 122] := congrArg P.str (by decide +kernel)
theorem Ybb {ns : List Int} {k0 : Nat} {st : Stor} (h0 : st[k0]? = some (.ro (ns.map P.int))) (hns : ns.length <= 100) :
 ∃ (tb : Sys) (N : List Nat) (W : List (List Nat)) (S : List Nat) (kvs : List (Key × P)) (st' : Stor), Yu [.ref k0] st = .ok (.tup [encSys tb, tx (nsOf tb), .tup ((nsOf tb).map fun c => tx (wordOf N W c))]) st' /\ NW N W S /\ Sy N W tb kvs /\ tb.length <= 3 /\ 1 <= tb.length /\ st'[k0]? = some (.ro (ns.map P.int)) := by
 unfold Yu Zi
 simp only [s_1a, s_ab, s_qz, Yjv, Yi3, s_e, Zo]
 walk_at "ev"
 have c0 : Yd [.ref k0, .int 0] st = .ok (.int (ns.getD 0 0)) st := Wx 0 h0
 rw [c0]
 generalize ns.getD 0 0 = first
 walk_at "ev"
 obtain ⟨S, hS, eS⟩ := Ji (st := st ++ [.lst ([[97], [97, 98], [113, 122], [97, 98, 99], [97, 101, 107, 122]].map tx)]) (k := st.length) (xs := [[97], [97, 98], [113, 122], [97, 98, 99], [97, 101, 107, 122]]) (f := tx) (i := first / 312 % 5) Yo (by omega) (by simp; omega)
 simp only [List.map_cons, List.map_nil] at eS
 rw [eS]
 walk_at "ev"
 have hS2 : ∀ g ∈ ([[97], [97, 98], [113, 122], [97, 98, 99], [97, 101, 107, 122]] : List (List Nat)), g ≠ [] /\ g.length <= 30 /\ ∀ c ∈ g, isLow c = true := by decide
 obtain ⟨S1, S2, S3⟩ := hS2 S hS
 generalize hB1 : st ++ [O.lst [tx [97], tx [97, 98], tx [113, 122], tx [97, 98, 99], tx [97, 101, 107, 122]]] = B1
 have gB1 : Grow st B1 := by rw [<- hB1]; exact Grow.one
 obtain ⟨N, s1, t1, g1, r1, u1, n1, n4⟩ := YeC (cell := first) (st := B1)
 rw [t1]
 walk_at "ev"
 rw [Int.toNat_natCast]
 have k1 := (gB1.trans g1).get h0
 obtain ⟨acc, s2, e1, W, e2, e3, e4, g2⟩ := Wr (src := srcR 0 N.length) (g := mgName 0) (nt := nTrue) (me := eCall 2 YH (aCons (eCall 2 Yd (aCons (eVar 1) (aCons (eBin addP (eC (.int 2)) (eVar 0)) aNil))) (aCons (eVar 2) aNil))) (ρ0 := [none, some (.ref k0), some (tx S)]) (N := N.length)
  (fun i s acc => ∃ W : List (List Nat), acc = W.map tx /\ W.length = i /\ (∀ w ∈ W, w.length <= 9 /\ ∀ c ∈ w, c ∈ S) /\ Grow s1 s) (st := s1) ⟨[], rfl, rfl, fun w h => (by cases h), Grow.refl⟩ (fun i s acc hi ⟨W, e1, e2, e3, g2⟩ => by
   subst e1
   obtain ⟨w, s', z1, z2, z3, z4⟩ := Yfd (cell := ns.getD (2 + i) 0) (st := s) S1 (by omega)
   refine ⟨.int (0 + i), _, by simp only [Ww, if_pos hi], rfl, .inr ⟨s, tx w, s', rfl, ?_, by show _ < 1000000; rw [List.length_map]; omega, W ++ [w], by rw [List.map_append]; rfl, by rw [List.length_append, List.length_singleton, e2], fun u hu => ?_, g2.trans z2⟩⟩
   ·walk_at "ev"
    have c1 : Yd [.ref k0, .int (2 + (0 + (i : Int)))] s = .ok (.int (ns.getD (2 + i) 0)) s := by
     rw [show (2 + (0 + (i : Int))) = ((2 + i : Nat) : Int) by omega]
     exact Wx (2 + i) (g2.get k1)
    rw [c1]
    walk_at "ev"
    rw [z1]
    rfl
   ·rcases List.mem_append.mp hu with h | h
    ·exact e3 u h
    ·rw [List.mem_singleton.mp h]; exact ⟨z3, z4⟩) (fun s acc _ => by simp only [Ww, if_neg (Nat.lt_irrefl _)])
 rw [e1]
 subst e2
 walk_at "ev"
 have D : NW N W S := ⟨u1, VG r1, fun z => by rw [z] at n1; simp at n1, by omega, e3.symm, fun w hw => (e4 w hw).1, S3, fun w hw c hc => S3 c ((e4 w hw).2 c hc), S1, S2⟩
 generalize hB2 : s2 ++ [O.lst (W.map tx)] = B2
 have gB2 : Grow s2 B2 := by rw [<- hB2]; exact Grow.one
 have kW : B2[s2.length]? = some (.lst (W.map tx)) := by rw [<- hB2]; exact Yo
 have k2 : B2[k0]? = some (.ro (ns.map P.int)) := gB2.get (g2.get k1)
 have lW : s2.length < B2.length := (List.getElem?_eq_some_iff.mp kW).1
 generalize s2.length = kw at kW lW ⊢
 obtain ⟨ρ', s3, e1, kvs, v6, e2, e5, e6, e7⟩ := Zw (src := srcS (sT N)) (g := mgName 6) (m := Y8) (N := N.length) (ρ := [some (.ref k0), some (.int first), some (tx S), some (tx N), some (.ref kw), some (.ref B2.length), none, none, none, none, none, none, none, none, none, none, none, none]) (st := B2 ++ [.dct []]) N (fun c => tx [c])
  (fun i ρ s => ∃ (kvs : List (Key × P)) (v6 : Option P), ρ = [some (.ref k0), some (.int first), some (tx S), some (tx N), some (.ref kw), some (.ref B2.length), v6, none, none, none, none, none, none, none, none, none, none, none] /\ s = B2 ++ [.dct kvs] /\ kvs.length <= i /\ ∀ n ∈ N.take i, valP kvs (tkey [n]) = some (.int 2))
  rfl (fun i ρ s hi _ => nxS hi) ⟨[], none, rfl, rfl, Nat.le_refl _, fun n h => by simp at h⟩
  (fun i hi ρ s ⟨kvs, v6, q1, q2, q3, q4⟩ => by
   subst q1; subst q2
   refine ⟨_, rfl, ?_⟩
   unfold Y8
   walk_at "ev"
   rw [Wt Yo (by omega)]
   walk_at "ev"
   refine ⟨_, _, rfl, putP kvs (tkey [N[i]]) (.int 2), _, rfl, ?_, ?_, fun n hn => ?_⟩
   ·rw [List.set_append_right _ _ (Nat.le_refl _), Nat.sub_self]; rfl
   ·rw [YaP]; split <;> omega
   ·rw [Jn]
    by_cases q : N[i] = n
    ·rw [if_pos (by rw [q])]
    ·rw [if_neg (fun z => q (by simpa using tkey_inj.mp z))]
     rw [List.take_add_one, List.getElem?_eq_getElem hi] at hn
     rcases List.mem_append.mp hn with h | h
     ·exact q4 n h
     ·exact absurd (List.mem_singleton.mp h).symm q)
 rw [e1, e2]
 subst e5
 rw [List.take_length] at e7
 walk_at "ev"
 have U : UD kvs N [] := ⟨by omega, fun n hn => by rw [e7 n hn]; rfl, fun n hn => by simp⟩
 generalize hB3 : B2 ++ [O.dct kvs] = B3
 have gB3 : Grow B2 B3 := by rw [<- hB3]; exact Grow.one
 have kU : B3[B2.length]? = some (.dct kvs) := by rw [<- hB3]; exact Yo
 have c1 : Yd [.ref k0, .int 1] B3 = .ok (.int (ns.getD 1 0)) B3 := Wx 1 (gB3.get k2)
 rw [c1]
 generalize B2.length = ku at kU ⊢
 walk_at "ev"
 obtain ⟨m, hm, m1, m3⟩ : ∃ m : Nat, 1 + ns.getD 1 0 % 3 = (m : Int) /\ 1 <= m /\ m <= 3 := ⟨(1 + ns.getD 1 0 % 3).toNat, by omega, by omega, by omega⟩
 rw [hm]
 have hsl := Yjr (a := 6) (b := 66) (gB3.get k2) (by omega) (by omega)
 have hsl' : slP (.ref k0) (some 6) (some 66) B3 = _ := hsl
 rw [hsl']
 generalize hcs : (ns.drop 6).take (66 - 6) = cs
 have hcl : cs.length <= 60 := by rw [<- hcs, List.length_take]; omega
 walk_at "ev"
 rw [Int.toNat_natCast]
 generalize hB4 : B3 ++ [O.lst (cs.map P.int)] = B4
 have gB4 : Grow B3 B4 := by rw [<- hB4]; exact Grow.one
 have kC : B4[B3.length]? = some (.lst (cs.map P.int)) := by rw [<- hB4]; exact Yo
 generalize hB5 : B4 ++ [O.lst []] = B5
 have gB5 : Grow B4 B5 := by rw [<- hB5]; exact Grow.one
 have k9' : B5[B4.length]? = some (.lst (([] : Sys).map encEq)) := by rw [<- hB5]; exact Yo
 have lC := (List.getElem?_eq_some_iff.mp kC).1
 have lW4 := (List.getElem?_eq_some_iff.mp (gB4.get (gB3.get kW))).1
 have n5 : kw ≠ B4.length := by omega
 have n6 : B3.length ≠ B4.length := by omega
 generalize B3.length = kc at kC n6 ⊢
 generalize B4.length = k9 at k9' n5 n6 ⊢
 obtain ⟨ρ', s5, e1, tb, kv5, v10, v11, v12, v13, v14, v15, e2, f1, f2, f3, f4, f5, f6, f7⟩ := Zw (src := srcR 0 m) (g := mgName 10) (m := YM) (N := m) (ρ := [some (.ref k0), some (.int first), some (tx S), some (tx N), some (.ref kw), some (.ref ku), v6, some (.int m), some (.ref kc), some (.ref k9), none, none, none, none, none, none, none, none]) (st := B5) (List.range m) (fun (k : Nat) => P.int (0 + k))
  (fun i ρ s => ∃ (tb : Sys) (kvs : List (Key × P)) (v10 v11 v12 v13 v14 v15 : Option P), ρ = [some (.ref k0), some (.int first), some (tx S), some (tx N), some (.ref kw), some (.ref ku), v6, some (.int m), some (.ref kc), some (.ref k9), v10, v11, v12, v13, v14, v15, none, none] /\ s[k0]? = some (.ro (ns.map P.int)) /\ s[kw]? = some (.lst (W.map tx)) /\ s[ku]? = some (.dct kvs) /\ s[kc]? = some (.lst (cs.map P.int)) /\ s[k9]? = some (.lst (tb.map encEq)) /\ Sy N W tb kvs /\ tb.length = i)
  (by simp) (fun i ρ s hi _ => nxR) ⟨[], kvs, none, none, none, none, none, none, rfl, gB5.get (gB4.get (gB3.get k2)), gB5.get (gB4.get (gB3.get kW)), gB5.get (gB4.get kU), gB5.get kC, k9', ⟨fun e h => (by cases h), fun e h => (by cases h), U, fun e h => (by cases h)⟩, rfl⟩
  (fun i hi ρ s ⟨tb, kvs, v10, v11, v12, v13, v14, v15, q1, f1, f2, f3, f4, f5, f6, f7⟩ => by
   subst q1
   have hi' : i < m := by simpa using hi
   have ei : (List.range m)[i] = i := by simp
   rw [ei]
   refine ⟨_, rfl, ?_⟩
   obtain ⟨e, kvs', a11, a12, a13, a14, a15, s', z1, z2, z3, z4, z5, z6, z7⟩ := Yac (v1 := some (.int first)) (v6 := v6) (v11 := v11) (v12 := v12) (v13 := v13) (v14 := v14) (v15 := v15) (v16 := none) (v17 := none) D f1 f2 f3 f4 f5 f6 m1 m3 hi' (by omega) (by omega) n5 n6
   exact ⟨_, _, z1, tb ++ [e], kvs', _, a11, a12, a13, a14, a15, rfl, z2, z3, z4, z5, z6, z7, by rw [List.length_append, List.length_singleton, f7]⟩)
 rw [e1, e2]
 rw [List.length_range] at f7
 walk_at "ev"
 rw [ZJ (Yg f5)]
 walk_at "ev"
 rw [List.length_map]
 have hal := Ya7 f6.each
 have hal2 : (allL tb).length <= 1000 := by rw [f7] at hal; omega
 rw [Zd (g := mgTup 2 (mgCons (mgName 0) (mgCons (mgName 1) mgNil))) tb encEq (fun e => tx (e.1 ++ e.2)) rfl (fun i hi => nxK (Yg f5)) (by omega) (fun e he => ⟨[some (tx e.1), some (tx e.2)], rfl, by
  have := W8 he
  walk_at "ev"⟩)]
 walk_at "ev"
 rw [show tb.map (fun e => tx (e.1 ++ e.2)) = (tb.map fun e => e.1 ++ e.2).map tx by rw [List.map_map]; rfl, Z2 (by rw [<- List.flatMap_def]; exact Nat.le_trans hal2 (by omega)), <- List.flatMap_def]
 have hfm : (tb.flatMap fun e => e.1 ++ e.2) = allL tb := rfl
 rw [hfm]
 walk_at "ev"
 rw [Int.toNat_natCast]
 have en : ∀ (k : Nat) (st : Stor), k ∈ List.range N.length -> ixP (tx N) (.int (0 + (k : Int))) st = some (tx [N.getD k 0], st) := fun k st hk => by
  have hk' : k < N.length := by simpa using hk
  rw [Int.zero_add, Vp (List.getElem?_eq_getElem hk') (by omega), List.getD_eq_getElem?_getD, List.getElem?_eq_getElem hk']
  rfl
 rw [Wl (g := mgName 0) (List.range N.length) (fun (k : Nat) => P.int (0 + k)) (fun k => decide (N.getD k 0 ∈ allL tb)) (fun (k : Nat) => P.int (0 + k)) (by simp) (fun i hi => nxR) (by rw [List.length_range]; omega) (fun k hk => ⟨[some (.int (0 + k)), some (tx (allL tb)), some (tx N)], rfl, by
  walk_at "ev"
  rw [en k _ hk]
  walk_at "ev", fun _ => rfl⟩)]
 obtain ⟨x1, x2⟩ := JH (N := N) (W := W) (fun c => decide (c ∈ allL tb)) D.nd D.len
 have hsub : ∀ k ∈ (List.range N.length).filter (fun k => decide (N.getD k 0 ∈ allL tb)), k ∈ List.range N.length := fun k hk => (List.mem_filter.mp hk).1
 have hlr : ((List.range N.length).filter (fun k => decide (N.getD k 0 ∈ allL tb))).length <= 26 := Nat.le_trans (List.length_filter_le ..) (by rw [List.length_range]; omega)
 generalize (List.range N.length).filter (fun k => decide (N.getD k 0 ∈ allL tb)) = th at x1 x2 hsub hlr ⊢
 walk_at "ev"
 generalize hB6 : s5 ++ [O.lst (th.map fun (k : Nat) => P.int (0 + k))] = B6
 have gB6 : Grow s5 B6 := by rw [<- hB6]; exact Grow.one
 have kT : B6[s5.length]? = some (.lst (th.map fun (k : Nat) => P.int (0 + k))) := by rw [<- hB6]; exact Yo
 rw [VH (Yg (gB6.get f5))]
 walk_at "ev"
 rw [ZJ (Yg kT)]
 walk_at "ev"
 rw [List.length_map]
 rw [Zd (g := mgName 0) th (fun (k : Nat) => P.int (0 + k)) (fun k => tx [N.getD k 0]) rfl (fun i hi => nxK (Yg kT)) (by omega) (fun k hk => ⟨[some (.int (0 + k)), some (tx N)], rfl, by
  walk_at "ev"
  rw [en k _ (hsub k hk)]
  rfl⟩)]
 walk_at "ev"
 rw [show (th.map fun k => tx [N.getD k 0]) = (th.map fun k => N.getD k 0).map fun c => tx [c] by rw [List.map_map]; rfl, WQ (by rw [List.length_map]; omega), x1]
 walk_at "ev"
 rw [ZJ (Yg kT)]
 walk_at "ev"
 rw [List.length_map]
 rw [Zd (g := mgName 0) th (fun (k : Nat) => P.int (0 + k)) (fun k => tx (W.getD k [])) rfl (fun i hi => nxK (Yg kT)) (by omega) (fun k hk => ⟨[some (.int (0 + k)), some (.ref kw)], rfl, by
  walk_at "ev"
  have hk' : k < W.length := by rw [<- D.len]; simpa using hsub k hk
  rw [Int.zero_add, Zp (gB6.get f2) (by omega) (p := tx (W.getD k [])) (by rw [Int.toNat_natCast, List.getElem?_map, List.getD_eq_getElem?_getD, List.getElem?_eq_getElem hk']; rfl)]
  rfl⟩)]
 walk_at "ev"
 have hns2 : N.filter (fun c => decide (c ∈ allL tb)) = nsOf tb := Yck (List.Pairwise.filter _ r1) (List.Pairwise.filter _ (by decide)) fun c => by
  unfold nsOf
  rw [List.mem_filter, List.mem_filter, mem_up26, decide_eq_true_iff]
  constructor
  ·rintro ⟨h1, h2⟩; exact ⟨u1 c h1, h2⟩
  ·rintro ⟨h1, h2⟩
   refine ⟨(f6.lets c h2).resolve_right fun z => YaO h1 z, h2⟩
 rw [hns2] at x2 ⊢
 refine ⟨tb, N, W, S, kv5, B6, ?_, D, f6, by omega, by omega, gB6.get f1⟩
 rw [show (th.map fun k => tx (W.getD k [])) = (th.map fun k => W.getD k []).map tx by rw [List.map_map]; rfl, x2, List.map_map]
 rfl
def look : List Nat -> List (List Nat) -> Nat -> Option (List Nat)
 | a :: l, w :: W, c => if a = c then some w else look l W c
 | [], _, _ => none
 | _ :: _, [], _ => none
theorem YaB {l : List Nat} {V : List (List Nat)} {c : Nat} (h : c ∉ l) : look l V c = none := by
 induction l generalizing V with
 | nil => rfl
 | cons a l ih =>
  cases V with
  | nil => rfl
  | cons w W =>
   show (if a = c then some w else look l W c) = none
   rw [if_neg (fun z => h (by rw [z]; exact List.mem_cons_self ..))]
   exact ih (fun z => h (List.mem_cons_of_mem _ z))
theorem Yeo {l : List Nat} {V : List (List Nat)} {c : Nat} (h : c ∈ l) (hl : l.length = V.length) : look l V c = some (V.getD (l.idxOf c) []) := by
 induction l generalizing V with
 | nil => cases h
 | cons a l ih =>
  cases V with
  | nil => cases hl
  | cons w W =>
   show (if a = c then some w else look l W c) = _
   by_cases q : a = c
   ·rw [if_pos q, q, List.idxOf_cons_self]; rfl
   ·rw [if_neg q, List.idxOf_cons, show (a == c) = false by simpa using q, cond_false, ih ((List.mem_cons.mp h).resolve_left (fun z => q z.symm)) (Nat.succ.inj hl)]; rfl
theorem YaD : ∀ {l : List Nat} {V : List (List Nat)} (acc : List (Key × P)), l.Nodup -> l.length = V.length ->
 (∀ c, valP (((l.zip V).map fun q => (tkey [q.1], tx q.2)).foldl (fun acc q => putP acc q.1 q.2) acc) (tkey [c]) = ((look l V c).map tx).or (valP acc (tkey [c]))) /\ (((l.zip V).map fun q => (tkey [q.1], tx q.2)).foldl (fun acc q => putP acc q.1 q.2) acc).length <= acc.length + l.length
 | [], [], acc, _, _ => ⟨fun c => rfl, Nat.le_refl _⟩
 | [], _ :: _, _, _, h => by cases h
 | _ :: _, [], _, _, h => by cases h
 | a :: l, w :: V, acc, nd, h => by
  rw [List.nodup_cons] at nd
  obtain ⟨h1, h2⟩ := YaD (putP acc (tkey [a]) (tx w)) nd.2 (Nat.succ.inj h)
  rw [List.zip_cons_cons, List.map_cons, List.foldl_cons]
  refine ⟨fun c => ?_, ?_⟩
  ·refine (h1 c).trans ?_
   rw [Jn]
   show _ = ((if a = c then some w else look l V c).map tx).or _
   by_cases q : a = c
   ·subst q
    rw [if_pos rfl, if_pos rfl, YaB nd.1]; rfl
   ·rw [if_neg (fun z => q (by simpa using tkey_inj.mp z)), if_neg q]
  ·refine Nat.le_trans h2 ?_
   rw [YaP, List.length_cons]
   split <;> omega
def fillF (N : List Nat) (W : List (List Nat)) (l : List Nat) : List Nat := l.flatMap fun c => (look N W c).getD [c]
theorem Ycg : ∀ (N : List Nat) (W : List (List Nat)), keyz N (W.map tx) = (N.zip W).map fun q => (tkey [q.1], tx q.2)
 | [], _ => rfl
 | _ :: _, [] => rfl
 | a :: N, w :: W => by
  show _ :: keyz N (W.map tx) = _
  rw [Ycg N W]
  rfl
theorem YeD {l : List Nat} {V : List (List Nat)} {n c : Nat} (hn : 1 <= n) (h : ∀ w ∈ V, w.length <= n) : ((look l V c).getD [c]).length <= n := by
 induction l generalizing V with
 | nil => exact hn
 | cons a l ih =>
  cases V with
  | nil => exact hn
  | cons w W =>
   show ((if a = c then some w else look l W c).getD [c]).length <= n
   by_cases q : a = c
   ·rw [if_pos q]; exact h w (List.mem_cons_self ..)
   ·rw [if_neg q]; exact ih fun w hw => h w (List.mem_cons_of_mem _ hw)
theorem YbQ {f : Nat -> List Nat} {n : Nat} (h : ∀ c, (f c).length <= n) : ∀ l : List Nat, (l.flatMap f).length <= n * l.length
 | [] => Nat.zero_le _
 | c :: l => by
  rw [List.flatMap_cons, List.length_append, List.length_cons, Nat.mul_succ]
  have := h c
  have := YbQ h l
  omega
theorem filled {N l : List Nat} {W : List (List Nat)} {st : Stor} (nd : N.Nodup) (h : N.length = W.length) (hW : ∀ w ∈ W, w.length <= 30) (hl : l.length <= 1000) : ∃ st', Y0 [tx l, tx N, .tup (W.map tx)] st = .ok (tx (fillF N W l)) st' /\ Grow st st' := by
 unfold Y0 Jy
 simp only [s_e, Zo]
 have hd : eDictZ (aCons (eVar 1) (aCons (eVar 2) aNil)) [some (tx l), some (tx N), some (.tup (W.map tx)), none] st = .ok (.ref st.length) (st ++ [.dct (putsP (keyz N (W.map tx)))]) := by
  show dictZR [tx N, .tup (W.map tx)] st = _
  unfold tx dictZR
  dsimp only
  rw [if_pos (by rw [List.length_map, <- h]; simp [sT])]
  simp [sT]
 generalize hE : eDictZ (aCons (eVar 1) (aCons (eVar 2) aNil)) = E at hd ⊢
 walk_at "ev"
 rw [hd]
 walk_at "ev"
 obtain ⟨p1, p2⟩ := YaD (l := N) (V := W) [] nd h
 rw [Ycg]
 have hv : ∀ c, (valP (putsP ((N.zip W).map fun q => (tkey [q.1], tx q.2))) (tkey [c])).getD (tx [c]) = tx ((look N W c).getD [c]) := fun c => by
  have := p1 c
  unfold putsP
  rw [this]
  cases look N W c <;> rfl
 generalize putsP ((N.zip W).map fun q => (tkey [q.1], tx q.2)) = kvs at hv
 have hb : (fillF N W l).length <= 30 * l.length := YbQ (fun c => YeD (by omega) hW) l
 rw [Zd (g := mgName 0) l (fun c => tx [c]) (fun c => tx ((look N W c).getD [c])) rfl (fun i hi => nxS hi) (by omega) (fun c _ => ⟨[some (tx [c]), some (.ref st.length)], rfl, by
  rw [YjC (n := st.length) (kvs := kvs) (l := [c]) (z := tx [c]) rfl rfl rfl Yo, hv]⟩)]
 walk_at "ev"
 rw [show (l.map fun c => tx ((look N W c).getD [c])) = (l.map fun c => (look N W c).getD [c]).map tx by rw [List.map_map]; rfl, Z2 (by rw [<- List.flatMap_def]; exact Nat.le_trans hb (by omega)), <- List.flatMap_def]
 exact ⟨_, rfl, Grow.one⟩
theorem Ve {N : List Nat} {W : List (List Nat)} (h : N.length = W.length) (l : List Nat) : fillF N W l = fillL N (wordOf N W) l := by
 unfold fillF fillL
 congr 1
 funext c
 by_cases q : c ∈ N
 ·rw [if_pos q, Yeo q h]; rfl
 ·rw [if_neg q, YaB q]; rfl
theorem names2 {tb : Sys} {st : Stor} (h : (allL tb).length <= 1000) (h6 : tb.length <= 1000) (ha : ∀ c ∈ allL tb, isLet c = true) : ∃ st', YA [encSys tb] st = .ok (tx (nsOf tb)) st' /\ Grow st st' := by
 obtain ⟨r, s1, t1, g1, r1, m1⟩ := YbD (tb := tb) (st := st) h h6 ha
 have e1 : r = nsOf tb := Yck r1 (List.Pairwise.filter _ (by decide)) fun c => by
  unfold nsOf
  rw [m1, List.mem_filter, mem_up26, decide_eq_true_iff]; exact And.comm
 rw [e1] at t1
 exact ⟨s1, t1, g1⟩
def isAns (tb : Sys) (ns : List Nat) (V : List (List Nat)) : Bool := tb.all fun e => decide (fillF ns V e.1 = fillF ns V e.2)
structure Wds (ns : List Nat) (V : List (List Nat)) : Prop where
 len : ns.length = V.length
 each : ∀ w ∈ V, w.length <= 30
theorem Yet {tb : Sys} {V : List (List Nat)} {st : Stor} (D : Wds (nsOf tb) V) (h : (allL tb).length <= 1000) (h6 : tb.length <= 1000) (ha : ∀ c ∈ allL tb, isLet c = true) : ∃ st', YF [encSys tb, .tup (V.map tx)] st = .ok (.bl (isAns tb (nsOf tb) V)) st' /\ Grow st st' := by
 unfold YF YaR
 walk_at "ev"
 obtain ⟨s1, t1, g1⟩ := names2 (tb := tb) (st := st) h h6 ha
 rw [t1]
 walk_at "ev"
 have henc : encSys tb = .tup (tb.map encEq) := rfl
 rw [henc]
 walk_at "ev"
 rw [List.length_map]
 obtain ⟨s2, e1, _, g2⟩ := Yef (src := srcL (tb.map encEq)) (g := mgTup 2 (mgCons (mgName 0) (mgCons (mgName 1) mgNil))) (me := eBin eqP (eCall 3 Y0 (aCons (eVar 0) (aCons (eVar 2) (aCons (eVar 3) aNil)))) (eCall 3 Y0 (aCons (eVar 1) (aCons (eVar 2) (aCons (eVar 3) aNil))))) (ρ0 := [none, none, some (tx (nsOf tb)), some (.tup (V.map tx))]) (N := tb.length) (st := s1)
  tb encEq (fun e => .bl (decide (fillF (nsOf tb) V e.1 = fillF (nsOf tb) V e.2))) (fun _ => True) rfl (fun i s hi _ _ => nxL) (by omega) trivial
  (fun e he s _ _ => by
   have hal := W8 he
   obtain ⟨a1, b1, d1⟩ := filled (l := e.1) (st := s) (WR tb) D.len D.each (by omega)
   obtain ⟨a2, b2, d2⟩ := filled (l := e.2) (st := a1) (WR tb) D.len D.each (by omega)
   refine ⟨[some (tx e.1), some (tx e.2), some (tx (nsOf tb)), some (.tup (V.map tx))], a2, rfl, ?_, trivial, d1.trans d2⟩
   walk_at "ev"
   rw [b1]
   walk_at "ev"
   rw [b2]
   walk_at "ev")
 rw [e1]
 walk_at "ev"
 rw [YhY (f := fun e : List Nat × List Nat => decide (fillF (nsOf tb) V e.1 = fillF (nsOf tb) V e.2))]
 exact ⟨s2, rfl, g1.trans g2⟩
theorem We {a b : Bool} {st : Stor} : Yq [.bl a, .bl b] st = .ok (.bl (a == b)) st := by
 unfold Yq Z3
 walk_at "ev"
 have : eqP (.bl a) (.bl b) st = some (.bl (a == b), st) := by cases a <;> cases b <;> rfl
 rw [this]
 rfl
def sub1 (a b c : Nat) : Nat := if c = a then b else c
theorem V6 {a b : Nat} : ∀ {l : List Nat}, a ∉ l -> l.map (sub1 a b) = l
 | [], _ => rfl
 | c :: r, h => by
  rw [List.map_cons, V6 fun m => h (List.mem_cons_of_mem _ m)]
  unfold sub1
  rw [if_neg (fun e : c = a => h (by rw [e]; exact List.mem_cons_self ..))]
theorem YbM (a b : Nat) : ∀ parts : List Str, (∀ p ∈ parts, a ∉ p.cps.toList) -> (Str.join ⟨#[b]⟩ parts).cps.toList = (Str.join ⟨#[a]⟩ parts).cps.toList.map (sub1 a b)
 | [], _ => rfl
 | [p], h => (V6 (h p (List.mem_singleton.mpr rfl))).symm
 | p :: q :: r, h => by
  have ih := YbM a b (q :: r) fun x hx => h x (List.mem_cons_of_mem _ hx)
  show (p ++ ⟨#[b]⟩ ++ Str.join ⟨#[b]⟩ (q :: r)).cps.toList = (p ++ ⟨#[a]⟩ ++ Str.join ⟨#[a]⟩ (q :: r)).cps.toList.map (sub1 a b)
  simp only [Str.cps_append, Array.toList_append]
  rw [List.map_append, List.map_append, ih, V6 (h p (List.mem_cons_self ..))]
  show _ ++ [b] ++ _ = _ ++ [a].map (sub1 a b) ++ _
  rw [List.map_cons, List.map_nil, show sub1 a b a = b from if_pos rfl]
theorem Yco (l : List Nat) (a b : Nat) : Txt.replace (sT l) (sT [a]) (sT [b]) = sT (l.map (sub1 a b)) := by
 refine Ya5 ?_
 have e := StrLaws.replace_one (sT l) (sT [b]) a
 rw [show (sT [a]) = ⟨#[a]⟩ from rfl, e]
 have := YbM a b (Txt.split (sT l) ⟨#[a]⟩) (StrLaws.split_free (sT l) a)
 rw [show (sT [b]) = ⟨#[b]⟩ from rfl, this, StrLaws.join_split]
 simp [sT]
theorem YaH {l : List Nat} {a b : Nat} {st : Stor} (hl : l.length <= 1000) (hab : a ≠ b) : replaceP (tx l) [tx [a], tx [b]] st = some (tx (l.map (sub1 a b)), st) := by
 show (if (sT l).length + ((sT l).length + 1) * (sT [b]).length <= cap /\ sT [a] ≠ sT [b] then okP (.str (Txt.replace (sT l) (sT [a]) (sT [b]))) st else none) = _
 rw [if_pos, Yco]
 ·rfl
 ·have e1 : (sT l).length = l.length := by simp [sT, Str.length]
  have e2 : (sT [b]).length = 1 := rfl
  refine ⟨by rw [e1, e2]; show _ <= 1000000; omega, fun e => hab ?_⟩
  have : [a] = [b] := sT_inj.mp e
  cases this
  rfl
theorem Ycj {l : List Nat} {st : Stor} (hl : l.length <= 1000) : YV [tx l] st = .ok (tx l.reverse) st := by
 unfold YV WN
 simp only [Zo]
 have e : eJoinR (eC (.str (sT []))) (eVar 0) [some (tx l)] st = .ok (tx l.reverse) st := by
  show (if joinLen (sT []) ((sT l).cps.toList.map fun c => sT [c]) <= cap then R.ok (P.str (Txt.join (sT []) ((sT l).cps.toList.reverse.map fun c => sT [c]))) st else R.bad) = _
  have e0 : (sT l).cps.toList = l := by simp [sT]
  have e1 : ∀ r : List Nat, (r.map fun c => sT [c]) = (r.map fun c => [c]).map sT := fun r => by rw [List.map_map]; rfl
  have e2 : ∀ r : List Nat, (r.map fun c => [c]).flatten = r := fun r => by
   induction r with
   | nil => rfl
   | cons a r ih => rw [List.map_cons, List.flatten_cons, ih]; rfl
  have hc : l.length <= cap := by show l.length <= 1000000; omega
  rw [e0, e1, Wc, e2, if_pos hc, e1, Wj, e2]
  rfl
 walk_at "ev"
 rw [e]
 walk_at "ev"
def swp (tb : Sys) : Sys := tb.map fun e => (e.2, e.1)
def mir (tb : Sys) : Sys := tb.map fun e => (e.1.reverse, e.2.reverse)
def ren (a b : Nat) (tb : Sys) : Sys := tb.map fun e => (e.1.map (sub1 a b), e.2.map (sub1 a b))
def Lens (tb : Sys) : Prop := tb.length <= 6 /\ ∀ e ∈ tb, e.1.length <= 1000 /\ e.2.length <= 1000
theorem Lens.mir {tb : Sys} (h : Lens tb) : Lens (mir tb) := ⟨by unfold G.mir; rw [List.length_map]; exact h.1, fun e he => by
 obtain ⟨d, hd, rfl⟩ := List.mem_map.mp he
 simp only [List.length_reverse]
 exact h.2 d hd⟩
theorem Lens.swp {tb : Sys} (h : Lens tb) : Lens (swp tb) := ⟨by unfold G.swp; rw [List.length_map]; exact h.1, fun e he => by
 obtain ⟨d, hd, rfl⟩ := List.mem_map.mp he
 exact ⟨(h.2 d hd).2, (h.2 d hd).1⟩⟩
theorem Lens.ren {tb : Sys} {a b : Nat} (h : Lens tb) : Lens (ren a b tb) := ⟨by unfold G.ren; rw [List.length_map]; exact h.1, fun e he => by
 obtain ⟨d, hd, rfl⟩ := List.mem_map.mp he
 simp only [List.length_map]
 exact h.2 d hd⟩
theorem Ybr (tb : Sys) (st : Stor) : ∀ i, i <= tb.length -> (srcL (tb.map encEq)).nx i st = some (tb[i]?.map encEq) := fun i hi => by
 show some (tb.map encEq)[i]? = _
 rw [List.getElem?_map]
theorem turned {tb : Sys} {st : Stor} (h : tb.length <= 1000) : ZC [encSys tb] st = .ok (encSys (swp tb)) st := by
 unfold ZC JM encSys
 walk_at "ev"
 rw [Zd (src := srcL (tb.map encEq)) tb encEq (fun e => encEq (e.2, e.1)) (by simp) (Ybr tb st) (by omega) fun e he => ⟨[some (tx e.1), some (tx e.2)], rfl, by walk_at "ev"; rfl⟩]
 walk_at "ev"
 unfold swp
 rw [List.map_map]
 rfl
theorem mirrored {tb : Sys} {st : Stor} (h : Lens tb) : Y7 [encSys tb] st = .ok (encSys (mir tb)) st := by
 have h6 := h.1
 unfold Y7 WK encSys
 walk_at "ev"
 rw [Zd (src := srcL (tb.map encEq)) tb encEq (fun e => encEq (e.1.reverse, e.2.reverse)) (by simp) (Ybr tb st) (by omega) fun e he => ⟨[some (tx e.1), some (tx e.2)], rfl, by
  have := h.2 e he
  walk_at "ev"
  rw [Ycj this.1]
  walk_at "ev"
  rw [Ycj this.2]
  walk_at "ev"
  rfl⟩]
 walk_at "ev"
 unfold mir
 rw [List.map_map]
 rfl
theorem Ydm {c : Nat} {st : Stor} : Za [tx [c]] st = .ok (.bl (isUp c)) st := by
 unfold Za Vr
 walk_at "ev"
 rw [Jj]
 walk_at "ev"
theorem YgP {c : Nat} {l : List Nat} {st : Stor} : in2P (tx [c]) (tx l) st = some (.bl (decide (c ∈ l)), st) := Yfo
theorem Js {c : Nat} {l : List Nat} {st : Stor} : notIn2P (tx [c]) (tx l) st = some (.bl (!decide (c ∈ l)), st) := by
 have := StrLaws.found_one (sT l) c
 show okP (.bl (!(!(Builtin.Str.occurrences (sT l) (sT [c]) 0 (sT l).length 1).isEmpty))) st = _
 have e : (!(Builtin.Str.occurrences (sT l) (sT [c]) 0 (sT l).length 1).isEmpty) = decide (c ∈ l) := this
 rw [e]
 rfl
theorem renamed {tb : Sys} {a b : Nat} {st : Stor} (h : Lens tb) (h40 : (allL tb).length <= 1000) (ha : ∀ c ∈ allL tb, isLet c = true) (ua : isUp a = true) (ub : isUp b = true) (ia : a ∈ allL tb) (ib : b ∉ allL tb) :
 ∃ st', Zk [encSys tb, tx [a], tx [b]] st = .ok (encSys (ren a b tb)) st' /\ Grow st st' := by
 have h6 := h.1
 have hab : a ≠ b := fun e => ib (e ▸ ia)
 obtain ⟨r, s1, n1, n2, n3, n4⟩ := YbD (st := st) h40 (by omega) ha
 have ra : a ∈ r := (n4 a).mpr ⟨ia, ua⟩
 have rb : b ∉ r := fun z => ib ((n4 b).mp z).1
 unfold Zk Vo
 walk_at "ev"
 rw [n1]
 walk_at "ev"
 rw [Ydm]
 walk_at "ev"
 rw [ua, Js, decide_eq_true ra]
 walk_at "ev"
 rw [Ydm]
 walk_at "ev"
 rw [ub]
 walk_at "ev"
 rw [YgP, decide_eq_false rb]
 walk_at "ev"
 unfold encSys
 walk_at "ev"
 rw [Zd (src := srcL (tb.map encEq)) tb encEq (fun e => encEq (e.1.map (sub1 a b), e.2.map (sub1 a b))) (by simp) (Ybr tb s1) (by omega) fun e he => ⟨[some (tx e.1), some (tx e.2), some (tx [b]), some (tx [a])], rfl, by
  have := h.2 e he
  walk_at "ev"
  rw [YaH this.1 hab]
  walk_at "ev"
  rw [YaH this.2 hab]
  walk_at "ev"
  rfl⟩]
 walk_at "ev"
 refine ⟨s1, ?_, n2⟩
 unfold ren
 rw [List.map_map]
 rfl
theorem Jx {ns : List Nat} {f : Nat -> List Nat} {c : Nat} (h : c ∈ ns) : wordOf ns (ns.map f) c = f c := by
 unfold wordOf
 have hi := List.idxOf_lt_length_iff.mpr h
 rw [List.getD_eq_getElem?_getD, List.getElem?_map, List.getElem?_eq_getElem hi, List.getElem_idxOf]
 rfl
theorem Yc3 {M N : List Nat} {w w' : Nat -> List Nat} {l : List Nat} (h : ∀ c ∈ l, (c ∈ M ↔ c ∈ N) /\ (c ∈ M -> w c = w' c)) : fillL M w l = fillL N w' l := by
 unfold fillL
 rw [List.flatMap_def, List.flatMap_def]
 congr 1
 refine List.map_congr_left fun c hc => ?_
 by_cases q : c ∈ M
 ·rw [if_pos q, if_pos ((h c hc).1.mp q), (h c hc).2 q]
 ·rw [if_neg q, if_neg (fun z => q ((h c hc).1.mpr z))]
theorem YhS {a : ME} {ρ : Rho} {st st1 : Stor} {xs : List P} (h : a ρ st = .ok (.tup xs) st1) : eRevX a ρ st = .ok (.tup xs.reverse) st1 := by
 unfold eRevX
 rw [h]
 rfl
theorem mem_nsOf {tb : Sys} {c : Nat} : c ∈ nsOf tb ↔ isUp c = true /\ c ∈ allL tb := by
 unfold nsOf
 rw [List.mem_filter, mem_up26, decide_eq_true_iff]
theorem WL {a b : Sys} (h : ∀ c, c ∈ allL a ↔ c ∈ allL b) : nsOf a = nsOf b := by
 unfold nsOf
 refine List.filter_congr fun c _ => ?_
 by_cases q : c ∈ allL a
 ·rw [decide_eq_true q, decide_eq_true ((h c).mp q)]
 ·rw [decide_eq_false q, decide_eq_false (fun z => q ((h c).mpr z))]
theorem mem_swp {tb : Sys} {c : Nat} : c ∈ allL (swp tb) ↔ c ∈ allL tb := by
 rw [mem_allL, mem_allL]
 unfold swp
 constructor
 ·rintro ⟨e, he, h⟩
  obtain ⟨d, hd, rfl⟩ := List.mem_map.mp he
  exact ⟨d, hd, h.symm⟩
 ·rintro ⟨e, he, h⟩
  exact ⟨_, List.mem_map_of_mem he, h.symm⟩
theorem mem_mir {tb : Sys} {c : Nat} : c ∈ allL (mir tb) ↔ c ∈ allL tb := by
 rw [mem_allL, mem_allL]
 unfold mir
 constructor
 ·rintro ⟨e, he, h⟩
  obtain ⟨d, hd, rfl⟩ := List.mem_map.mp he
  exact ⟨d, hd, h.imp List.mem_reverse.mp List.mem_reverse.mp⟩
 ·rintro ⟨e, he, h⟩
  exact ⟨_, List.mem_map_of_mem he, h.imp List.mem_reverse.mpr List.mem_reverse.mpr⟩
theorem mem_rev {tb : Sys} {c : Nat} : c ∈ allL tb.reverse ↔ c ∈ allL tb := by
 rw [mem_allL, mem_allL]
 constructor
 ·rintro ⟨e, he, h⟩
  exact ⟨e, List.mem_reverse.mp he, h⟩
 ·rintro ⟨e, he, h⟩
  exact ⟨e, List.mem_reverse.mpr he, h⟩
theorem V3 {tb : Sys} {a b c : Nat} (ia : a ∈ allL tb) : c ∈ allL (ren a b tb) ↔ c = b \/ (c ∈ allL tb /\ c ≠ a) := by
 have key : ∀ l : List Nat, c ∈ l.map (sub1 a b) ↔ (a ∈ l /\ c = b) \/ (c ∈ l /\ c ≠ a) := fun l => by
  rw [List.mem_map]
  constructor
  ·rintro ⟨d, hd, h⟩
   unfold sub1 at h
   by_cases q : d = a
   ·rw [if_pos q] at h
    exact .inl ⟨q ▸ hd, h.symm⟩
   ·rw [if_neg q] at h
    exact .inr ⟨h ▸ hd, h ▸ q⟩
  ·rintro (⟨h1, h2⟩ | ⟨h1, h2⟩)
   ·exact ⟨a, h1, by unfold sub1; rw [if_pos rfl, h2]⟩
   ·exact ⟨c, h1, if_neg h2⟩
 rw [mem_allL]
 unfold ren
 constructor
 ·rintro ⟨e, he, h⟩
  obtain ⟨d, hd, rfl⟩ := List.mem_map.mp he
  rcases h with h | h
  ·rcases (key _).mp h with h | h
   ·exact .inl h.2
   ·exact .inr ⟨mem_allL.mpr ⟨d, hd, .inl h.1⟩, h.2⟩
  ·rcases (key _).mp h with h | h
   ·exact .inl h.2
   ·exact .inr ⟨mem_allL.mpr ⟨d, hd, .inr h.1⟩, h.2⟩
 ·rintro (h | ⟨h, h2⟩)
  ·obtain ⟨e, he, h3⟩ := mem_allL.mp ia
   exact ⟨_, List.mem_map_of_mem he, h3.imp (fun z => (key _).mpr (.inl ⟨z, h⟩)) (fun z => (key _).mpr (.inl ⟨z, h⟩))⟩
  ·obtain ⟨e, he, h3⟩ := mem_allL.mp h
   exact ⟨_, List.mem_map_of_mem he, h3.imp (fun z => (key _).mpr (.inr ⟨z, h2⟩)) (fun z => (key _).mpr (.inr ⟨z, h2⟩))⟩
theorem YcU {α : Type} {f g : α -> Nat} (h : ∀ x, f x = g x) (l : List α) : (l.map f).sum = (l.map g).sum := by
 rw [show f = g from funext h]
theorem Zh (tb : Sys) : (allL tb).length = (tb.map fun e => e.1.length + e.2.length).sum := by
 unfold allL
 rw [List.length_flatMap]
 congr 1
 refine List.map_congr_left fun e _ => List.length_append
theorem Yhq (tb : Sys) : (allL (swp tb)).length = (allL tb).length := by
 rw [Zh, Zh]
 unfold swp
 rw [List.map_map]
 exact YcU (fun e => Nat.add_comm ..) tb
theorem Yg7 (tb : Sys) : (allL (mir tb)).length = (allL tb).length := by
 rw [Zh, Zh]
 unfold mir
 rw [List.map_map]
 exact YcU (fun e => by show e.1.reverse.length + e.2.reverse.length = _; rw [List.length_reverse, List.length_reverse]) tb
theorem Yhx (a b : Nat) (tb : Sys) : (allL (ren a b tb)).length = (allL tb).length := by
 rw [Zh, Zh]
 unfold ren
 rw [List.map_map]
 exact YcU (fun e => by show (e.1.map _).length + (e.2.map _).length = _; rw [List.length_map, List.length_map]) tb
theorem Yhs (tb : Sys) : (allL tb.reverse).length = (allL tb).length := by
 rw [Zh, Zh, List.map_reverse, List.sum_reverse]
theorem YgL (tb : Sys) (ns : List Nat) (V : List (List Nat)) : isAns (swp tb) ns V = isAns tb ns V := by
 unfold isAns swp
 rw [List.all_map]
 congr 1
 funext e
 exact decide_eq_decide.mpr eq_comm
theorem Yg0 (tb : Sys) (ns : List Nat) (V : List (List Nat)) : isAns tb.reverse ns V = isAns tb ns V := by
 unfold isAns
 rw [List.all_reverse]
theorem YbR (f : List Nat -> List Nat) : ∀ (ns : List Nat) (V : List (List Nat)) (c : Nat), look ns (V.map f) c = (look ns V c).map f
 | [], _, _ => rfl
 | _ :: _, [], _ => rfl
 | a :: ns, w :: V, c => by
  show (if a = c then some (f w) else look ns (V.map f) c) = (if a = c then some w else look ns V c).map f
  by_cases q : a = c
  ·rw [if_pos q, if_pos q]; rfl
  ·rw [if_neg q, if_neg q]; exact YbR f ns V c
theorem Ybx (f : Nat -> List Nat) : ∀ l : List Nat, (l.flatMap f).reverse = l.reverse.flatMap fun c => (f c).reverse
 | [] => rfl
 | c :: l => by
  rw [List.flatMap_cons, List.reverse_append, Ybx f l, List.reverse_cons, List.flatMap_append]
  simp
theorem Ycm (ns : List Nat) (V : List (List Nat)) (l : List Nat) : fillF ns (V.map List.reverse) l.reverse = (fillF ns V l).reverse := by
 unfold fillF
 rw [Ybx]
 congr 1
 funext c
 rw [YbR]
 cases look ns V c <;> rfl
theorem Yhc (tb : Sys) (ns : List Nat) (V : List (List Nat)) : isAns (mir tb) ns (V.map List.reverse) = isAns tb ns V := by
 unfold isAns mir
 rw [List.all_map]
 congr 1
 funext e
 show decide (fillF ns (V.map List.reverse) e.1.reverse = fillF ns (V.map List.reverse) e.2.reverse) = _
 rw [Ycm, Ycm]
 exact decide_eq_decide.mpr List.reverse_inj
def wRen (ns : List Nat) (V : List (List Nat)) (a b c : Nat) : List Nat := if c = b then wordOf ns V a else wordOf ns V c
theorem Ygz {tb : Sys} {V : List (List Nat)} {a b : Nat} (hV : (nsOf tb).length = V.length) (ua : isUp a = true) (ub : isUp b = true) (ia : a ∈ allL tb) (ib : b ∉ allL tb) :
 isAns (ren a b tb) (nsOf (ren a b tb)) ((nsOf (ren a b tb)).map (wRen (nsOf tb) V a b)) = isAns tb (nsOf tb) V := by
 have key : ∀ l : List Nat, (∀ c ∈ l, c ∈ allL tb) -> fillF (nsOf (ren a b tb)) ((nsOf (ren a b tb)).map (wRen (nsOf tb) V a b)) (l.map (sub1 a b)) = fillF (nsOf tb) V l := fun l hl => by
  rw [Ve (by rw [List.length_map]), Ve hV]
  unfold fillL
  rw [List.flatMap_map]
  rw [List.flatMap_def, List.flatMap_def]
  congr 1
  refine List.map_congr_left fun c hc => ?_
  have hcl := hl c hc
  by_cases q : c = a
  ·subst q
   rw [show sub1 c b c = b from if_pos rfl]
   have hb : b ∈ nsOf (ren c b tb) := mem_nsOf.mpr ⟨ub, (V3 ia).mpr (.inl rfl)⟩
   rw [if_pos hb, if_pos (mem_nsOf.mpr ⟨ua, ia⟩), Jx hb]
   exact if_pos rfl
  ·rw [show sub1 a b c = c from if_neg q]
   have hcb : c ≠ b := fun z => ib (z ▸ hcl)
   have hm : c ∈ nsOf (ren a b tb) ↔ c ∈ nsOf tb := by
    rw [mem_nsOf, mem_nsOf, V3 ia]
    exact ⟨fun z => ⟨z.1, hcl⟩, fun z => ⟨z.1, .inr ⟨hcl, q⟩⟩⟩
   by_cases r : c ∈ nsOf tb
   ·rw [if_pos r, if_pos (hm.mpr r), Jx (hm.mpr r)]
    exact if_neg hcb
   ·rw [if_neg r, if_neg (fun z => r (hm.mp z))]
 unfold isAns
 show (List.map (fun e => (e.1.map (sub1 a b), e.2.map (sub1 a b))) tb).all (fun e => decide (fillF (nsOf (ren a b tb)) ((nsOf (ren a b tb)).map (wRen (nsOf tb) V a b)) e.1 = fillF (nsOf (ren a b tb)) ((nsOf (ren a b tb)).map (wRen (nsOf tb) V a b)) e.2)) = _
 rw [List.all_map]
 rw [Bool.eq_iff_iff, List.all_eq_true, List.all_eq_true]
 have each : ∀ e ∈ tb, ((fun e => decide (fillF (nsOf (ren a b tb)) ((nsOf (ren a b tb)).map (wRen (nsOf tb) V a b)) e.1 = fillF (nsOf (ren a b tb)) ((nsOf (ren a b tb)).map (wRen (nsOf tb) V a b)) e.2)) ∘ fun e => (e.1.map (sub1 a b), e.2.map (sub1 a b))) e = decide (fillF (nsOf tb) V e.1 = fillF (nsOf tb) V e.2) := fun e he => by
  show decide (fillF _ _ (e.1.map (sub1 a b)) = fillF _ _ (e.2.map (sub1 a b))) = _
  rw [key e.1 fun c hc => mem_allL.mpr ⟨e, he, .inl hc⟩, key e.2 fun c hc => mem_allL.mpr ⟨e, he, .inr hc⟩]
 exact ⟨fun z e he => (each e he).symm.trans (z e he), fun z e he => (each e he).trans (z e he)⟩
theorem Yh7 {a : ME} {ρ : Rho} {st st1 : Stor} {l : List Nat} (h : a ρ st = .ok (tx l) st1) (hl : l.length <= 1000) : eRevX a ρ st = .ok (tx l.reverse) st1 := by
 have e : revS (sT l) = sT l.reverse := by rw [Yhj]; simp [sT]
 have e2 : (sT l.reverse).length = l.length := by simp [sT, Str.length]
 unfold eRevX
 rw [h]
 show (if (revS (sT l)).length <= cap then R.ok (P.str (revS (sT l))) st1 else R.bad) = _
 rw [e, e2, if_pos (show l.length <= cap by show l.length <= 1000000; omega)]
 rfl
def keepN (ns : List Nat) (a b c : Nat) : Bool := decide (c = b) || (decide (c ∈ ns) && !decide (c = a))
theorem Ydt {ns : List Nat} {V : List (List Nat)} {c : Nat} {st : Stor} (h : ns.length = V.length) (hc : c ∈ ns) : ixP (.tup (V.map tx)) (.int (ns.idxOf c : Nat)) st = some (tx (wordOf ns V c), st) := by
 have hi := List.idxOf_lt_length_iff.mpr hc
 have hi3 : ns.idxOf c < V.length := by rw [<- h]; exact hi
 unfold wordOf
 exact YbF (by omega) (by rw [Int.toNat_natCast, List.getElem?_map, List.getElem?_eq_getElem hi3, List.getD_eq_getElem?_getD, List.getElem?_eq_getElem hi3]; rfl)
theorem YdX {ns : List Nat} {V : List (List Nat)} {a b : Nat} {st : Stor} (h : ns.length = V.length) (ha : a ∈ ns) :
 ∃ st', YK [tx ns, .tup (V.map tx), tx [a], tx [b]] st = .ok (.tup (((up26.filter (keepN ns a b)).map (wRen ns V a b)).map tx)) st' /\ Grow st st' := by
 unfold YK ZN
 rw [YcY]
 walk_at "ev"
 obtain ⟨ρ', s', e1, v5, e2, e3⟩ := Zw (src := srcS (sT up26)) (g := mgName 5) (m := Zy) (N := up26.length) (ρ := [some (tx ns), some (.tup (V.map tx)), some (tx [a]), some (tx [b]), some (.ref st.length), none]) (st := st ++ [.lst []]) up26 (fun c => tx [c])
  (fun i ρ s => ∃ v5, ρ = [some (tx ns), some (.tup (V.map tx)), some (tx [a]), some (tx [b]), some (.ref st.length), v5] /\ s = st ++ [.lst ((((up26.take i).filter (keepN ns a b)).map (wRen ns V a b)).map tx)]) rfl (fun i ρ s hi _ => nxS hi) ⟨none, rfl, rfl⟩
  (fun i hi ρ s ⟨v5, q1, q2⟩ => by
   subst q1
   refine ⟨[some (tx ns), some (.tup (V.map tx)), some (tx [a]), some (tx [b]), some (.ref st.length), some (tx [up26[i]])], rfl, ?_⟩
   have et : up26.take (i + 1) = up26.take i ++ [up26[i]] := by rw [List.take_add_one, List.getElem?_eq_getElem hi]; rfl
   have h26 : ((((up26.take i).filter (keepN ns a b)).map (wRen ns V a b)).map tx).length <= 26 := by
    rw [List.length_map, List.length_map]
    exact Nat.le_trans (List.length_filter_le ..) (by rw [List.length_take]; have : up26.length = 26 := rfl; omega)
   have hk : s[st.length]? = some (.lst ((((up26.take i).filter (keepN ns a b)).map (wRen ns V a b)).map tx)) := by rw [q2]; exact Yo
   have hset : ∀ o : O, s.set st.length o = st ++ [o] := fun o => by rw [q2]; simp
   have hput : ∀ w : List Nat, appendP (.ref st.length) [tx w] s = some (.non, st ++ [.lst ((((up26.take i).filter (keepN ns a b)).map (wRen ns V a b)).map tx ++ [tx w])]) := fun w => by rw [YbK hk (by omega), hset]
   rw [et, List.filter_append, List.map_append, List.map_append]
   generalize (((up26.take i).filter (keepN ns a b)).map (wRen ns V a b)).map tx = ys at hk hput h26 q2
   generalize up26[i] = c
   unfold Zy
   walk_at "ev"
   rw [Ybk hk]
   by_cases hb : c = b
   ·subst hb
    have e0 : keepN ns a c c = true := by unfold keepN; rw [decide_eq_true rfl]; rfl
    have e9 : wRen ns V a c c = wordOf ns V a := if_pos rfl
    rw [List.filter_cons_of_pos e0, List.filter_nil, List.map_cons, List.map_nil, List.map_cons, List.map_nil, e9]
    walk_at "ev"
    rw [Ybm ha]
    walk_at "ev"
    rw [Ydt h ha]
    walk_at "ev"
    rw [hput]
    walk_at "ev"
    exact ⟨_, _, rfl, _, rfl, rfl⟩
   ·have hb2 : ([c] = [b]) = False := by simpa using hb
    simp only [hb2]
    walk_at "ev"
    have e9 : wRen ns V a b c = wordOf ns V c := if_neg hb
    by_cases hc : c ∈ ns
    ·rw [decide_eq_true hc]
     by_cases hca : c = a
     ·subst hca
      have e0 : ¬ keepN ns c b c = true := by unfold keepN; rw [decide_eq_false hb, decide_eq_true rfl]; simp
      rw [List.filter_cons_of_neg e0, List.filter_nil, List.map_nil, List.map_nil, List.append_nil]
      walk_at "ev"
      exact ⟨_, _, rfl, _, rfl, q2⟩
     ·have e0 : keepN ns a b c = true := by unfold keepN; rw [decide_eq_true hc, decide_eq_false hca]; simp
      rw [List.filter_cons_of_pos e0, List.filter_nil, List.map_cons, List.map_nil, List.map_cons, List.map_nil, e9]
      have hc2 : ([c] = [a]) = False := by simpa using hca
      simp only [hc2]
      walk_at "ev"
      rw [Ybm hc]
      walk_at "ev"
      rw [Ydt h hc]
      walk_at "ev"
      rw [hput, Ybk hk]
      walk_at "ev"
      exact ⟨_, _, rfl, _, rfl, rfl⟩
    ·have e0 : ¬ keepN ns a b c = true := by unfold keepN; rw [decide_eq_false hb, decide_eq_false hc]; simp
     rw [decide_eq_false hc, List.filter_cons_of_neg e0, List.filter_nil, List.map_nil, List.map_nil, List.append_nil]
     walk_at "ev"
     exact ⟨_, _, rfl, _, rfl, q2⟩)
 rw [e1, e2, e3]
 walk_at "ev"
 rw [VH (Yg Yo)]
 walk_at "ev"
 rw [List.take_of_length_le (Nat.le_refl _)]
 exact ⟨_, rfl, Grow.one⟩
theorem YcT {tb : Sys} {a b : Nat} (ia : a ∈ allL tb) (ub : isUp b = true) : up26.filter (keepN (nsOf tb) a b) = nsOf (ren a b tb) := by
 show _ = up26.filter _
 refine List.filter_congr fun c hc => ?_
 have hu := mem_up26.mp hc
 have : (keepN (nsOf tb) a b c = true) ↔ c ∈ allL (ren a b tb) := by
  unfold keepN
  rw [Bool.or_eq_true, Bool.and_eq_true, decide_eq_true_iff, decide_eq_true_iff, Bool.not_eq_true', decide_eq_false_iff_not, mem_nsOf, V3 ia]
  exact ⟨fun z => z.imp id fun z => ⟨z.1.2, z.2⟩, fun z => z.imp id fun z => ⟨⟨hu, z.1⟩, z.2⟩⟩
 rw [Bool.eq_iff_iff, this, decide_eq_true_iff]
structure Sm (tb : Sys) : Prop where
 six : tb.length <= 6
 most : (allL tb).length <= 1000
 lets : ∀ c ∈ allL tb, isLet c = true
theorem Sm.lens {tb : Sys} (h : Sm tb) : Lens tb := ⟨h.six, fun e he => by
 have := W8 he
 have := h.most
 omega⟩
theorem Sm.swp {tb : Sys} (h : Sm tb) : Sm (swp tb) := ⟨h.lens.swp.1, by rw [Yhq]; exact h.most, fun c hc => h.lets c (mem_swp.mp hc)⟩
theorem Sm.mir {tb : Sys} (h : Sm tb) : Sm (mir tb) := ⟨h.lens.mir.1, by rw [Yg7]; exact h.most, fun c hc => h.lets c (mem_mir.mp hc)⟩
theorem Sm.rev {tb : Sys} (h : Sm tb) : Sm tb.reverse := ⟨by rw [List.length_reverse]; exact h.six, by rw [Yhs]; exact h.most, fun c hc => h.lets c (mem_rev.mp hc)⟩
theorem Sm.ren {tb : Sys} {a b : Nat} (h : Sm tb) (ia : a ∈ allL tb) (ub : isUp b = true) : Sm (ren a b tb) := ⟨h.lens.ren.1, by rw [Yhx]; exact h.most, fun c hc => by
 rcases (V3 ia).mp hc with z | z
 ·rw [z]; unfold isLet; rw [ub, Bool.or_true]
 ·exact h.lets c z.1⟩
theorem ZB {tb : Sys} {V : List (List Nat)} {st : Stor} (S : Sm tb) (D : Wds (nsOf tb) V) : ∃ st', YF [encSys tb, .tup (V.map tx)] st = .ok (.bl (isAns tb (nsOf tb) V)) st' /\ Grow st st' := Yet D S.most (by have := S.six; omega) S.lets
theorem Yaz {tb : Sys} {V : List (List Nat)} {a b : Nat} {st : Stor} (S : Sm tb) (D : Wds (nsOf tb) V) (hab : nsOf tb ≠ [] -> a ∈ nsOf tb /\ isUp b = true /\ b ∉ allL tb) :
 ∃ st', Yx [encSys tb, tx (nsOf tb), .tup (V.map tx), tx [a], tx [b], .bl (isAns tb (nsOf tb) V)] st = .ok (.bl true) st' /\ Grow st st' := by
 unfold Yx ZX
 simp only [s_e]
 obtain ⟨s1, t1, g1⟩ := ZB (st := st) S D
 have n2 : nsOf (swp tb) = nsOf tb := WL fun c => mem_swp
 obtain ⟨s2, t2, g2⟩ := ZB (st := s1) S.swp (V := V) (by rw [n2]; exact D)
 rw [n2, YgL] at t2
 have n3 : nsOf (mir tb) = nsOf tb := WL fun c => mem_mir
 obtain ⟨s3, t3, g3⟩ := ZB (st := s2) S.mir (V := V.map List.reverse) (by rw [n3]; exact ⟨by rw [List.length_map]; exact D.len, fun w hw => by
  obtain ⟨u, hu, rfl⟩ := List.mem_map.mp hw
  rw [List.length_reverse]
  exact D.each u hu⟩)
 rw [n3, Yhc] at t3
 have n4 : nsOf tb.reverse = nsOf tb := WL fun c => mem_rev
 obtain ⟨s4, t4, g4⟩ := ZB (st := s3) S.rev (V := V) (by rw [n4]; exact D)
 rw [n4, Yg0] at t4
 walk_at "ev"
 rw [t1]
 walk_at "ev"
 rw [We, beq_self_eq_true]
 walk_at "ev"
 rw [turned (by have := S.six; omega)]
 walk_at "ev"
 rw [t2]
 walk_at "ev"
 rw [We, beq_self_eq_true]
 walk_at "ev"
 rw [mirrored S.lens]
 walk_at "ev"
 rw [List.length_map]
 have hV : V.length <= 1000 := by rw [<- D.len]; exact Nat.le_trans (List.length_filter_le ..) (by decide)
 rw [Zd (src := srcL (V.map tx)) V tx (fun w => tx w.reverse) (by simp) (fun i hi => nxL) (by omega) fun w hw => ⟨[some (tx w)], rfl, Yh7 rfl (by have := D.each w hw; omega)⟩]
 walk_at "ev"
 have hm : V.map (fun w => tx w.reverse) = (V.map List.reverse).map tx := by rw [List.map_map]; rfl
 rw [hm, t3]
 walk_at "ev"
 rw [We, beq_self_eq_true]
 walk_at "ev"
 have hr : ∀ ρ : Rho, ρ[0]? = some (some (encSys tb)) -> eRevX (eVar 0) ρ s3 = .ok (encSys tb.reverse) s3 := fun ρ h0 => by
  have : eVar 0 ρ s3 = .ok (.tup (tb.map encEq)) s3 := by
   rw [Ycz, h0]; rfl
  rw [YhS this, <- List.map_reverse]
  rfl
 rw [hr _ rfl]
 walk_at "ev"
 rw [t4]
 walk_at "ev"
 rw [We, beq_self_eq_true]
 walk_at "ev"
 by_cases hn : nsOf tb = []
 ·rw [decide_eq_true hn]
  walk_at "ev"
  exact ⟨_, rfl, ((g1.trans g2).trans g3).trans g4⟩
 ·obtain ⟨ha, ub, ib⟩ := hab hn
  have ⟨ua, ia⟩ := mem_nsOf.mp ha
  obtain ⟨s5, t5, g5⟩ := renamed (a := a) (b := b) (st := s4) S.lens S.most S.lets ua ub ia ib
  obtain ⟨s6, t6, g6⟩ := YdX (a := a) (b := b) (st := s5) D.len ha
  rw [YcT ia ub] at t6
  obtain ⟨s7, t7, g7⟩ := ZB (st := s6) (S.ren ia ub) (V := (nsOf (ren a b tb)).map (wRen (nsOf tb) V a b)) ⟨by rw [List.length_map], fun w hw => by
   obtain ⟨c, hc, rfl⟩ := List.mem_map.mp hw
   unfold wRen
   have hwd : ∀ d, (wordOf (nsOf tb) V d).length <= 30 := fun d => by
    unfold wordOf
    rw [List.getD_eq_getElem?_getD]
    cases q : V[(nsOf tb).idxOf d]? with
    | none => exact Nat.zero_le _
    | some w => exact D.each w (List.mem_of_getElem? q)
   split
   ·exact hwd a
   ·exact hwd c⟩
  rw [Ygz D.len ua ub ia ib] at t7
  rw [decide_eq_false hn]
  walk_at "ev"
  rw [t5]
  walk_at "ev"
  rw [t6]
  walk_at "ev"
  rw [t7]
  walk_at "ev"
  rw [We, beq_self_eq_true]
  exact ⟨_, rfl, (((((g1.trans g2).trans g3).trans g4).trans g5).trans g6).trans g7⟩
theorem s_1A : P.str "A" = tx [65] := congrArg P.str (by decide +kernel)
theorem YeZ {V : List (List Nat)} {k : Nat} {w : List Nat} {st : Stor} (hk : k < V.length) (hV : V.length <= 26) :
 (addP (.tup (cutP (V.map tx) none (some (k : Int)))) (.tup [tx w]) st = some (.tup ((V.take k ++ [w]).map tx), st)) /\ addP (.tup ((V.take k ++ [w]).map tx)) (.tup (cutP (V.map tx) (some ((k : Int) + 1)) none)) st = some (.tup ((V.set k w).map tx), st) := by
 have e1 : cutP (V.map tx) none (some (k : Int)) = (V.take k).map tx := by rw [YhZ, List.map_take]
 have e2 : cutP (V.map tx) (some ((k : Int) + 1)) none = (V.drop (k + 1)).map tx := by
  have := YeG (xs := V.map tx) (a := k + 1)
  rw [show ((k : Int) + 1) = ((k + 1 : Nat) : Int) by omega, this, List.map_drop]
 rw [e1, e2]
 constructor
 ·rw [Vz (by rw [List.length_map, List.length_take, List.length_singleton]; omega), List.map_append]
  rfl
 ·rw [Vz (by rw [List.length_map, List.length_map, List.length_append, List.length_take, List.length_drop, List.length_singleton]; omega), List.set_eq_take_append_cons_drop, if_pos hk, <- List.map_append, List.append_assoc]
  rfl
theorem Yep {ns : List Nat} (h : ns.length <= 6) : 1 <= (up26.filter fun c => !decide (c ∈ ns)).length := by
 rcases Nat.eq_zero_or_pos (up26.filter fun c => !decide (c ∈ ns)).length with z | z
 ·have hall : ∀ c ∈ up26, c ∈ ns := fun c hc => by
   have := List.filter_eq_nil_iff.mp (List.eq_nil_of_length_eq_zero z) c hc
   simpa using this
  have := Wq (l := up26) (m := ns) (by decide) hall
  have : up26.length = 26 := rfl
  omega
 ·exact z
theorem holds : Law 63 Ybz := fun ns hl => by
 unfold Ybz Yga
 simp only [s_e, s_1A, YcY]
 walk_at "ev"
 generalize hst0 : [O.ro (ns.map P.int)] = st0
 have k0 : st0[0]? = some (.ro (ns.map P.int)) := by rw [<- hst0]; rfl
 obtain ⟨tb, N, W, S, kvs, s1, t1, D, Y, h3, h1, k1⟩ := Ybb (k0 := 0) k0 (by omega)
 rw [t1]
 walk_at "ev"
 have hal := Ya7 Y.each
 have h1000 : (allL tb).length <= 900 := Nat.le_trans hal (Nat.le_trans (Nat.mul_le_mul_left 300 h3) (by omega))
 have hlet : ∀ c ∈ allL tb, isLet c = true := fun c hc => by
  unfold isLet
  rcases Y.lets c hc with h | h
  ·rw [D.up c h, Bool.or_true]
  ·rw [h]; rfl
 have Sm0 : Sm tb := ⟨by omega, by omega, hlet⟩
 have hin : ∀ c ∈ nsOf tb, c ∈ N /\ c ∈ allL tb := fun c hc => by
  have hn2 := List.mem_filter.mp hc
  have hin : c ∈ allL tb := by simpa using hn2.2
  exact ⟨(Y.lets c hin).resolve_right fun z2 => YaO (mem_up26.mp hn2.1) z2, hin⟩
 have hns6 : (nsOf tb).length <= 6 := Nat.le_trans (Wq (WR tb) fun c hc => (hin c hc).1) D.n4
 have hvm : (nsOf tb).map (fun c => tx (wordOf N W c)) = ((nsOf tb).map (wordOf N W)).map tx := by rw [List.map_map]; rfl
 rw [hvm]
 have D9 : ∀ w ∈ (nsOf tb).map (wordOf N W), w.length <= 9 := fun w hw => by
  obtain ⟨c, hc, rfl⟩ := List.mem_map.mp hw
  exact D.w9 _ (D.word (hin c hc).1)
 have D0 : Wds (nsOf tb) ((nsOf tb).map (wordOf N W)) := ⟨by rw [List.length_map], fun w hw => by
  have := D9 w hw
  omega⟩
 have hA0 : isAns tb (nsOf tb) ((nsOf tb).map (wordOf N W)) = true := by
  unfold isAns
  rw [List.all_eq_true]
  intro e he
  rw [decide_eq_true_iff, Ve D0.len, Ve D0.len]
  have key : ∀ l : List Nat, (∀ c ∈ l, c ∈ allL tb) -> fillL (nsOf tb) (wordOf (nsOf tb) ((nsOf tb).map (wordOf N W))) l = fillL N (wordOf N W) l := fun l hl => Yc3 fun c hc => ⟨⟨fun z => (hin c z).1, fun z => by
   unfold nsOf
   rw [List.mem_filter, mem_up26, decide_eq_true_iff]
   exact ⟨D.up c z, hl c hc⟩⟩, fun z => Jx z⟩
  rw [key e.1 fun c hc => mem_allL.mpr ⟨e, he, .inl hc⟩, key e.2 fun c hc => mem_allL.mpr ⟨e, he, .inr hc⟩]
  exact Y.fill e he
 generalize hV0 : (nsOf tb).map (wordOf N W) = V0 at D0 D9 hA0 ⊢
 have hV6 : V0.length <= 6 := by rw [<- D0.len]; exact hns6
 have c1 : Yd [.ref 0, .int 1] s1 = .ok (.int (ns.getD 1 0)) s1 := Wx 1 k1
 rw [c1]
 generalize ns.getD 1 0 = cell
 walk_at "ev"
 rw [Wl (src := srcS (sT up26)) (g := mgName 0) up26 (fun c => tx [c]) (fun c => !decide (c ∈ nsOf tb)) (fun c => tx [c]) rfl (fun i hi => nxS hi) (by decide) (fun c hc => ⟨[some (tx [c]), some (tx (nsOf tb))], rfl, by walk_at "ev"; rw [Js]; walk_at "ev", fun _ => by walk_at "ev"⟩)]
 have hot := Yep hns6
 have hoth : ∀ c ∈ up26.filter (fun c => !decide (c ∈ nsOf tb)), isUp c = true /\ c ∉ allL tb := fun c hc => by
  have hc2 := List.mem_filter.mp hc
  have hu := mem_up26.mp hc2.1
  refine ⟨hu, fun z => ?_⟩
  have := hc2.2
  rw [decide_eq_true (mem_nsOf.mpr ⟨hu, z⟩)] at this
  cases this
 have hoc : (up26.filter (fun c => !decide (c ∈ nsOf tb))).length <= 26 := List.length_filter_le ..
 generalize up26.filter (fun c => !decide (c ∈ nsOf tb)) = others at hot hoth hoc ⊢
 walk_at "ev"
 generalize hs2 : s1 ++ [O.lst (others.map fun c => tx [c])] = s2
 have kO : s2[s1.length]? = some (.lst (others.map fun c => tx [c])) := by rw [<- hs2]; exact Yo
 obtain ⟨a, ha, ea⟩ : ∃ a, (nsOf tb ≠ [] -> a ∈ nsOf tb) /\ ixP (tx (nsOf tb ++ [65])) (.int (cell / 7 % (if ((nsOf tb).length : Int) > 1 then ((nsOf tb).length : Int) else 1))) s2 = some (tx [a], s2) := by
  by_cases hn : nsOf tb = []
  ·rw [hn]
   refine ⟨65, fun z => absurd rfl z, ?_⟩
   rw [if_neg (by simp)]
   rw [show cell / 7 % 1 = 0 by omega]
   rfl
  ·have hpos : 0 < (nsOf tb).length := List.length_pos_iff.mpr hn
   have e : (if ((nsOf tb).length : Int) > 1 then ((nsOf tb).length : Int) else 1) = (nsOf tb).length := by split <;> omega
   rw [e]
   have b1 := Int.emod_nonneg (cell / 7) (show ((nsOf tb).length : Int) ≠ 0 by omega)
   have b2 := Int.emod_lt_of_pos (cell / 7) (show (0 : Int) < ((nsOf tb).length : Int) by omega)
   obtain ⟨c, c1, c2⟩ := Wv (l := nsOf tb ++ [65]) (st := s2) (i := cell / 7 % ((nsOf tb).length : Int)) b1 (by rw [List.length_append, List.length_singleton]; omega) (by rw [List.length_append, List.length_singleton]; omega)
   refine ⟨c, fun _ => ?_, c2⟩
   rw [List.getElem?_append_left (by omega)] at c1
   exact List.mem_of_getElem? c1
 rw [ea]
 walk_at "ev"
 rw [Yg5 (Yg kO), List.length_map]
 walk_at "ev"
 obtain ⟨b, hb, eb⟩ := Ji (st := s2) (k := s1.length) (xs := others) (f := fun c => tx [c]) (i := cell / 28 % (others.length : Int)) kO (Int.emod_nonneg _ (by omega)) (Int.emod_lt_of_pos _ (by omega))
 rw [eb]
 walk_at "ev"
 have hab : nsOf tb ≠ [] -> a ∈ nsOf tb /\ isUp b = true /\ b ∉ allL tb := fun z => ⟨ha z, hoth b hb⟩
 obtain ⟨s3, t3, g3⟩ := Yaz (st := s2) Sm0 D0 hab
 rw [hA0] at t3
 rw [t3]
 walk_at "ev"
 rw [List.length_map]
 first | rw [Int.toNat_natCast] | skip
 obtain ⟨d, hd, ed⟩ : ∃ d, True /\ ∀ s : Stor, ixP (.str "ab") (.int (cell / 11 % 2)) s = some (tx [d], s) := by
  have : cell / 11 % 2 = 0 \/ cell / 11 % 2 = 1 := by omega
  rw [s_ab]
  rcases this with z | z
  ·rw [z]; exact ⟨97, trivial, fun s => rfl⟩
  ·rw [z]; exact ⟨98, trivial, fun s => rfl⟩
 obtain ⟨ρ', s4, e1, v8, v9, e2, e3⟩ := Zw (src := srcR 0 V0.length) (g := mgName 8) (m := YcE) (N := V0.length) (ρ := [some (.ref 0), some (encSys tb), some (tx (nsOf tb)), some (.tup (V0.map tx)), some (.int cell), some (.ref s1.length), some (tx [a]), some (tx [b]), none, none]) (st := s3) (List.range V0.length) (fun (k : Nat) => P.int (0 + k))
  (fun i ρ s => ∃ v8 v9, ρ = [some (.ref 0), some (encSys tb), some (tx (nsOf tb)), some (.tup (V0.map tx)), some (.int cell), some (.ref s1.length), some (tx [a]), some (tx [b]), v8, v9] /\ Grow s3 s) (by simp) (fun i ρ s hi _ => nxR) ⟨none, none, rfl, Grow.refl⟩
  (fun i hi ρ s ⟨v8, v9, q1, q2⟩ => by
   subst q1
   refine ⟨_, rfl, ?_⟩
   rw [List.length_range] at hi
   rw [List.getElem_range, Int.zero_add]
   unfold YcE
   have hwi : V0[i]? = some (V0.getD i []) := by rw [List.getD_eq_getElem?_getD, List.getElem?_eq_getElem hi]; rfl
   have hw9 : (V0.getD i []).length <= 9 := D9 _ (List.mem_of_getElem? hwi)
   generalize V0.getD i [] = w at hwi hw9
   have ex : ixP (.tup (V0.map tx)) (.int (i : Int)) s = some (tx w, s) := YbF (by omega) (by rw [Int.toNat_natCast, List.getElem?_map, hwi]; rfl)
   obtain ⟨p1, p2⟩ := YeZ (V := V0) (k := i) (w := w ++ [d]) (st := s) hi (by omega)
   have DV : Wds (nsOf tb) (V0.set i (w ++ [d])) := ⟨by rw [List.length_set]; exact D0.len, fun u hu => by
    rcases List.mem_or_eq_of_mem_set hu with h | h
    ·exact D0.each u h
    ·rw [h, List.length_append, List.length_singleton]; omega⟩
   generalize V0.set i (w ++ [d]) = V1 at p2 DV
   generalize hR : (sIf (eNotT (eTru (eCall 6 Yx (aCons (eVar 1) (aCons (eVar 2) (aCons (eVar 9) (aCons (eVar 6) (aCons (eVar 7) (aCons (eCall 2 YF (aCons (eVar 1) (aCons (eVar 9) aNil))) aNil))))))))) (sRet (eC (.bl false))) sNil : MS) = REST
   walk_at "ev"
   rw [ex]
   walk_at "ev"
   rw [ed]
   walk_at "ev"
   rw [p1]
   walk_at "ev"
   rw [p2]
   walk_at "ev"
   rw [<- hR]
   obtain ⟨a1, b1, d1⟩ := ZB (st := s) Sm0 DV
   obtain ⟨a2, b2, d2⟩ := Yaz (st := a1) Sm0 DV hab
   walk_at "ev"
   rw [b1]
   walk_at "ev"
   rw [b2]
   walk_at "ev"
   exact ⟨_, _, rfl, _, _, rfl, q2.trans (d1.trans d2)⟩)
 rw [e1, e2]
 walk_at "ev"
 exact ⟨_, rfl⟩
end G
def PySem.W.Fast.tw6381720366342769228 : Unit := ()
def PySem.W.Fast.tw11722645605587961362 : Unit := ()
def PySem.W.Fast.tw10632795442181522481 : Unit := ()
def PySem.W.Fast.tw9685201925292223289 : Unit := ()
def PySem.W.Fast.tw18315758215997878924 : Unit := ()
def PySem.W.Fast.tw1267813833064617996 : Unit := ()
def PySem.W.Fast.tw8135246916083112758 : Unit := ()
def PySem.W.Fast.tw10942161679375355884 : Unit := ()
def PySem.W.Fast.tw4623325320888787170 : Unit := ()
def PySem.W.Fast.tw8654080187749486497 : Unit := ()
def PySem.W.Fast.tw10988920580130350487 : Unit := ()
def PySem.W.Fast.tw9385478529158193623 : Unit := ()
def PySem.W.Fast.tw15170392014541948365 : Unit := ()
def PySem.W.Fast.tw12292960739403728723 : Unit := ()
def PySem.W.Fast.tw10550619722125415921 : Unit := ()
def PySem.W.Fast.tw7947924720204193470 : Unit := ()
def PySem.W.Fast.tw13443304958403253214 : Unit := ()
def PySem.W.Fast.tw2996653612647568335 : Unit := ()
def PySem.W.Fast.tw12181625612946389800 : Unit := ()
def PySem.W.Fast.tw14023685918461662462 : Unit := ()
def PySem.W.Fast.tw3707861605394365443 : Unit := ()
def PySem.W.Fast.tw11838574737952180801 : Unit := ()
def PySem.W.Fast.tw13207977917626201088 : Unit := ()
def PySem.W.Fast.tw8853879580643255364 : Unit := ()
def PySem.W.Fast.tw9670551413524460574 : Unit := ()
def PySem.W.Fast.tw8684824326668348309 : Unit := ()
def PySem.W.Fast.tw2612216466559185385 : Unit := ()
def PySem.W.Fast.tw10962598240785986692 : Unit := ()
def PySem.W.Fast.tw17785980222958840487 : Unit := ()
def PySem.W.Fast.tw10927875446356218706 : Unit := ()
def PySem.W.Fast.tw12492546981652375033 : Unit := ()
def PySem.W.Fast.tw4686072173187230748 : Unit := ()
def PySem.W.Fast.tw2568801469035006089 : Unit := ()
def PySem.W.Fast.tw7597100242294990897 : Unit := ()
def PySem.W.Fast.tw1352765467709758663 : Unit := ()
def PySem.W.Fast.tw8257944860357160141 : Unit := ()
def PySem.W.Fast.tw1993309779965996737 : Unit := ()
def PySem.W.Fast.tw5887679616096881114 : Unit := ()
def PySem.W.Fast.tw10638493324917474343 : Unit := ()
open PySem PySem.W PyProof.Rows
set_option maxRecDepth 100000 in
set_option maxHeartbeats 0 in
theorem PySem.Challenge.cw_gapwords_k18_whole_answers_go_along_holds : PySem.Challenge.rw_gapwords_k18_whole_answers_go_along.Holds := by
 w_on; o_law; k_head; (case hw => w_witness2)
 k_fill
 refine G.walk rfl rfl (fun w h Y => PySem.W.kIn_of Y) (fun w => ?S) G.holds
 case S =>
  refine' ⟨(Mi.DefAt.of ?_ ?_ ?_ ?_), (Mi.DefAt.of ?_ ?_ ?_ ?_), (Mi.DefAt.of ?_ ?_ ?_ ?_), (Mi.DefAt.of ?_ ?_ ?_ ?_), (Mi.DefAt.of ?_ ?_ ?_ ?_), (Mi.DefAt.of ?_ ?_ ?_ ?_), (Mi.DefAt.of ?_ ?_ ?_ ?_), (Mi.DefAt.of ?_ ?_ ?_ ?_), (Mi.DefAt.of ?_ ?_ ?_ ?_), (Mi.DefAt.of ?_ ?_ ?_ ?_), (Mi.DefAt.of ?_ ?_ ?_ ?_), (Mi.DefAt.of ?_ ?_ ?_ ?_), (Mi.DefAt.of ?_ ?_ ?_ ?_), (Mi.DefAt.of ?_ ?_ ?_ ?_), (Mi.DefAt.of ?_ ?_ ?_ ?_), (Mi.DefAt.of ?_ ?_ ?_ ?_), (Mi.DefAt.of ?_ ?_ ?_ ?_), (Mi.DefAt.of ?_ ?_ ?_ ?_), (Mi.DefAt.of ?_ ?_ ?_ ?_), (Mi.DefAt.of ?_ ?_ ?_ ?_), (Mi.DefAt.of ?_ ?_ ?_ ?_), ?_, ?_, ?_, ?_, ?_, ?_, ?_, ?_, ?_, ?_, ?_, ?_, ?_⟩
  any_goals (first | k_is | k_exc | kit_is)
  all_goals kernel_rfl
#print axioms PySem.Challenge.cw_gapwords_k18_whole_answers_go_along_holds
